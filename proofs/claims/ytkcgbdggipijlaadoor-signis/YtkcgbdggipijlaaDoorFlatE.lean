import Derived.Test.YtkcgbdggipijlaaDoorFlatD
namespace Go.Proofs.YtkcgbdggipijlaaDoor
open Go Go.RowKit Go.Sort

set_option maxHeartbeats 2000000 in
theorem Add_any (a b : V) (w : World) :
    Calls Tryd.prog 36 #[a.val, b.val] w fun e w' => e = .returned (addV a b).val ∧ Below w.heap.size w w' := by
  have HC := Lib.hid (fun W => combA_any a b W)
  rw [show comb _ a b = addV a b from rfl] at HC
  generalize addV a b = r at *
  obtain ⟨k, c⟩ := a
  obtain ⟨l, d⟩ := b
  obtain ⟨k', c'⟩ := r
  unfold V.val at HC ⊢
  have BR := Box.new ((w.alloc (.cells #[.int .i64 k, .int .i64 c] 33)).alloc (.cells #[.int .i64 l, .int .i64 d] 33)) (.int .i64 0) (.int .i64 0) 33
  have HW := Lib.hid (below3 w (.cells #[.int .i64 k, .int .i64 c] 33) (.cells #[.int .i64 l, .int .i64 d] 33) (.cells #[.int .i64 0, .int .i64 0] 33))
  simp only [World.size_alloc] at BR
  go_enter Tryd.func36, Tryd.ntmps36
  go_wp2_with (go_at_call 51; refine (HC.out _).mono ?_; clear HC; rintro e w1 ⟨rfl, hb⟩; obtain ⟨z0, z1, z2, z3⟩ := BR.below hb BR.lt; have HX := Lib.hid (HW.out.trans (hb.mono HW.out.size)); clear hb BR HW)
  exact bodyPost_ret (v := .agg #[.int .i64 k', .int .i64 c']) (by simp [results, Tryd.results36, go_sem, z0, z1]) rfl ⟨rfl, below_put2 HX.out (b := w.heap.size + 1 + 1) (by omega) _ _⟩

set_option maxHeartbeats 2000000 in
theorem Sub_any (a b : V) (w : World) :
    Calls Tryd.prog 37 #[a.val, b.val] w fun e w' => e = .returned (subV a b).val ∧ Below w.heap.size w w' := by
  have HC := Lib.hid (fun W => combS_any a b W)
  rw [show comb _ a b = subV a b from rfl] at HC
  generalize subV a b = r at *
  obtain ⟨k, c⟩ := a
  obtain ⟨l, d⟩ := b
  obtain ⟨k', c'⟩ := r
  unfold V.val at HC ⊢
  have BR := Box.new ((w.alloc (.cells #[.int .i64 k, .int .i64 c] 33)).alloc (.cells #[.int .i64 l, .int .i64 d] 33)) (.int .i64 0) (.int .i64 0) 33
  have HW := Lib.hid (below3 w (.cells #[.int .i64 k, .int .i64 c] 33) (.cells #[.int .i64 l, .int .i64 d] 33) (.cells #[.int .i64 0, .int .i64 0] 33))
  simp only [World.size_alloc] at BR
  go_enter Tryd.func37, Tryd.ntmps37
  go_wp2_with (go_at_call 51; refine (HC.out _).mono ?_; clear HC; rintro e w1 ⟨rfl, hb⟩; obtain ⟨z0, z1, z2, z3⟩ := BR.below hb BR.lt; have HX := Lib.hid (HW.out.trans (hb.mono HW.out.size)); clear hb BR HW)
  exact bodyPost_ret (v := .agg #[.int .i64 k', .int .i64 c']) (by simp [results, Tryd.results37, go_sem, z0, z1]) rfl ⟨rfl, below_put2 HX.out (b := w.heap.size + 1 + 1) (by omega) _ _⟩





end Go.Proofs.YtkcgbdggipijlaaDoor