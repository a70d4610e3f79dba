import Derived.Test.YtkcgbdggipijlaaDoorFlatA
namespace Go.Proofs.YtkcgbdggipijlaaDoor
open Go Go.RowKit Go.Sort

set_option maxHeartbeats 2000000 in
theorem sn_any (v : V) (w : World) :
    Calls Tryd.prog 49 #[v.val] w fun e w' => e = .returned v.sn.val ∧ Below w.heap.size w w' := by
  obtain ⟨k, c⟩ := v
  obtain ⟨s, hs⟩ : ∃ s, decide (V.sane ⟨k, c⟩) = s := ⟨_, rfl⟩
  have HC := Lib.hid (fun W => Sane_any ⟨k, c⟩ W)
  rw [hs] at HC
  have hsn : V.sn ⟨k, c⟩ = if s then ⟨k, c⟩ else vtop := by rw [← hs]; unfold V.sn; by_cases h : V.sane ⟨k, c⟩ <;> simp [h]
  rw [hsn]
  clear hsn hs
  unfold V.val at HC ⊢
  have B0 := (Box.new w (.int .i64 k) (.int .i64 c) 33).alloc (.cells #[.int .i64 0, .int .i64 0] 33)
  have R0 := Box.new (w.alloc (.cells #[.int .i64 k, .int .i64 c] 33)) (.int .i64 0) (.int .i64 0) 33
  have hW := below2 w (.cells #[.int .i64 k, .int .i64 c] 33) (.cells #[.int .i64 0, .int .i64 0] 33)
  rw [World.size_alloc] at R0
  generalize hE : (w.alloc (.cells #[.int .i64 k, .int .i64 c] 33)).alloc (.cells #[.int .i64 0, .int .i64 0] 33) = W at *
  have HW := Lib.hid hW
  obtain ⟨c0, c1, -, -⟩ := id B0
  clear hW
  cases s with
  | true =>
    go_enter Tryd.func49, Tryd.ntmps49
    go_wp2_with (go_at_call 45; refine (HC.out _).mono ?_; clear HC c0 c1; rintro e w1 ⟨rfl, hb⟩; obtain ⟨d0, d1, -, -⟩ := B0.below hb B0.lt; obtain ⟨d2, d3, g2, g3⟩ := R0.below hb R0.lt; have HB := Lib.hid (HW.out.trans (hb.mono HW.out.size)); clear hb B0 R0)
    have hb2 := below_put2 HB.out (b := w.heap.size + 1) (by omega) (.int .i64 k) (.int .i64 c)
    exact bodyPost_ret (v := .agg #[.int .i64 k, .int .i64 c]) (by simp [results, Tryd.results49, go_sem, d2, d3]) rfl ⟨rfl, hb2⟩
  | false =>
    go_enter Tryd.func49, Tryd.ntmps49
    go_wp2_with (go_at_call 45; refine (HC.out _).mono ?_; clear HC c0 c1; rintro e w1 ⟨rfl, hb⟩; obtain ⟨d0, d1, -, -⟩ := B0.below hb B0.lt; obtain ⟨d2, d3, g2, g3⟩ := R0.below hb R0.lt; have HB := Lib.hid (HW.out.trans (hb.mono HW.out.size)); clear hb B0 R0)
    have hb2 := below_put2 HB.out (b := w.heap.size + 1) (by omega) (.int .i64 2) (.int .i64 0)
    exact bodyPost_ret (v := .agg #[.int .i64 2, .int .i64 0]) (by simp [results, Tryd.results49, go_sem, d2, d3]) rfl ⟨rfl, hb2⟩









end Go.Proofs.YtkcgbdggipijlaaDoor