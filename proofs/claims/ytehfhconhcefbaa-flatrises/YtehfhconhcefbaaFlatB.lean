import Derived.Test.YtehfhconhcefbaaFlatA
namespace Go.Proofs.Ytehfhconhcefbaa
open Go Go.RowKit Go.Sort

set_option maxHeartbeats 2000000 in
theorem sn_any (v : V) (w : World) :
    Calls Try.prog 32 #[v.val] w fun e w' => e = .returned v.sn.val ∧ Below w.heap.size w w' := by
  obtain ⟨k, c⟩ := v
  obtain ⟨s, hs⟩ : ∃ s, decide (V.sane ⟨k, c⟩) = s := ⟨_, rfl⟩
  have HC := Lib.hid (fun W => Sane_any ⟨k, c⟩ W)
  rw [hs] at HC
  have hsn : V.sn ⟨k, c⟩ = if s then ⟨k, c⟩ else vtop := by rw [← hs]; unfold V.sn; by_cases h : V.sane ⟨k, c⟩ <;> simp [h]
  rw [hsn]
  clear hsn hs
  unfold V.val at HC ⊢
  have B0 := (Box.new w (.int .i64 k) (.int .i64 c) 25).alloc (.cells #[.int .i64 0, .int .i64 0] 25)
  have R0 := Box.new (w.alloc (.cells #[.int .i64 k, .int .i64 c] 25)) (.int .i64 0) (.int .i64 0) 25
  have hW := below2 w (.cells #[.int .i64 k, .int .i64 c] 25) (.cells #[.int .i64 0, .int .i64 0] 25)
  rw [World.size_alloc] at R0
  generalize hE : (w.alloc (.cells #[.int .i64 k, .int .i64 c] 25)).alloc (.cells #[.int .i64 0, .int .i64 0] 25) = W at *
  have HW := Lib.hid hW
  obtain ⟨c0, c1, -, -⟩ := id B0
  clear hW
  cases s with
  | true =>
    go_enter Try.func32, Try.ntmps32
    go_wp2_with (go_at_call 11; refine (HC.out _).mono ?_; clear HC c0 c1; rintro e w1 ⟨rfl, hb⟩; obtain ⟨d0, d1, -, -⟩ := B0.below hb B0.lt; obtain ⟨d2, d3, g2, g3⟩ := R0.below hb R0.lt; have HB := Lib.hid (HW.out.trans (hb.mono HW.out.size)); clear hb B0 R0)
    have hb2 := below_put2 HB.out (b := w.heap.size + 1) (by omega) (.int .i64 k) (.int .i64 c)
    exact bodyPost_ret (v := .agg #[.int .i64 k, .int .i64 c]) (by simp [results, Try.results32, go_sem, d2, d3]) rfl ⟨rfl, hb2⟩
  | false =>
    go_enter Try.func32, Try.ntmps32
    go_wp2_with (go_at_call 11; refine (HC.out _).mono ?_; clear HC c0 c1; rintro e w1 ⟨rfl, hb⟩; obtain ⟨d0, d1, -, -⟩ := B0.below hb B0.lt; obtain ⟨d2, d3, g2, g3⟩ := R0.below hb R0.lt; have HB := Lib.hid (HW.out.trans (hb.mono HW.out.size)); clear hb B0 R0)
    have hb2 := below_put2 HB.out (b := w.heap.size + 1) (by omega) (.int .i64 2) (.int .i64 0)
    exact bodyPost_ret (v := .agg #[.int .i64 2, .int .i64 0]) (by simp [results, Try.results32, go_sem, d2, d3]) rfl ⟨rfl, hb2⟩

set_option maxHeartbeats 2000000 in
theorem rsn_any (v : V) (w : World) :
    Calls Try.prog 34 #[v.val] w fun e w' => e = .returned v.sn.val ∧ Below w.heap.size w w' := by
  obtain ⟨k, c⟩ := v
  obtain ⟨s, hs⟩ : ∃ s, decide (V.sane ⟨k, c⟩) = s := ⟨_, rfl⟩
  have HC := Lib.hid (fun W => rSane_any ⟨k, c⟩ W)
  rw [hs] at HC
  have hsn : V.sn ⟨k, c⟩ = if s then ⟨k, c⟩ else vtop := by rw [← hs]; unfold V.sn; by_cases h : V.sane ⟨k, c⟩ <;> simp [h]
  rw [hsn]
  clear hsn hs
  unfold V.val at HC ⊢
  have B0 := (Box.new w (.int .i64 k) (.int .i64 c) 23).alloc (.cells #[.int .i64 0, .int .i64 0] 23)
  have R0 := Box.new (w.alloc (.cells #[.int .i64 k, .int .i64 c] 23)) (.int .i64 0) (.int .i64 0) 23
  have hW := below2 w (.cells #[.int .i64 k, .int .i64 c] 23) (.cells #[.int .i64 0, .int .i64 0] 23)
  rw [World.size_alloc] at R0
  generalize hE : (w.alloc (.cells #[.int .i64 k, .int .i64 c] 23)).alloc (.cells #[.int .i64 0, .int .i64 0] 23) = W at *
  have HW := Lib.hid hW
  obtain ⟨c0, c1, -, -⟩ := id B0
  clear hW
  cases s with
  | true =>
    go_enter Try.func34, Try.ntmps34
    go_wp2_with (go_at_call 12; refine (HC.out _).mono ?_; clear HC c0 c1; rintro e w1 ⟨rfl, hb⟩; obtain ⟨d0, d1, -, -⟩ := B0.below hb B0.lt; obtain ⟨d2, d3, g2, g3⟩ := R0.below hb R0.lt; have HB := Lib.hid (HW.out.trans (hb.mono HW.out.size)); clear hb B0 R0)
    have hb2 := below_put2 HB.out (b := w.heap.size + 1) (by omega) (.int .i64 k) (.int .i64 c)
    exact bodyPost_ret (v := .agg #[.int .i64 k, .int .i64 c]) (by simp [results, Try.results34, go_sem, d2, d3]) rfl ⟨rfl, hb2⟩
  | false =>
    go_enter Try.func34, Try.ntmps34
    go_wp2_with (go_at_call 12; refine (HC.out _).mono ?_; clear HC c0 c1; rintro e w1 ⟨rfl, hb⟩; obtain ⟨d0, d1, -, -⟩ := B0.below hb B0.lt; obtain ⟨d2, d3, g2, g3⟩ := R0.below hb R0.lt; have HB := Lib.hid (HW.out.trans (hb.mono HW.out.size)); clear hb B0 R0)
    have hb2 := below_put2 HB.out (b := w.heap.size + 1) (by omega) (.int .i64 2) (.int .i64 0)
    exact bodyPost_ret (v := .agg #[.int .i64 2, .int .i64 0]) (by simp [results, Try.results34, go_sem, d2, d3]) rfl ⟨rfl, hb2⟩

set_option maxHeartbeats 2000000 in
theorem Height_any (v : V) (w : World) :
    Calls Try.prog 22 #[v.val] w fun e w' => e = .returned (.int .i64 (hgt v)) ∧ Below w.heap.size w w' := by
  unfold hgt
  have HC := Lib.hid (fun W => sn_any v W)
  generalize v.sn = u at *
  obtain ⟨k, c⟩ := v
  obtain ⟨k', c'⟩ := u
  unfold V.val at HC ⊢
  have HW := Lib.hid (below1 w (.cells #[.int .i64 k, .int .i64 c] 25))
  have hfd : ∀ W : World, (Instr.field 25 (.agg #[.int .i64 k', .int .i64 c']) 0).run Try.prog W = .ok (.int .i64 k') W := fun _ => by kernel_rfl
  go_enter Try.func22, Try.ntmps22
  go_wp2_with (go_at_call 32; refine (HC.out _).mono ?_; clear HC; rintro e w1 ⟨rfl, hb⟩; have HB := Lib.hid (HW.out.trans (hb.mono HW.out.size)); clear hb)
  go_ret
  exact ⟨rfl, HB.out⟩

set_option maxHeartbeats 2000000 in
theorem rHeight_any (v : V) (w : World) :
    Calls Try.prog 23 #[v.val] w fun e w' => e = .returned (.int .i64 (hgt v)) ∧ Below w.heap.size w w' := by
  unfold hgt
  have HC := Lib.hid (fun W => rsn_any v W)
  generalize v.sn = u at *
  obtain ⟨k, c⟩ := v
  obtain ⟨k', c'⟩ := u
  unfold V.val at HC ⊢
  have HW := Lib.hid (below1 w (.cells #[.int .i64 k, .int .i64 c] 23))
  have hfd : ∀ W : World, (Instr.field 23 (.agg #[.int .i64 k', .int .i64 c']) 0).run Try.prog W = .ok (.int .i64 k') W := fun _ => by kernel_rfl
  go_enter Try.func23, Try.ntmps23
  go_wp2_with (go_at_call 34; refine (HC.out _).mono ?_; clear HC; rintro e w1 ⟨rfl, hb⟩; have HB := Lib.hid (HW.out.trans (hb.mono HW.out.size)); clear hb)
  go_ret
  exact ⟨rfl, HB.out⟩

set_option maxHeartbeats 1000000 in
theorem rOf_any (n : Int) (w : World) :
    Calls Try.prog 21 #[.int .i64 n] w fun e w' => e = .returned (vone n).val ∧ Below w.heap.size w w' := by
  have HC := Lib.hid (fun W => rWrap_any n W)
  have B0 := Box.new w (.int .i64 0) (.int .i64 0) 23
  have hW := below1 w (.cells #[.int .i64 0, .int .i64 0] 23)
  generalize hE : w.alloc (.cells #[.int .i64 0, .int .i64 0] 23) = W at *
  have HW := Lib.hid hW
  clear hW
  go_enter Try.func21, Try.ntmps21
  go_wp2_with (go_at_call 19; refine (HC.out _).mono ?_; clear HC; rintro e w1 ⟨rfl, hb⟩; have B1 := B0.below hb B0.lt; obtain ⟨d0, d1, g0, g1⟩ := id B1; have HB := Lib.hid (HW.out.trans (hb.mono HW.out.size)); clear hb B0)
  have hb2 := below_put2 HB.out (b := w.heap.size) (Nat.le_refl _) (.int .i64 1) (.int .i64 (w32 n))
  exact bodyPost_ret (v := (vone n).val) (by simp [results, Try.results21, go_sem, d0, d1, V.val, vone]) rfl ⟨rfl, hb2⟩

set_option maxHeartbeats 1000000 in
theorem made_any (k n : Int) (w : World) :
    Calls Try.prog 35 #[.int .i64 k, .int .i64 n] w fun e w' => e = .returned (made k n).val ∧ Below w.heap.size w w' := by
  have HC := Lib.hid (fun W => rOf_any n W)
  have B0 := Box.new w (.int .i64 0) (.int .i64 0) 23
  have hW := below1 w (.cells #[.int .i64 0, .int .i64 0] 23)
  generalize hE : w.alloc (.cells #[.int .i64 0, .int .i64 0] 23) = W at *
  have HW := Lib.hid hW
  clear hW
  by_cases hk : k = 1
  · rw [show made k n = vone n from if_pos hk]
    unfold V.val vone at *
    go_enter Try.func35, Try.ntmps35
    go_wp2_with (go_at_call 21; refine (HC.out _).mono ?_; clear HC; rintro e w1 ⟨rfl, hb⟩; have B1 := B0.below hb B0.lt; obtain ⟨d0, d1, g0, g1⟩ := id B1; have HB := Lib.hid (HW.out.trans (hb.mono HW.out.size)); clear hb B0)
    have hb2 := below_put2 HB.out (b := w.heap.size) (Nat.le_refl _) (.int .i64 1) (.int .i64 (w32 n))
    exact bodyPost_ret (v := .agg #[.int .i64 1, .int .i64 (w32 n)]) (by simp [results, Try.results35, go_sem, d0, d1]) rfl ⟨rfl, hb2⟩
  · rw [show made k n = ⟨k, 0⟩ from if_neg hk]
    unfold V.val at *
    obtain ⟨d0, d1, g0, g1⟩ := id B0
    clear HC
    go_enter Try.func35, Try.ntmps35
    go_wp2
    have hb2 := below_put2 HW.out (b := w.heap.size) (Nat.le_refl _) (.int .i64 k) (.int .i64 0)
    exact bodyPost_ret (v := .agg #[.int .i64 k, .int .i64 0]) (by simp [results, Try.results35, go_sem, d0, d1]) rfl ⟨rfl, hb2⟩
end Go.Proofs.Ytehfhconhcefbaa
