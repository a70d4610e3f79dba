/- Instructions: Uses. -/
import Derived.Test.YtbddjneinfkmpaaGreatDoorInsE
namespace Go.Proofs.YtbddjneinfkmpaaGreatDoor.Bi
open Go Go.RowKit Go.Sort

theorem args_cells {W : World} {g : Nat} {v0 v1 v2 v3 v4 v5 v6 v7 x0 x1 x2 : Value} (h : BoxL W g [v0, v1, v2, v3, v4, v5, v6, v7, x0, x1, x2]) (m : Nat) : ∀ j u, ([x0, x1, x2].take m)[j]? = some u → W.cell? ((⟨g, 8, none⟩ : Addr).add j) = some u := by
  intro j u hj
  have hj' : [x0, x1, x2][j]? = some u := by
    rw [List.getElem?_take] at hj
    split at hj
    · exact hj
    · cases hj
  have h2 := (h (8 + j) u (by rw [← hj', show 8 + j = j + 8 by omega]; rfl)).1
  by_cases hj0 : j = 0
  · subst hj0; exact h2
  · simpa [Addr.add, hj0] using h2
/-- What an instruction reads, in order, each as often as it is read. -/
def Ins.reads (i : Ins) : List Int := (if Go.Proofs.YtbddjneinfkmpaaGreatDoor.hasA i.kind then [i.a] else []) ++ (if Go.Proofs.YtbddjneinfkmpaaGreatDoor.hasB i.kind then [i.b] else []) ++ i.args.take i.n.toNat
theorem uses_reads {i : Ins} (h : i.form) : i.uses = (Ins.reads i).foldl addL [] := by
  unfold Ins.uses Ins.reads
  rw [if_pos h, List.foldl_append, List.foldl_append]
  congr 1
  unfold addIf
  cases Go.Proofs.YtbddjneinfkmpaaGreatDoor.hasA i.kind <;> cases Go.Proofs.YtbddjneinfkmpaaGreatDoor.hasB i.kind <;> rfl
theorem form_n {i : Ins} (h : i.form) : i.kind ≠ 7 → i.n = 0 := by
  intro hk
  have := h.2.2.2.2.2.2.2.2.2.2.1
  simp [noneB, hk] at this
  exact this

set_option maxRecDepth 100000 in
set_option maxHeartbeats 16000000 in
theorem Uses_any (i : Ins) (w : World) (hT : KTab w) :
    Calls Tryz.prog 177 #[i.val] w fun e w' => ∃ u, e = .returned u ∧ w'.ownsRow w.heap.size 3 1 u i.uses.length (i.uses.map (Value.int .i64)) ∧ Below w.heap.size w w' := by
  have HW := Lib.hid (below1 w (.cells i.cells.toArray 40))
  have HT := Lib.hid (hT.on HW.out)
  clear hT
  have HB := Lib.hid (BoxL.new w i.cells 40)
  by_cases hf : i.form
  rotate_left
  · have HF := Lib.hid (fun W (h : KTab W) => Form_any i W h false (decide_eq_false hf))
    have hu : i.uses = [] := by unfold Ins.uses; rw [if_neg hf]
    rw [hu]
    clear hf hu
    obtain ⟨id, kind, dst, a, b, c, f, n, x0, x1, x2⟩ := i
    unfold Ins.val at *
    unfold Ins.cells at HB HW HT
    dsimp only at *
    generalize hE : w.alloc (.cells (List.toArray [.int .i64 id, .int .i64 kind, .int .i64 dst, .int .i64 a, .int .i64 b, .int .i64 c, .int .i64 f, .int .i64 n, .int .i64 x0, .int .i64 x1, .int .i64 x2]) 40) = W at HB HW HT
    have hE' : w.alloc (.cells #[.int .i64 id, .int .i64 kind, .int .i64 dst, .int .i64 a, .int .i64 b, .int .i64 c, .int .i64 f, .int .i64 n, .int .i64 x0, .int .i64 x1, .int .i64 x2] 40) = W := hE
    clear hE
    obtain ⟨g, hg⟩ : ∃ g, w.heap.size = g := ⟨_, rfl⟩
    rw [hg] at HB
    have HG := Lib.hid (HB.out.lt (Nat.zero_lt_succ _))
    have k0 := (HB.out 0 _ rfl).1
    have k1 := (HB.out 1 _ rfl).1
    have k2 := (HB.out 2 _ rfl).1
    have k3 := (HB.out 3 _ rfl).1
    have k4 := (HB.out 4 _ rfl).1
    have k5 := (HB.out 5 _ rfl).1
    have k6 := (HB.out 6 _ rfl).1
    have k7 := (HB.out 7 _ rfl).1
    have k8 := (HB.out 8 _ rfl).1
    have k9 := (HB.out 9 _ rfl).1
    have k10 := (HB.out 10 _ rfl).1
    go_enter Tryz.func177, Tryz.ntmps177
    go_wp2_with (first | (go_at_call 102; refine (HF.out _ HT.out).mono ?_; rintro e wa ⟨rfl, hba⟩; have HB2 := Lib.hid (HB.out.below hba HG.out); have HW2 := Lib.hid (HW.out.trans (hba.mono HW.out.size)); have HT2 := Lib.hid (HT.out.on hba); clear HB HW HT HG hba k0 k1 k2 k3 k4 k5 k6 k7 k8 k9 k10))
    go_ret
    exact ⟨_, rfl, World.ownsRow_nil _ _ _ _, HW2.out⟩
  have HF := Lib.hid (fun W (h : KTab W) => Form_any i W h true (decide_eq_true hf))
  have hk := form_kind hf
  have hn0 := form_n hf
  have hn1 : 0 ≤ i.n ∧ i.n ≤ 3 := ⟨hf.2.2.2.2.1, hf.2.2.2.2.2.1⟩
  rw [uses_reads hf]
  clear hf
  obtain ⟨i0, hi, hz0, hz1, hz2⟩ := info_parts Tryd_info3
  obtain ⟨id, kind, dst, a, b, c, f, n, x0, x1, x2⟩ := i
  dsimp only at hk hn0 hn1
  rcases hk with rfl | rfl | rfl | rfl | rfl | rfl | rfl | rfl | rfl | rfl
  · obtain rfl : n = 0 := hn0 (by decide)
    rw [show Ins.reads ⟨id, 0, dst, a, b, c, f, 0, x0, x1, x2⟩ = [] from rfl]
    unfold Ins.val at *
    unfold Ins.cells at HB HW HT
    dsimp only at *
    generalize hE : w.alloc (.cells (List.toArray [.int .i64 id, .int .i64 0, .int .i64 dst, .int .i64 a, .int .i64 b, .int .i64 c, .int .i64 f, .int .i64 0, .int .i64 x0, .int .i64 x1, .int .i64 x2]) 40) = W at HB HW HT
    have hE' : w.alloc (.cells #[.int .i64 id, .int .i64 0, .int .i64 dst, .int .i64 a, .int .i64 b, .int .i64 c, .int .i64 f, .int .i64 0, .int .i64 x0, .int .i64 x1, .int .i64 x2] 40) = W := hE
    clear hE
    obtain ⟨g, hg⟩ : ∃ g, w.heap.size = g := ⟨_, rfl⟩
    rw [hg] at HB
    have HG := Lib.hid (HB.out.lt (Nat.zero_lt_succ _))
    have k0 := (HB.out 0 _ rfl).1
    have k1 := (HB.out 1 _ rfl).1
    have k2 := (HB.out 2 _ rfl).1
    have k3 := (HB.out 3 _ rfl).1
    have k4 := (HB.out 4 _ rfl).1
    have k5 := (HB.out 5 _ rfl).1
    have k6 := (HB.out 6 _ rfl).1
    have k7 := (HB.out 7 _ rfl).1
    have k8 := (HB.out 8 _ rfl).1
    have k9 := (HB.out 9 _ rfl).1
    have k10 := (HB.out 10 _ rfl).1
    go_enter Tryz.func177, Tryz.ntmps177
    go_wp2_with (first | (go_at_call 102; refine (HF.out _ HT.out).mono ?_; rintro e wa ⟨rfl, hba⟩; have HB2 := Lib.hid (HB.out.below hba HG.out); have HW2 := Lib.hid (HW.out.trans (hba.mono HW.out.size)); have HT2 := Lib.hid (HT.out.on hba); clear HB HW HT HG hba k0 k1 k2 k3 k4 k5 k6 k7 k8 k9 k10; have k1 := (HB2.out 1 _ rfl).1; have k3 := (HB2.out 3 _ rfl).1; have k4 := (HB2.out 4 _ rfl).1; have k7 := (HB2.out 7 _ rfl).1; have t2 := HT2.out.at 0 2 2 (by decide) (by decide) rfl (v := .bool false) (by kernel_rfl); have t3 := HT2.out.at 0 3 3 (by decide) (by decide) rfl (v := .bool false) (by kernel_rfl); have HO := Lib.hid (World.ownsRow_nil wa wa.heap.size 3 1); have HBw := Lib.hid (Below.refl wa.heap.size wa); have HGA := Lib.hid (HB2.out.lt (Nat.zero_lt_succ _))) | (at_builtin; refine wpList_append_own _ rfl _ _ 33 rfl wa.heap.size 3 i0 (.int .i64 0) 1 8 Tryz.underlying33 hi hz0 hz1 hz2 rfl (by decide) _ _ _ rfl HO.out ⟨_, 8, none⟩ 0 3 [] rfl rfl (args_cells (HB2.out.below HBw.out HGA.out) 0) (by simp [Value.oneCell']) (by unfold maxLen; omega) (by omega) HBw.out.size ?_; intro v' w5 hown' hgrow _; have HB5 := Lib.hid (owns_grown HBw.out HO.out hgrow HBw.out.size); have HO5 := Lib.hid hown'; clear hown' hgrow; obtain ⟨ar, cr, rfl, hlr, hIr⟩ := is_of_ints (l := []) HO5.out; have HIr := Lib.hid hIr; clear hIr) | (go_at_call 179; refine (once_any ar [] cr _ HIr.out _ hlr (by simp)).mono ?_; rintro e w6 ⟨u, rfl, hou, hb6⟩; have HOu := Lib.hid hou; have HB6 := Lib.hid hb6; clear hou hb6))
    go_ret
    have HZ := Lib.hid (HW2.out.trans (HB5.out.mono HW2.out.size))
    exact ⟨_, rfl, owns_base HOu.out HZ.out.size, HZ.out.trans (HB6.out.mono HZ.out.size)⟩
  · obtain rfl : n = 0 := hn0 (by decide)
    rw [show Ins.reads ⟨id, 1, dst, a, b, c, f, 0, x0, x1, x2⟩ = [a] from rfl]
    unfold Ins.val at *
    unfold Ins.cells at HB HW HT
    dsimp only at *
    generalize hE : w.alloc (.cells (List.toArray [.int .i64 id, .int .i64 1, .int .i64 dst, .int .i64 a, .int .i64 b, .int .i64 c, .int .i64 f, .int .i64 0, .int .i64 x0, .int .i64 x1, .int .i64 x2]) 40) = W at HB HW HT
    have hE' : w.alloc (.cells #[.int .i64 id, .int .i64 1, .int .i64 dst, .int .i64 a, .int .i64 b, .int .i64 c, .int .i64 f, .int .i64 0, .int .i64 x0, .int .i64 x1, .int .i64 x2] 40) = W := hE
    clear hE
    obtain ⟨g, hg⟩ : ∃ g, w.heap.size = g := ⟨_, rfl⟩
    rw [hg] at HB
    have HG := Lib.hid (HB.out.lt (Nat.zero_lt_succ _))
    have k0 := (HB.out 0 _ rfl).1
    have k1 := (HB.out 1 _ rfl).1
    have k2 := (HB.out 2 _ rfl).1
    have k3 := (HB.out 3 _ rfl).1
    have k4 := (HB.out 4 _ rfl).1
    have k5 := (HB.out 5 _ rfl).1
    have k6 := (HB.out 6 _ rfl).1
    have k7 := (HB.out 7 _ rfl).1
    have k8 := (HB.out 8 _ rfl).1
    have k9 := (HB.out 9 _ rfl).1
    have k10 := (HB.out 10 _ rfl).1
    go_enter Tryz.func177, Tryz.ntmps177
    go_wp2_with (first | (go_at_call 102; refine (HF.out _ HT.out).mono ?_; rintro e wa ⟨rfl, hba⟩; have HB2 := Lib.hid (HB.out.below hba HG.out); have HW2 := Lib.hid (HW.out.trans (hba.mono HW.out.size)); have HT2 := Lib.hid (HT.out.on hba); clear HB HW HT HG hba k0 k1 k2 k3 k4 k5 k6 k7 k8 k9 k10; have k1 := (HB2.out 1 _ rfl).1; have k3 := (HB2.out 3 _ rfl).1; have k4 := (HB2.out 4 _ rfl).1; have k7 := (HB2.out 7 _ rfl).1; have t2 := HT2.out.at 1 2 8 (by decide) (by decide) rfl (v := .bool true) (by kernel_rfl); have t3 := HT2.out.at 1 3 9 (by decide) (by decide) rfl (v := .bool false) (by kernel_rfl); have HO := Lib.hid (World.ownsRow_nil wa wa.heap.size 3 1); have HBw := Lib.hid (Below.refl wa.heap.size wa); have HGA := Lib.hid (HB2.out.lt (Nat.zero_lt_succ _))) | (at_builtin; refine wpList_append_own _ rfl _ _ 33 rfl wa.heap.size 3 i0 (.int .i64 0) 1 8 Tryz.underlying33 hi hz0 hz1 hz2 rfl (by decide) _ _ _ rfl (HO.out.alloc _) ⟨_, 0, none⟩ 1 1 [.int .i64 a] rfl rfl (cell_one_new _ _ _) (by simp [Value.oneCell']) (by unfold maxLen; omega) (by omega) (by have := HBw.out.size; simp only [World.size_alloc]; omega) ?_; intro v' w4 hown' hgrow _; have HB4 := Lib.hid (owns_grown (HBw.out.alloc HBw.out.size _) (HO.out.alloc _) hgrow (by have := HBw.out.size; simp only [World.size_alloc]; omega)); clear HO HBw; have HO := Lib.hid hown'; have HBw := HB4; clear HB4 hown' hgrow k1 k3 k4 k7 t2 t3; have HB3 := Lib.hid (HB2.out.below HBw.out HGA.out); have HT3 := Lib.hid (HT2.out.on HBw.out); have k1 := (HB3.out 1 _ rfl).1; have k3 := (HB3.out 3 _ rfl).1; have k4 := (HB3.out 4 _ rfl).1; have k7 := (HB3.out 7 _ rfl).1; have t2 := HT3.out.at 1 2 8 (by decide) (by decide) rfl (v := .bool true) (by kernel_rfl); have t3 := HT3.out.at 1 3 9 (by decide) (by decide) rfl (v := .bool false) (by kernel_rfl)) | (at_builtin; refine wpList_append_own _ rfl _ _ 33 rfl wa.heap.size 3 i0 (.int .i64 0) 1 8 Tryz.underlying33 hi hz0 hz1 hz2 rfl (by decide) _ _ _ rfl HO.out ⟨_, 8, none⟩ 0 3 [] rfl rfl (args_cells (HB2.out.below HBw.out HGA.out) 0) (by simp [Value.oneCell']) (by unfold maxLen; omega) (by omega) HBw.out.size ?_; intro v' w5 hown' hgrow _; have HB5 := Lib.hid (owns_grown HBw.out HO.out hgrow HBw.out.size); have HO5 := Lib.hid hown'; clear hown' hgrow; obtain ⟨ar, cr, rfl, hlr, hIr⟩ := is_of_ints (l := [a]) HO5.out; have HIr := Lib.hid hIr; clear hIr) | (go_at_call 179; refine (once_any ar [a] cr _ HIr.out _ hlr (by simp)).mono ?_; rintro e w6 ⟨u, rfl, hou, hb6⟩; have HOu := Lib.hid hou; have HB6 := Lib.hid hb6; clear hou hb6))
    go_ret
    have HZ := Lib.hid (HW2.out.trans (HB5.out.mono HW2.out.size))
    exact ⟨_, rfl, owns_base HOu.out HZ.out.size, HZ.out.trans (HB6.out.mono HZ.out.size)⟩
  · obtain rfl : n = 0 := hn0 (by decide)
    rw [show Ins.reads ⟨id, 2, dst, a, b, c, f, 0, x0, x1, x2⟩ = [a] from rfl]
    unfold Ins.val at *
    unfold Ins.cells at HB HW HT
    dsimp only at *
    generalize hE : w.alloc (.cells (List.toArray [.int .i64 id, .int .i64 2, .int .i64 dst, .int .i64 a, .int .i64 b, .int .i64 c, .int .i64 f, .int .i64 0, .int .i64 x0, .int .i64 x1, .int .i64 x2]) 40) = W at HB HW HT
    have hE' : w.alloc (.cells #[.int .i64 id, .int .i64 2, .int .i64 dst, .int .i64 a, .int .i64 b, .int .i64 c, .int .i64 f, .int .i64 0, .int .i64 x0, .int .i64 x1, .int .i64 x2] 40) = W := hE
    clear hE
    obtain ⟨g, hg⟩ : ∃ g, w.heap.size = g := ⟨_, rfl⟩
    rw [hg] at HB
    have HG := Lib.hid (HB.out.lt (Nat.zero_lt_succ _))
    have k0 := (HB.out 0 _ rfl).1
    have k1 := (HB.out 1 _ rfl).1
    have k2 := (HB.out 2 _ rfl).1
    have k3 := (HB.out 3 _ rfl).1
    have k4 := (HB.out 4 _ rfl).1
    have k5 := (HB.out 5 _ rfl).1
    have k6 := (HB.out 6 _ rfl).1
    have k7 := (HB.out 7 _ rfl).1
    have k8 := (HB.out 8 _ rfl).1
    have k9 := (HB.out 9 _ rfl).1
    have k10 := (HB.out 10 _ rfl).1
    go_enter Tryz.func177, Tryz.ntmps177
    go_wp2_with (first | (go_at_call 102; refine (HF.out _ HT.out).mono ?_; rintro e wa ⟨rfl, hba⟩; have HB2 := Lib.hid (HB.out.below hba HG.out); have HW2 := Lib.hid (HW.out.trans (hba.mono HW.out.size)); have HT2 := Lib.hid (HT.out.on hba); clear HB HW HT HG hba k0 k1 k2 k3 k4 k5 k6 k7 k8 k9 k10; have k1 := (HB2.out 1 _ rfl).1; have k3 := (HB2.out 3 _ rfl).1; have k4 := (HB2.out 4 _ rfl).1; have k7 := (HB2.out 7 _ rfl).1; have t2 := HT2.out.at 2 2 14 (by decide) (by decide) rfl (v := .bool true) (by kernel_rfl); have t3 := HT2.out.at 2 3 15 (by decide) (by decide) rfl (v := .bool false) (by kernel_rfl); have HO := Lib.hid (World.ownsRow_nil wa wa.heap.size 3 1); have HBw := Lib.hid (Below.refl wa.heap.size wa); have HGA := Lib.hid (HB2.out.lt (Nat.zero_lt_succ _))) | (at_builtin; refine wpList_append_own _ rfl _ _ 33 rfl wa.heap.size 3 i0 (.int .i64 0) 1 8 Tryz.underlying33 hi hz0 hz1 hz2 rfl (by decide) _ _ _ rfl (HO.out.alloc _) ⟨_, 0, none⟩ 1 1 [.int .i64 a] rfl rfl (cell_one_new _ _ _) (by simp [Value.oneCell']) (by unfold maxLen; omega) (by omega) (by have := HBw.out.size; simp only [World.size_alloc]; omega) ?_; intro v' w4 hown' hgrow _; have HB4 := Lib.hid (owns_grown (HBw.out.alloc HBw.out.size _) (HO.out.alloc _) hgrow (by have := HBw.out.size; simp only [World.size_alloc]; omega)); clear HO HBw; have HO := Lib.hid hown'; have HBw := HB4; clear HB4 hown' hgrow k1 k3 k4 k7 t2 t3; have HB3 := Lib.hid (HB2.out.below HBw.out HGA.out); have HT3 := Lib.hid (HT2.out.on HBw.out); have k1 := (HB3.out 1 _ rfl).1; have k3 := (HB3.out 3 _ rfl).1; have k4 := (HB3.out 4 _ rfl).1; have k7 := (HB3.out 7 _ rfl).1; have t2 := HT3.out.at 2 2 14 (by decide) (by decide) rfl (v := .bool true) (by kernel_rfl); have t3 := HT3.out.at 2 3 15 (by decide) (by decide) rfl (v := .bool false) (by kernel_rfl)) | (at_builtin; refine wpList_append_own _ rfl _ _ 33 rfl wa.heap.size 3 i0 (.int .i64 0) 1 8 Tryz.underlying33 hi hz0 hz1 hz2 rfl (by decide) _ _ _ rfl HO.out ⟨_, 8, none⟩ 0 3 [] rfl rfl (args_cells (HB2.out.below HBw.out HGA.out) 0) (by simp [Value.oneCell']) (by unfold maxLen; omega) (by omega) HBw.out.size ?_; intro v' w5 hown' hgrow _; have HB5 := Lib.hid (owns_grown HBw.out HO.out hgrow HBw.out.size); have HO5 := Lib.hid hown'; clear hown' hgrow; obtain ⟨ar, cr, rfl, hlr, hIr⟩ := is_of_ints (l := [a]) HO5.out; have HIr := Lib.hid hIr; clear hIr) | (go_at_call 179; refine (once_any ar [a] cr _ HIr.out _ hlr (by simp)).mono ?_; rintro e w6 ⟨u, rfl, hou, hb6⟩; have HOu := Lib.hid hou; have HB6 := Lib.hid hb6; clear hou hb6))
    go_ret
    have HZ := Lib.hid (HW2.out.trans (HB5.out.mono HW2.out.size))
    exact ⟨_, rfl, owns_base HOu.out HZ.out.size, HZ.out.trans (HB6.out.mono HZ.out.size)⟩
  · obtain rfl : n = 0 := hn0 (by decide)
    rw [show Ins.reads ⟨id, 3, dst, a, b, c, f, 0, x0, x1, x2⟩ = [a, b] from rfl]
    unfold Ins.val at *
    unfold Ins.cells at HB HW HT
    dsimp only at *
    generalize hE : w.alloc (.cells (List.toArray [.int .i64 id, .int .i64 3, .int .i64 dst, .int .i64 a, .int .i64 b, .int .i64 c, .int .i64 f, .int .i64 0, .int .i64 x0, .int .i64 x1, .int .i64 x2]) 40) = W at HB HW HT
    have hE' : w.alloc (.cells #[.int .i64 id, .int .i64 3, .int .i64 dst, .int .i64 a, .int .i64 b, .int .i64 c, .int .i64 f, .int .i64 0, .int .i64 x0, .int .i64 x1, .int .i64 x2] 40) = W := hE
    clear hE
    obtain ⟨g, hg⟩ : ∃ g, w.heap.size = g := ⟨_, rfl⟩
    rw [hg] at HB
    have HG := Lib.hid (HB.out.lt (Nat.zero_lt_succ _))
    have k0 := (HB.out 0 _ rfl).1
    have k1 := (HB.out 1 _ rfl).1
    have k2 := (HB.out 2 _ rfl).1
    have k3 := (HB.out 3 _ rfl).1
    have k4 := (HB.out 4 _ rfl).1
    have k5 := (HB.out 5 _ rfl).1
    have k6 := (HB.out 6 _ rfl).1
    have k7 := (HB.out 7 _ rfl).1
    have k8 := (HB.out 8 _ rfl).1
    have k9 := (HB.out 9 _ rfl).1
    have k10 := (HB.out 10 _ rfl).1
    go_enter Tryz.func177, Tryz.ntmps177
    go_wp2_with (first | (go_at_call 102; refine (HF.out _ HT.out).mono ?_; rintro e wa ⟨rfl, hba⟩; have HB2 := Lib.hid (HB.out.below hba HG.out); have HW2 := Lib.hid (HW.out.trans (hba.mono HW.out.size)); have HT2 := Lib.hid (HT.out.on hba); clear HB HW HT HG hba k0 k1 k2 k3 k4 k5 k6 k7 k8 k9 k10; have k1 := (HB2.out 1 _ rfl).1; have k3 := (HB2.out 3 _ rfl).1; have k4 := (HB2.out 4 _ rfl).1; have k7 := (HB2.out 7 _ rfl).1; have t2 := HT2.out.at 3 2 20 (by decide) (by decide) rfl (v := .bool true) (by kernel_rfl); have t3 := HT2.out.at 3 3 21 (by decide) (by decide) rfl (v := .bool true) (by kernel_rfl); have HO := Lib.hid (World.ownsRow_nil wa wa.heap.size 3 1); have HBw := Lib.hid (Below.refl wa.heap.size wa); have HGA := Lib.hid (HB2.out.lt (Nat.zero_lt_succ _))) | (at_builtin; refine wpList_append_own _ rfl _ _ 33 rfl wa.heap.size 3 i0 (.int .i64 0) 1 8 Tryz.underlying33 hi hz0 hz1 hz2 rfl (by decide) _ _ _ rfl (HO.out.alloc _) ⟨_, 0, none⟩ 1 1 [.int .i64 a] rfl rfl (cell_one_new _ _ _) (by simp [Value.oneCell']) (by unfold maxLen; omega) (by omega) (by have := HBw.out.size; simp only [World.size_alloc]; omega) ?_; intro v' w4 hown' hgrow _; have HB4 := Lib.hid (owns_grown (HBw.out.alloc HBw.out.size _) (HO.out.alloc _) hgrow (by have := HBw.out.size; simp only [World.size_alloc]; omega)); clear HO HBw; have HO := Lib.hid hown'; have HBw := HB4; clear HB4 hown' hgrow k1 k3 k4 k7 t2 t3; have HB3 := Lib.hid (HB2.out.below HBw.out HGA.out); have HT3 := Lib.hid (HT2.out.on HBw.out); have k1 := (HB3.out 1 _ rfl).1; have k3 := (HB3.out 3 _ rfl).1; have k4 := (HB3.out 4 _ rfl).1; have k7 := (HB3.out 7 _ rfl).1; have t2 := HT3.out.at 3 2 20 (by decide) (by decide) rfl (v := .bool true) (by kernel_rfl); have t3 := HT3.out.at 3 3 21 (by decide) (by decide) rfl (v := .bool true) (by kernel_rfl)) | (at_builtin; refine wpList_append_own _ rfl _ _ 33 rfl wa.heap.size 3 i0 (.int .i64 0) 1 8 Tryz.underlying33 hi hz0 hz1 hz2 rfl (by decide) _ _ _ rfl (HO.out.alloc _) ⟨_, 0, none⟩ 1 1 [.int .i64 b] rfl rfl (cell_one_new _ _ _) (by simp [Value.oneCell']) (by unfold maxLen; omega) (by omega) (by have := HBw.out.size; simp only [World.size_alloc]; omega) ?_; intro v' w4 hown' hgrow _; have HB4 := Lib.hid (owns_grown (HBw.out.alloc HBw.out.size _) (HO.out.alloc _) hgrow (by have := HBw.out.size; simp only [World.size_alloc]; omega)); clear HO HBw; have HO := Lib.hid hown'; have HBw := HB4; clear HB4 hown' hgrow k1 k3 k4 k7 t2 t3; have HB3 := Lib.hid (HB2.out.below HBw.out HGA.out); have HT3 := Lib.hid (HT2.out.on HBw.out); have k1 := (HB3.out 1 _ rfl).1; have k3 := (HB3.out 3 _ rfl).1; have k4 := (HB3.out 4 _ rfl).1; have k7 := (HB3.out 7 _ rfl).1; have t2 := HT3.out.at 3 2 20 (by decide) (by decide) rfl (v := .bool true) (by kernel_rfl); have t3 := HT3.out.at 3 3 21 (by decide) (by decide) rfl (v := .bool true) (by kernel_rfl)) | (at_builtin; refine wpList_append_own _ rfl _ _ 33 rfl wa.heap.size 3 i0 (.int .i64 0) 1 8 Tryz.underlying33 hi hz0 hz1 hz2 rfl (by decide) _ _ _ rfl HO.out ⟨_, 8, none⟩ 0 3 [] rfl rfl (args_cells (HB2.out.below HBw.out HGA.out) 0) (by simp [Value.oneCell']) (by unfold maxLen; omega) (by omega) HBw.out.size ?_; intro v' w5 hown' hgrow _; have HB5 := Lib.hid (owns_grown HBw.out HO.out hgrow HBw.out.size); have HO5 := Lib.hid hown'; clear hown' hgrow; obtain ⟨ar, cr, rfl, hlr, hIr⟩ := is_of_ints (l := [a, b]) HO5.out; have HIr := Lib.hid hIr; clear hIr) | (go_at_call 179; refine (once_any ar [a, b] cr _ HIr.out _ hlr (by simp)).mono ?_; rintro e w6 ⟨u, rfl, hou, hb6⟩; have HOu := Lib.hid hou; have HB6 := Lib.hid hb6; clear hou hb6))
    go_ret
    have HZ := Lib.hid (HW2.out.trans (HB5.out.mono HW2.out.size))
    exact ⟨_, rfl, owns_base HOu.out HZ.out.size, HZ.out.trans (HB6.out.mono HZ.out.size)⟩
  · obtain rfl : n = 0 := hn0 (by decide)
    rw [show Ins.reads ⟨id, 4, dst, a, b, c, f, 0, x0, x1, x2⟩ = [a, b] from rfl]
    unfold Ins.val at *
    unfold Ins.cells at HB HW HT
    dsimp only at *
    generalize hE : w.alloc (.cells (List.toArray [.int .i64 id, .int .i64 4, .int .i64 dst, .int .i64 a, .int .i64 b, .int .i64 c, .int .i64 f, .int .i64 0, .int .i64 x0, .int .i64 x1, .int .i64 x2]) 40) = W at HB HW HT
    have hE' : w.alloc (.cells #[.int .i64 id, .int .i64 4, .int .i64 dst, .int .i64 a, .int .i64 b, .int .i64 c, .int .i64 f, .int .i64 0, .int .i64 x0, .int .i64 x1, .int .i64 x2] 40) = W := hE
    clear hE
    obtain ⟨g, hg⟩ : ∃ g, w.heap.size = g := ⟨_, rfl⟩
    rw [hg] at HB
    have HG := Lib.hid (HB.out.lt (Nat.zero_lt_succ _))
    have k0 := (HB.out 0 _ rfl).1
    have k1 := (HB.out 1 _ rfl).1
    have k2 := (HB.out 2 _ rfl).1
    have k3 := (HB.out 3 _ rfl).1
    have k4 := (HB.out 4 _ rfl).1
    have k5 := (HB.out 5 _ rfl).1
    have k6 := (HB.out 6 _ rfl).1
    have k7 := (HB.out 7 _ rfl).1
    have k8 := (HB.out 8 _ rfl).1
    have k9 := (HB.out 9 _ rfl).1
    have k10 := (HB.out 10 _ rfl).1
    go_enter Tryz.func177, Tryz.ntmps177
    go_wp2_with (first | (go_at_call 102; refine (HF.out _ HT.out).mono ?_; rintro e wa ⟨rfl, hba⟩; have HB2 := Lib.hid (HB.out.below hba HG.out); have HW2 := Lib.hid (HW.out.trans (hba.mono HW.out.size)); have HT2 := Lib.hid (HT.out.on hba); clear HB HW HT HG hba k0 k1 k2 k3 k4 k5 k6 k7 k8 k9 k10; have k1 := (HB2.out 1 _ rfl).1; have k3 := (HB2.out 3 _ rfl).1; have k4 := (HB2.out 4 _ rfl).1; have k7 := (HB2.out 7 _ rfl).1; have t2 := HT2.out.at 4 2 26 (by decide) (by decide) rfl (v := .bool true) (by kernel_rfl); have t3 := HT2.out.at 4 3 27 (by decide) (by decide) rfl (v := .bool true) (by kernel_rfl); have HO := Lib.hid (World.ownsRow_nil wa wa.heap.size 3 1); have HBw := Lib.hid (Below.refl wa.heap.size wa); have HGA := Lib.hid (HB2.out.lt (Nat.zero_lt_succ _))) | (at_builtin; refine wpList_append_own _ rfl _ _ 33 rfl wa.heap.size 3 i0 (.int .i64 0) 1 8 Tryz.underlying33 hi hz0 hz1 hz2 rfl (by decide) _ _ _ rfl (HO.out.alloc _) ⟨_, 0, none⟩ 1 1 [.int .i64 a] rfl rfl (cell_one_new _ _ _) (by simp [Value.oneCell']) (by unfold maxLen; omega) (by omega) (by have := HBw.out.size; simp only [World.size_alloc]; omega) ?_; intro v' w4 hown' hgrow _; have HB4 := Lib.hid (owns_grown (HBw.out.alloc HBw.out.size _) (HO.out.alloc _) hgrow (by have := HBw.out.size; simp only [World.size_alloc]; omega)); clear HO HBw; have HO := Lib.hid hown'; have HBw := HB4; clear HB4 hown' hgrow k1 k3 k4 k7 t2 t3; have HB3 := Lib.hid (HB2.out.below HBw.out HGA.out); have HT3 := Lib.hid (HT2.out.on HBw.out); have k1 := (HB3.out 1 _ rfl).1; have k3 := (HB3.out 3 _ rfl).1; have k4 := (HB3.out 4 _ rfl).1; have k7 := (HB3.out 7 _ rfl).1; have t2 := HT3.out.at 4 2 26 (by decide) (by decide) rfl (v := .bool true) (by kernel_rfl); have t3 := HT3.out.at 4 3 27 (by decide) (by decide) rfl (v := .bool true) (by kernel_rfl)) | (at_builtin; refine wpList_append_own _ rfl _ _ 33 rfl wa.heap.size 3 i0 (.int .i64 0) 1 8 Tryz.underlying33 hi hz0 hz1 hz2 rfl (by decide) _ _ _ rfl (HO.out.alloc _) ⟨_, 0, none⟩ 1 1 [.int .i64 b] rfl rfl (cell_one_new _ _ _) (by simp [Value.oneCell']) (by unfold maxLen; omega) (by omega) (by have := HBw.out.size; simp only [World.size_alloc]; omega) ?_; intro v' w4 hown' hgrow _; have HB4 := Lib.hid (owns_grown (HBw.out.alloc HBw.out.size _) (HO.out.alloc _) hgrow (by have := HBw.out.size; simp only [World.size_alloc]; omega)); clear HO HBw; have HO := Lib.hid hown'; have HBw := HB4; clear HB4 hown' hgrow k1 k3 k4 k7 t2 t3; have HB3 := Lib.hid (HB2.out.below HBw.out HGA.out); have HT3 := Lib.hid (HT2.out.on HBw.out); have k1 := (HB3.out 1 _ rfl).1; have k3 := (HB3.out 3 _ rfl).1; have k4 := (HB3.out 4 _ rfl).1; have k7 := (HB3.out 7 _ rfl).1; have t2 := HT3.out.at 4 2 26 (by decide) (by decide) rfl (v := .bool true) (by kernel_rfl); have t3 := HT3.out.at 4 3 27 (by decide) (by decide) rfl (v := .bool true) (by kernel_rfl)) | (at_builtin; refine wpList_append_own _ rfl _ _ 33 rfl wa.heap.size 3 i0 (.int .i64 0) 1 8 Tryz.underlying33 hi hz0 hz1 hz2 rfl (by decide) _ _ _ rfl HO.out ⟨_, 8, none⟩ 0 3 [] rfl rfl (args_cells (HB2.out.below HBw.out HGA.out) 0) (by simp [Value.oneCell']) (by unfold maxLen; omega) (by omega) HBw.out.size ?_; intro v' w5 hown' hgrow _; have HB5 := Lib.hid (owns_grown HBw.out HO.out hgrow HBw.out.size); have HO5 := Lib.hid hown'; clear hown' hgrow; obtain ⟨ar, cr, rfl, hlr, hIr⟩ := is_of_ints (l := [a, b]) HO5.out; have HIr := Lib.hid hIr; clear hIr) | (go_at_call 179; refine (once_any ar [a, b] cr _ HIr.out _ hlr (by simp)).mono ?_; rintro e w6 ⟨u, rfl, hou, hb6⟩; have HOu := Lib.hid hou; have HB6 := Lib.hid hb6; clear hou hb6))
    go_ret
    have HZ := Lib.hid (HW2.out.trans (HB5.out.mono HW2.out.size))
    exact ⟨_, rfl, owns_base HOu.out HZ.out.size, HZ.out.trans (HB6.out.mono HZ.out.size)⟩
  · obtain rfl : n = 0 := hn0 (by decide)
    rw [show Ins.reads ⟨id, 5, dst, a, b, c, f, 0, x0, x1, x2⟩ = [a, b] from rfl]
    unfold Ins.val at *
    unfold Ins.cells at HB HW HT
    dsimp only at *
    generalize hE : w.alloc (.cells (List.toArray [.int .i64 id, .int .i64 5, .int .i64 dst, .int .i64 a, .int .i64 b, .int .i64 c, .int .i64 f, .int .i64 0, .int .i64 x0, .int .i64 x1, .int .i64 x2]) 40) = W at HB HW HT
    have hE' : w.alloc (.cells #[.int .i64 id, .int .i64 5, .int .i64 dst, .int .i64 a, .int .i64 b, .int .i64 c, .int .i64 f, .int .i64 0, .int .i64 x0, .int .i64 x1, .int .i64 x2] 40) = W := hE
    clear hE
    obtain ⟨g, hg⟩ : ∃ g, w.heap.size = g := ⟨_, rfl⟩
    rw [hg] at HB
    have HG := Lib.hid (HB.out.lt (Nat.zero_lt_succ _))
    have k0 := (HB.out 0 _ rfl).1
    have k1 := (HB.out 1 _ rfl).1
    have k2 := (HB.out 2 _ rfl).1
    have k3 := (HB.out 3 _ rfl).1
    have k4 := (HB.out 4 _ rfl).1
    have k5 := (HB.out 5 _ rfl).1
    have k6 := (HB.out 6 _ rfl).1
    have k7 := (HB.out 7 _ rfl).1
    have k8 := (HB.out 8 _ rfl).1
    have k9 := (HB.out 9 _ rfl).1
    have k10 := (HB.out 10 _ rfl).1
    go_enter Tryz.func177, Tryz.ntmps177
    go_wp2_with (first | (go_at_call 102; refine (HF.out _ HT.out).mono ?_; rintro e wa ⟨rfl, hba⟩; have HB2 := Lib.hid (HB.out.below hba HG.out); have HW2 := Lib.hid (HW.out.trans (hba.mono HW.out.size)); have HT2 := Lib.hid (HT.out.on hba); clear HB HW HT HG hba k0 k1 k2 k3 k4 k5 k6 k7 k8 k9 k10; have k1 := (HB2.out 1 _ rfl).1; have k3 := (HB2.out 3 _ rfl).1; have k4 := (HB2.out 4 _ rfl).1; have k7 := (HB2.out 7 _ rfl).1; have t2 := HT2.out.at 5 2 32 (by decide) (by decide) rfl (v := .bool true) (by kernel_rfl); have t3 := HT2.out.at 5 3 33 (by decide) (by decide) rfl (v := .bool true) (by kernel_rfl); have HO := Lib.hid (World.ownsRow_nil wa wa.heap.size 3 1); have HBw := Lib.hid (Below.refl wa.heap.size wa); have HGA := Lib.hid (HB2.out.lt (Nat.zero_lt_succ _))) | (at_builtin; refine wpList_append_own _ rfl _ _ 33 rfl wa.heap.size 3 i0 (.int .i64 0) 1 8 Tryz.underlying33 hi hz0 hz1 hz2 rfl (by decide) _ _ _ rfl (HO.out.alloc _) ⟨_, 0, none⟩ 1 1 [.int .i64 a] rfl rfl (cell_one_new _ _ _) (by simp [Value.oneCell']) (by unfold maxLen; omega) (by omega) (by have := HBw.out.size; simp only [World.size_alloc]; omega) ?_; intro v' w4 hown' hgrow _; have HB4 := Lib.hid (owns_grown (HBw.out.alloc HBw.out.size _) (HO.out.alloc _) hgrow (by have := HBw.out.size; simp only [World.size_alloc]; omega)); clear HO HBw; have HO := Lib.hid hown'; have HBw := HB4; clear HB4 hown' hgrow k1 k3 k4 k7 t2 t3; have HB3 := Lib.hid (HB2.out.below HBw.out HGA.out); have HT3 := Lib.hid (HT2.out.on HBw.out); have k1 := (HB3.out 1 _ rfl).1; have k3 := (HB3.out 3 _ rfl).1; have k4 := (HB3.out 4 _ rfl).1; have k7 := (HB3.out 7 _ rfl).1; have t2 := HT3.out.at 5 2 32 (by decide) (by decide) rfl (v := .bool true) (by kernel_rfl); have t3 := HT3.out.at 5 3 33 (by decide) (by decide) rfl (v := .bool true) (by kernel_rfl)) | (at_builtin; refine wpList_append_own _ rfl _ _ 33 rfl wa.heap.size 3 i0 (.int .i64 0) 1 8 Tryz.underlying33 hi hz0 hz1 hz2 rfl (by decide) _ _ _ rfl (HO.out.alloc _) ⟨_, 0, none⟩ 1 1 [.int .i64 b] rfl rfl (cell_one_new _ _ _) (by simp [Value.oneCell']) (by unfold maxLen; omega) (by omega) (by have := HBw.out.size; simp only [World.size_alloc]; omega) ?_; intro v' w4 hown' hgrow _; have HB4 := Lib.hid (owns_grown (HBw.out.alloc HBw.out.size _) (HO.out.alloc _) hgrow (by have := HBw.out.size; simp only [World.size_alloc]; omega)); clear HO HBw; have HO := Lib.hid hown'; have HBw := HB4; clear HB4 hown' hgrow k1 k3 k4 k7 t2 t3; have HB3 := Lib.hid (HB2.out.below HBw.out HGA.out); have HT3 := Lib.hid (HT2.out.on HBw.out); have k1 := (HB3.out 1 _ rfl).1; have k3 := (HB3.out 3 _ rfl).1; have k4 := (HB3.out 4 _ rfl).1; have k7 := (HB3.out 7 _ rfl).1; have t2 := HT3.out.at 5 2 32 (by decide) (by decide) rfl (v := .bool true) (by kernel_rfl); have t3 := HT3.out.at 5 3 33 (by decide) (by decide) rfl (v := .bool true) (by kernel_rfl)) | (at_builtin; refine wpList_append_own _ rfl _ _ 33 rfl wa.heap.size 3 i0 (.int .i64 0) 1 8 Tryz.underlying33 hi hz0 hz1 hz2 rfl (by decide) _ _ _ rfl HO.out ⟨_, 8, none⟩ 0 3 [] rfl rfl (args_cells (HB2.out.below HBw.out HGA.out) 0) (by simp [Value.oneCell']) (by unfold maxLen; omega) (by omega) HBw.out.size ?_; intro v' w5 hown' hgrow _; have HB5 := Lib.hid (owns_grown HBw.out HO.out hgrow HBw.out.size); have HO5 := Lib.hid hown'; clear hown' hgrow; obtain ⟨ar, cr, rfl, hlr, hIr⟩ := is_of_ints (l := [a, b]) HO5.out; have HIr := Lib.hid hIr; clear hIr) | (go_at_call 179; refine (once_any ar [a, b] cr _ HIr.out _ hlr (by simp)).mono ?_; rintro e w6 ⟨u, rfl, hou, hb6⟩; have HOu := Lib.hid hou; have HB6 := Lib.hid hb6; clear hou hb6))
    go_ret
    have HZ := Lib.hid (HW2.out.trans (HB5.out.mono HW2.out.size))
    exact ⟨_, rfl, owns_base HOu.out HZ.out.size, HZ.out.trans (HB6.out.mono HZ.out.size)⟩
  · obtain rfl : n = 0 := hn0 (by decide)
    rw [show Ins.reads ⟨id, 6, dst, a, b, c, f, 0, x0, x1, x2⟩ = [] from rfl]
    unfold Ins.val at *
    unfold Ins.cells at HB HW HT
    dsimp only at *
    generalize hE : w.alloc (.cells (List.toArray [.int .i64 id, .int .i64 6, .int .i64 dst, .int .i64 a, .int .i64 b, .int .i64 c, .int .i64 f, .int .i64 0, .int .i64 x0, .int .i64 x1, .int .i64 x2]) 40) = W at HB HW HT
    have hE' : w.alloc (.cells #[.int .i64 id, .int .i64 6, .int .i64 dst, .int .i64 a, .int .i64 b, .int .i64 c, .int .i64 f, .int .i64 0, .int .i64 x0, .int .i64 x1, .int .i64 x2] 40) = W := hE
    clear hE
    obtain ⟨g, hg⟩ : ∃ g, w.heap.size = g := ⟨_, rfl⟩
    rw [hg] at HB
    have HG := Lib.hid (HB.out.lt (Nat.zero_lt_succ _))
    have k0 := (HB.out 0 _ rfl).1
    have k1 := (HB.out 1 _ rfl).1
    have k2 := (HB.out 2 _ rfl).1
    have k3 := (HB.out 3 _ rfl).1
    have k4 := (HB.out 4 _ rfl).1
    have k5 := (HB.out 5 _ rfl).1
    have k6 := (HB.out 6 _ rfl).1
    have k7 := (HB.out 7 _ rfl).1
    have k8 := (HB.out 8 _ rfl).1
    have k9 := (HB.out 9 _ rfl).1
    have k10 := (HB.out 10 _ rfl).1
    go_enter Tryz.func177, Tryz.ntmps177
    go_wp2_with (first | (go_at_call 102; refine (HF.out _ HT.out).mono ?_; rintro e wa ⟨rfl, hba⟩; have HB2 := Lib.hid (HB.out.below hba HG.out); have HW2 := Lib.hid (HW.out.trans (hba.mono HW.out.size)); have HT2 := Lib.hid (HT.out.on hba); clear HB HW HT HG hba k0 k1 k2 k3 k4 k5 k6 k7 k8 k9 k10; have k1 := (HB2.out 1 _ rfl).1; have k3 := (HB2.out 3 _ rfl).1; have k4 := (HB2.out 4 _ rfl).1; have k7 := (HB2.out 7 _ rfl).1; have t2 := HT2.out.at 6 2 38 (by decide) (by decide) rfl (v := .bool false) (by kernel_rfl); have t3 := HT2.out.at 6 3 39 (by decide) (by decide) rfl (v := .bool false) (by kernel_rfl); have HO := Lib.hid (World.ownsRow_nil wa wa.heap.size 3 1); have HBw := Lib.hid (Below.refl wa.heap.size wa); have HGA := Lib.hid (HB2.out.lt (Nat.zero_lt_succ _))) | (at_builtin; refine wpList_append_own _ rfl _ _ 33 rfl wa.heap.size 3 i0 (.int .i64 0) 1 8 Tryz.underlying33 hi hz0 hz1 hz2 rfl (by decide) _ _ _ rfl HO.out ⟨_, 8, none⟩ 0 3 [] rfl rfl (args_cells (HB2.out.below HBw.out HGA.out) 0) (by simp [Value.oneCell']) (by unfold maxLen; omega) (by omega) HBw.out.size ?_; intro v' w5 hown' hgrow _; have HB5 := Lib.hid (owns_grown HBw.out HO.out hgrow HBw.out.size); have HO5 := Lib.hid hown'; clear hown' hgrow; obtain ⟨ar, cr, rfl, hlr, hIr⟩ := is_of_ints (l := []) HO5.out; have HIr := Lib.hid hIr; clear hIr) | (go_at_call 179; refine (once_any ar [] cr _ HIr.out _ hlr (by simp)).mono ?_; rintro e w6 ⟨u, rfl, hou, hb6⟩; have HOu := Lib.hid hou; have HB6 := Lib.hid hb6; clear hou hb6))
    go_ret
    have HZ := Lib.hid (HW2.out.trans (HB5.out.mono HW2.out.size))
    exact ⟨_, rfl, owns_base HOu.out HZ.out.size, HZ.out.trans (HB6.out.mono HZ.out.size)⟩
  · rcases (by omega : n = 0 ∨ n = 1 ∨ n = 2 ∨ n = 3) with rfl | rfl | rfl | rfl
    · rw [show Ins.reads ⟨id, 7, dst, a, b, c, f, 0, x0, x1, x2⟩ = [] from rfl]
      unfold Ins.val at *
      unfold Ins.cells at HB HW HT
      dsimp only at *
      generalize hE : w.alloc (.cells (List.toArray [.int .i64 id, .int .i64 7, .int .i64 dst, .int .i64 a, .int .i64 b, .int .i64 c, .int .i64 f, .int .i64 0, .int .i64 x0, .int .i64 x1, .int .i64 x2]) 40) = W at HB HW HT
      have hE' : w.alloc (.cells #[.int .i64 id, .int .i64 7, .int .i64 dst, .int .i64 a, .int .i64 b, .int .i64 c, .int .i64 f, .int .i64 0, .int .i64 x0, .int .i64 x1, .int .i64 x2] 40) = W := hE
      clear hE
      obtain ⟨g, hg⟩ : ∃ g, w.heap.size = g := ⟨_, rfl⟩
      rw [hg] at HB
      have HG := Lib.hid (HB.out.lt (Nat.zero_lt_succ _))
      have k0 := (HB.out 0 _ rfl).1
      have k1 := (HB.out 1 _ rfl).1
      have k2 := (HB.out 2 _ rfl).1
      have k3 := (HB.out 3 _ rfl).1
      have k4 := (HB.out 4 _ rfl).1
      have k5 := (HB.out 5 _ rfl).1
      have k6 := (HB.out 6 _ rfl).1
      have k7 := (HB.out 7 _ rfl).1
      have k8 := (HB.out 8 _ rfl).1
      have k9 := (HB.out 9 _ rfl).1
      have k10 := (HB.out 10 _ rfl).1
      go_enter Tryz.func177, Tryz.ntmps177
      go_wp2_with (first | (go_at_call 102; refine (HF.out _ HT.out).mono ?_; rintro e wa ⟨rfl, hba⟩; have HB2 := Lib.hid (HB.out.below hba HG.out); have HW2 := Lib.hid (HW.out.trans (hba.mono HW.out.size)); have HT2 := Lib.hid (HT.out.on hba); clear HB HW HT HG hba k0 k1 k2 k3 k4 k5 k6 k7 k8 k9 k10; have k1 := (HB2.out 1 _ rfl).1; have k3 := (HB2.out 3 _ rfl).1; have k4 := (HB2.out 4 _ rfl).1; have k7 := (HB2.out 7 _ rfl).1; have t2 := HT2.out.at 7 2 44 (by decide) (by decide) rfl (v := .bool false) (by kernel_rfl); have t3 := HT2.out.at 7 3 45 (by decide) (by decide) rfl (v := .bool false) (by kernel_rfl); have HO := Lib.hid (World.ownsRow_nil wa wa.heap.size 3 1); have HBw := Lib.hid (Below.refl wa.heap.size wa); have HGA := Lib.hid (HB2.out.lt (Nat.zero_lt_succ _))) | (at_builtin; refine wpList_append_own _ rfl _ _ 33 rfl wa.heap.size 3 i0 (.int .i64 0) 1 8 Tryz.underlying33 hi hz0 hz1 hz2 rfl (by decide) _ _ _ rfl HO.out ⟨_, 8, none⟩ 0 3 [] rfl rfl (args_cells (HB2.out.below HBw.out HGA.out) 0) (by simp [Value.oneCell']) (by unfold maxLen; omega) (by omega) HBw.out.size ?_; intro v' w5 hown' hgrow _; have HB5 := Lib.hid (owns_grown HBw.out HO.out hgrow HBw.out.size); have HO5 := Lib.hid hown'; clear hown' hgrow; obtain ⟨ar, cr, rfl, hlr, hIr⟩ := is_of_ints (l := []) HO5.out; have HIr := Lib.hid hIr; clear hIr) | (go_at_call 179; refine (once_any ar [] cr _ HIr.out _ hlr (by simp)).mono ?_; rintro e w6 ⟨u, rfl, hou, hb6⟩; have HOu := Lib.hid hou; have HB6 := Lib.hid hb6; clear hou hb6))
      go_ret
      have HZ := Lib.hid (HW2.out.trans (HB5.out.mono HW2.out.size))
      exact ⟨_, rfl, owns_base HOu.out HZ.out.size, HZ.out.trans (HB6.out.mono HZ.out.size)⟩
    · rw [show Ins.reads ⟨id, 7, dst, a, b, c, f, 1, x0, x1, x2⟩ = [x0] from rfl]
      unfold Ins.val at *
      unfold Ins.cells at HB HW HT
      dsimp only at *
      generalize hE : w.alloc (.cells (List.toArray [.int .i64 id, .int .i64 7, .int .i64 dst, .int .i64 a, .int .i64 b, .int .i64 c, .int .i64 f, .int .i64 1, .int .i64 x0, .int .i64 x1, .int .i64 x2]) 40) = W at HB HW HT
      have hE' : w.alloc (.cells #[.int .i64 id, .int .i64 7, .int .i64 dst, .int .i64 a, .int .i64 b, .int .i64 c, .int .i64 f, .int .i64 1, .int .i64 x0, .int .i64 x1, .int .i64 x2] 40) = W := hE
      clear hE
      obtain ⟨g, hg⟩ : ∃ g, w.heap.size = g := ⟨_, rfl⟩
      rw [hg] at HB
      have HG := Lib.hid (HB.out.lt (Nat.zero_lt_succ _))
      have k0 := (HB.out 0 _ rfl).1
      have k1 := (HB.out 1 _ rfl).1
      have k2 := (HB.out 2 _ rfl).1
      have k3 := (HB.out 3 _ rfl).1
      have k4 := (HB.out 4 _ rfl).1
      have k5 := (HB.out 5 _ rfl).1
      have k6 := (HB.out 6 _ rfl).1
      have k7 := (HB.out 7 _ rfl).1
      have k8 := (HB.out 8 _ rfl).1
      have k9 := (HB.out 9 _ rfl).1
      have k10 := (HB.out 10 _ rfl).1
      go_enter Tryz.func177, Tryz.ntmps177
      go_wp2_with (first | (go_at_call 102; refine (HF.out _ HT.out).mono ?_; rintro e wa ⟨rfl, hba⟩; have HB2 := Lib.hid (HB.out.below hba HG.out); have HW2 := Lib.hid (HW.out.trans (hba.mono HW.out.size)); have HT2 := Lib.hid (HT.out.on hba); clear HB HW HT HG hba k0 k1 k2 k3 k4 k5 k6 k7 k8 k9 k10; have k1 := (HB2.out 1 _ rfl).1; have k3 := (HB2.out 3 _ rfl).1; have k4 := (HB2.out 4 _ rfl).1; have k7 := (HB2.out 7 _ rfl).1; have t2 := HT2.out.at 7 2 44 (by decide) (by decide) rfl (v := .bool false) (by kernel_rfl); have t3 := HT2.out.at 7 3 45 (by decide) (by decide) rfl (v := .bool false) (by kernel_rfl); have HO := Lib.hid (World.ownsRow_nil wa wa.heap.size 3 1); have HBw := Lib.hid (Below.refl wa.heap.size wa); have HGA := Lib.hid (HB2.out.lt (Nat.zero_lt_succ _))) | (at_builtin; refine wpList_append_own _ rfl _ _ 33 rfl wa.heap.size 3 i0 (.int .i64 0) 1 8 Tryz.underlying33 hi hz0 hz1 hz2 rfl (by decide) _ _ _ rfl HO.out ⟨_, 8, none⟩ 1 3 [.int .i64 x0] rfl rfl (args_cells (HB2.out.below HBw.out HGA.out) 1) (by simp [Value.oneCell']) (by unfold maxLen; omega) (by omega) HBw.out.size ?_; intro v' w5 hown' hgrow _; have HB5 := Lib.hid (owns_grown HBw.out HO.out hgrow HBw.out.size); have HO5 := Lib.hid hown'; clear hown' hgrow; obtain ⟨ar, cr, rfl, hlr, hIr⟩ := is_of_ints (l := [x0]) HO5.out; have HIr := Lib.hid hIr; clear hIr) | (go_at_call 179; refine (once_any ar [x0] cr _ HIr.out _ hlr (by simp)).mono ?_; rintro e w6 ⟨u, rfl, hou, hb6⟩; have HOu := Lib.hid hou; have HB6 := Lib.hid hb6; clear hou hb6))
      go_ret
      have HZ := Lib.hid (HW2.out.trans (HB5.out.mono HW2.out.size))
      exact ⟨_, rfl, owns_base HOu.out HZ.out.size, HZ.out.trans (HB6.out.mono HZ.out.size)⟩
    · rw [show Ins.reads ⟨id, 7, dst, a, b, c, f, 2, x0, x1, x2⟩ = [x0, x1] from rfl]
      unfold Ins.val at *
      unfold Ins.cells at HB HW HT
      dsimp only at *
      generalize hE : w.alloc (.cells (List.toArray [.int .i64 id, .int .i64 7, .int .i64 dst, .int .i64 a, .int .i64 b, .int .i64 c, .int .i64 f, .int .i64 2, .int .i64 x0, .int .i64 x1, .int .i64 x2]) 40) = W at HB HW HT
      have hE' : w.alloc (.cells #[.int .i64 id, .int .i64 7, .int .i64 dst, .int .i64 a, .int .i64 b, .int .i64 c, .int .i64 f, .int .i64 2, .int .i64 x0, .int .i64 x1, .int .i64 x2] 40) = W := hE
      clear hE
      obtain ⟨g, hg⟩ : ∃ g, w.heap.size = g := ⟨_, rfl⟩
      rw [hg] at HB
      have HG := Lib.hid (HB.out.lt (Nat.zero_lt_succ _))
      have k0 := (HB.out 0 _ rfl).1
      have k1 := (HB.out 1 _ rfl).1
      have k2 := (HB.out 2 _ rfl).1
      have k3 := (HB.out 3 _ rfl).1
      have k4 := (HB.out 4 _ rfl).1
      have k5 := (HB.out 5 _ rfl).1
      have k6 := (HB.out 6 _ rfl).1
      have k7 := (HB.out 7 _ rfl).1
      have k8 := (HB.out 8 _ rfl).1
      have k9 := (HB.out 9 _ rfl).1
      have k10 := (HB.out 10 _ rfl).1
      go_enter Tryz.func177, Tryz.ntmps177
      go_wp2_with (first | (go_at_call 102; refine (HF.out _ HT.out).mono ?_; rintro e wa ⟨rfl, hba⟩; have HB2 := Lib.hid (HB.out.below hba HG.out); have HW2 := Lib.hid (HW.out.trans (hba.mono HW.out.size)); have HT2 := Lib.hid (HT.out.on hba); clear HB HW HT HG hba k0 k1 k2 k3 k4 k5 k6 k7 k8 k9 k10; have k1 := (HB2.out 1 _ rfl).1; have k3 := (HB2.out 3 _ rfl).1; have k4 := (HB2.out 4 _ rfl).1; have k7 := (HB2.out 7 _ rfl).1; have t2 := HT2.out.at 7 2 44 (by decide) (by decide) rfl (v := .bool false) (by kernel_rfl); have t3 := HT2.out.at 7 3 45 (by decide) (by decide) rfl (v := .bool false) (by kernel_rfl); have HO := Lib.hid (World.ownsRow_nil wa wa.heap.size 3 1); have HBw := Lib.hid (Below.refl wa.heap.size wa); have HGA := Lib.hid (HB2.out.lt (Nat.zero_lt_succ _))) | (at_builtin; refine wpList_append_own _ rfl _ _ 33 rfl wa.heap.size 3 i0 (.int .i64 0) 1 8 Tryz.underlying33 hi hz0 hz1 hz2 rfl (by decide) _ _ _ rfl HO.out ⟨_, 8, none⟩ 2 3 [.int .i64 x0, .int .i64 x1] rfl rfl (args_cells (HB2.out.below HBw.out HGA.out) 2) (by simp [Value.oneCell']) (by unfold maxLen; omega) (by omega) HBw.out.size ?_; intro v' w5 hown' hgrow _; have HB5 := Lib.hid (owns_grown HBw.out HO.out hgrow HBw.out.size); have HO5 := Lib.hid hown'; clear hown' hgrow; obtain ⟨ar, cr, rfl, hlr, hIr⟩ := is_of_ints (l := [x0, x1]) HO5.out; have HIr := Lib.hid hIr; clear hIr) | (go_at_call 179; refine (once_any ar [x0, x1] cr _ HIr.out _ hlr (by simp)).mono ?_; rintro e w6 ⟨u, rfl, hou, hb6⟩; have HOu := Lib.hid hou; have HB6 := Lib.hid hb6; clear hou hb6))
      go_ret
      have HZ := Lib.hid (HW2.out.trans (HB5.out.mono HW2.out.size))
      exact ⟨_, rfl, owns_base HOu.out HZ.out.size, HZ.out.trans (HB6.out.mono HZ.out.size)⟩
    · rw [show Ins.reads ⟨id, 7, dst, a, b, c, f, 3, x0, x1, x2⟩ = [x0, x1, x2] from rfl]
      unfold Ins.val at *
      unfold Ins.cells at HB HW HT
      dsimp only at *
      generalize hE : w.alloc (.cells (List.toArray [.int .i64 id, .int .i64 7, .int .i64 dst, .int .i64 a, .int .i64 b, .int .i64 c, .int .i64 f, .int .i64 3, .int .i64 x0, .int .i64 x1, .int .i64 x2]) 40) = W at HB HW HT
      have hE' : w.alloc (.cells #[.int .i64 id, .int .i64 7, .int .i64 dst, .int .i64 a, .int .i64 b, .int .i64 c, .int .i64 f, .int .i64 3, .int .i64 x0, .int .i64 x1, .int .i64 x2] 40) = W := hE
      clear hE
      obtain ⟨g, hg⟩ : ∃ g, w.heap.size = g := ⟨_, rfl⟩
      rw [hg] at HB
      have HG := Lib.hid (HB.out.lt (Nat.zero_lt_succ _))
      have k0 := (HB.out 0 _ rfl).1
      have k1 := (HB.out 1 _ rfl).1
      have k2 := (HB.out 2 _ rfl).1
      have k3 := (HB.out 3 _ rfl).1
      have k4 := (HB.out 4 _ rfl).1
      have k5 := (HB.out 5 _ rfl).1
      have k6 := (HB.out 6 _ rfl).1
      have k7 := (HB.out 7 _ rfl).1
      have k8 := (HB.out 8 _ rfl).1
      have k9 := (HB.out 9 _ rfl).1
      have k10 := (HB.out 10 _ rfl).1
      go_enter Tryz.func177, Tryz.ntmps177
      go_wp2_with (first | (go_at_call 102; refine (HF.out _ HT.out).mono ?_; rintro e wa ⟨rfl, hba⟩; have HB2 := Lib.hid (HB.out.below hba HG.out); have HW2 := Lib.hid (HW.out.trans (hba.mono HW.out.size)); have HT2 := Lib.hid (HT.out.on hba); clear HB HW HT HG hba k0 k1 k2 k3 k4 k5 k6 k7 k8 k9 k10; have k1 := (HB2.out 1 _ rfl).1; have k3 := (HB2.out 3 _ rfl).1; have k4 := (HB2.out 4 _ rfl).1; have k7 := (HB2.out 7 _ rfl).1; have t2 := HT2.out.at 7 2 44 (by decide) (by decide) rfl (v := .bool false) (by kernel_rfl); have t3 := HT2.out.at 7 3 45 (by decide) (by decide) rfl (v := .bool false) (by kernel_rfl); have HO := Lib.hid (World.ownsRow_nil wa wa.heap.size 3 1); have HBw := Lib.hid (Below.refl wa.heap.size wa); have HGA := Lib.hid (HB2.out.lt (Nat.zero_lt_succ _))) | (at_builtin; refine wpList_append_own _ rfl _ _ 33 rfl wa.heap.size 3 i0 (.int .i64 0) 1 8 Tryz.underlying33 hi hz0 hz1 hz2 rfl (by decide) _ _ _ rfl HO.out ⟨_, 8, none⟩ 3 3 [.int .i64 x0, .int .i64 x1, .int .i64 x2] rfl rfl (args_cells (HB2.out.below HBw.out HGA.out) 3) (by simp [Value.oneCell']) (by unfold maxLen; omega) (by omega) HBw.out.size ?_; intro v' w5 hown' hgrow _; have HB5 := Lib.hid (owns_grown HBw.out HO.out hgrow HBw.out.size); have HO5 := Lib.hid hown'; clear hown' hgrow; obtain ⟨ar, cr, rfl, hlr, hIr⟩ := is_of_ints (l := [x0, x1, x2]) HO5.out; have HIr := Lib.hid hIr; clear hIr) | (go_at_call 179; refine (once_any ar [x0, x1, x2] cr _ HIr.out _ hlr (by simp)).mono ?_; rintro e w6 ⟨u, rfl, hou, hb6⟩; have HOu := Lib.hid hou; have HB6 := Lib.hid hb6; clear hou hb6))
      go_ret
      have HZ := Lib.hid (HW2.out.trans (HB5.out.mono HW2.out.size))
      exact ⟨_, rfl, owns_base HOu.out HZ.out.size, HZ.out.trans (HB6.out.mono HZ.out.size)⟩
  · obtain rfl : n = 0 := hn0 (by decide)
    rw [show Ins.reads ⟨id, 8, dst, a, b, c, f, 0, x0, x1, x2⟩ = [a] from rfl]
    unfold Ins.val at *
    unfold Ins.cells at HB HW HT
    dsimp only at *
    generalize hE : w.alloc (.cells (List.toArray [.int .i64 id, .int .i64 8, .int .i64 dst, .int .i64 a, .int .i64 b, .int .i64 c, .int .i64 f, .int .i64 0, .int .i64 x0, .int .i64 x1, .int .i64 x2]) 40) = W at HB HW HT
    have hE' : w.alloc (.cells #[.int .i64 id, .int .i64 8, .int .i64 dst, .int .i64 a, .int .i64 b, .int .i64 c, .int .i64 f, .int .i64 0, .int .i64 x0, .int .i64 x1, .int .i64 x2] 40) = W := hE
    clear hE
    obtain ⟨g, hg⟩ : ∃ g, w.heap.size = g := ⟨_, rfl⟩
    rw [hg] at HB
    have HG := Lib.hid (HB.out.lt (Nat.zero_lt_succ _))
    have k0 := (HB.out 0 _ rfl).1
    have k1 := (HB.out 1 _ rfl).1
    have k2 := (HB.out 2 _ rfl).1
    have k3 := (HB.out 3 _ rfl).1
    have k4 := (HB.out 4 _ rfl).1
    have k5 := (HB.out 5 _ rfl).1
    have k6 := (HB.out 6 _ rfl).1
    have k7 := (HB.out 7 _ rfl).1
    have k8 := (HB.out 8 _ rfl).1
    have k9 := (HB.out 9 _ rfl).1
    have k10 := (HB.out 10 _ rfl).1
    go_enter Tryz.func177, Tryz.ntmps177
    go_wp2_with (first | (go_at_call 102; refine (HF.out _ HT.out).mono ?_; rintro e wa ⟨rfl, hba⟩; have HB2 := Lib.hid (HB.out.below hba HG.out); have HW2 := Lib.hid (HW.out.trans (hba.mono HW.out.size)); have HT2 := Lib.hid (HT.out.on hba); clear HB HW HT HG hba k0 k1 k2 k3 k4 k5 k6 k7 k8 k9 k10; have k1 := (HB2.out 1 _ rfl).1; have k3 := (HB2.out 3 _ rfl).1; have k4 := (HB2.out 4 _ rfl).1; have k7 := (HB2.out 7 _ rfl).1; have t2 := HT2.out.at 8 2 50 (by decide) (by decide) rfl (v := .bool true) (by kernel_rfl); have t3 := HT2.out.at 8 3 51 (by decide) (by decide) rfl (v := .bool false) (by kernel_rfl); have HO := Lib.hid (World.ownsRow_nil wa wa.heap.size 3 1); have HBw := Lib.hid (Below.refl wa.heap.size wa); have HGA := Lib.hid (HB2.out.lt (Nat.zero_lt_succ _))) | (at_builtin; refine wpList_append_own _ rfl _ _ 33 rfl wa.heap.size 3 i0 (.int .i64 0) 1 8 Tryz.underlying33 hi hz0 hz1 hz2 rfl (by decide) _ _ _ rfl (HO.out.alloc _) ⟨_, 0, none⟩ 1 1 [.int .i64 a] rfl rfl (cell_one_new _ _ _) (by simp [Value.oneCell']) (by unfold maxLen; omega) (by omega) (by have := HBw.out.size; simp only [World.size_alloc]; omega) ?_; intro v' w4 hown' hgrow _; have HB4 := Lib.hid (owns_grown (HBw.out.alloc HBw.out.size _) (HO.out.alloc _) hgrow (by have := HBw.out.size; simp only [World.size_alloc]; omega)); clear HO HBw; have HO := Lib.hid hown'; have HBw := HB4; clear HB4 hown' hgrow k1 k3 k4 k7 t2 t3; have HB3 := Lib.hid (HB2.out.below HBw.out HGA.out); have HT3 := Lib.hid (HT2.out.on HBw.out); have k1 := (HB3.out 1 _ rfl).1; have k3 := (HB3.out 3 _ rfl).1; have k4 := (HB3.out 4 _ rfl).1; have k7 := (HB3.out 7 _ rfl).1; have t2 := HT3.out.at 8 2 50 (by decide) (by decide) rfl (v := .bool true) (by kernel_rfl); have t3 := HT3.out.at 8 3 51 (by decide) (by decide) rfl (v := .bool false) (by kernel_rfl)) | (at_builtin; refine wpList_append_own _ rfl _ _ 33 rfl wa.heap.size 3 i0 (.int .i64 0) 1 8 Tryz.underlying33 hi hz0 hz1 hz2 rfl (by decide) _ _ _ rfl HO.out ⟨_, 8, none⟩ 0 3 [] rfl rfl (args_cells (HB2.out.below HBw.out HGA.out) 0) (by simp [Value.oneCell']) (by unfold maxLen; omega) (by omega) HBw.out.size ?_; intro v' w5 hown' hgrow _; have HB5 := Lib.hid (owns_grown HBw.out HO.out hgrow HBw.out.size); have HO5 := Lib.hid hown'; clear hown' hgrow; obtain ⟨ar, cr, rfl, hlr, hIr⟩ := is_of_ints (l := [a]) HO5.out; have HIr := Lib.hid hIr; clear hIr) | (go_at_call 179; refine (once_any ar [a] cr _ HIr.out _ hlr (by simp)).mono ?_; rintro e w6 ⟨u, rfl, hou, hb6⟩; have HOu := Lib.hid hou; have HB6 := Lib.hid hb6; clear hou hb6))
    go_ret
    have HZ := Lib.hid (HW2.out.trans (HB5.out.mono HW2.out.size))
    exact ⟨_, rfl, owns_base HOu.out HZ.out.size, HZ.out.trans (HB6.out.mono HZ.out.size)⟩
  · obtain rfl : n = 0 := hn0 (by decide)
    rw [show Ins.reads ⟨id, 9, dst, a, b, c, f, 0, x0, x1, x2⟩ = [a] from rfl]
    unfold Ins.val at *
    unfold Ins.cells at HB HW HT
    dsimp only at *
    generalize hE : w.alloc (.cells (List.toArray [.int .i64 id, .int .i64 9, .int .i64 dst, .int .i64 a, .int .i64 b, .int .i64 c, .int .i64 f, .int .i64 0, .int .i64 x0, .int .i64 x1, .int .i64 x2]) 40) = W at HB HW HT
    have hE' : w.alloc (.cells #[.int .i64 id, .int .i64 9, .int .i64 dst, .int .i64 a, .int .i64 b, .int .i64 c, .int .i64 f, .int .i64 0, .int .i64 x0, .int .i64 x1, .int .i64 x2] 40) = W := hE
    clear hE
    obtain ⟨g, hg⟩ : ∃ g, w.heap.size = g := ⟨_, rfl⟩
    rw [hg] at HB
    have HG := Lib.hid (HB.out.lt (Nat.zero_lt_succ _))
    have k0 := (HB.out 0 _ rfl).1
    have k1 := (HB.out 1 _ rfl).1
    have k2 := (HB.out 2 _ rfl).1
    have k3 := (HB.out 3 _ rfl).1
    have k4 := (HB.out 4 _ rfl).1
    have k5 := (HB.out 5 _ rfl).1
    have k6 := (HB.out 6 _ rfl).1
    have k7 := (HB.out 7 _ rfl).1
    have k8 := (HB.out 8 _ rfl).1
    have k9 := (HB.out 9 _ rfl).1
    have k10 := (HB.out 10 _ rfl).1
    go_enter Tryz.func177, Tryz.ntmps177
    go_wp2_with (first | (go_at_call 102; refine (HF.out _ HT.out).mono ?_; rintro e wa ⟨rfl, hba⟩; have HB2 := Lib.hid (HB.out.below hba HG.out); have HW2 := Lib.hid (HW.out.trans (hba.mono HW.out.size)); have HT2 := Lib.hid (HT.out.on hba); clear HB HW HT HG hba k0 k1 k2 k3 k4 k5 k6 k7 k8 k9 k10; have k1 := (HB2.out 1 _ rfl).1; have k3 := (HB2.out 3 _ rfl).1; have k4 := (HB2.out 4 _ rfl).1; have k7 := (HB2.out 7 _ rfl).1; have t2 := HT2.out.at 9 2 56 (by decide) (by decide) rfl (v := .bool true) (by kernel_rfl); have t3 := HT2.out.at 9 3 57 (by decide) (by decide) rfl (v := .bool false) (by kernel_rfl); have HO := Lib.hid (World.ownsRow_nil wa wa.heap.size 3 1); have HBw := Lib.hid (Below.refl wa.heap.size wa); have HGA := Lib.hid (HB2.out.lt (Nat.zero_lt_succ _))) | (at_builtin; refine wpList_append_own _ rfl _ _ 33 rfl wa.heap.size 3 i0 (.int .i64 0) 1 8 Tryz.underlying33 hi hz0 hz1 hz2 rfl (by decide) _ _ _ rfl (HO.out.alloc _) ⟨_, 0, none⟩ 1 1 [.int .i64 a] rfl rfl (cell_one_new _ _ _) (by simp [Value.oneCell']) (by unfold maxLen; omega) (by omega) (by have := HBw.out.size; simp only [World.size_alloc]; omega) ?_; intro v' w4 hown' hgrow _; have HB4 := Lib.hid (owns_grown (HBw.out.alloc HBw.out.size _) (HO.out.alloc _) hgrow (by have := HBw.out.size; simp only [World.size_alloc]; omega)); clear HO HBw; have HO := Lib.hid hown'; have HBw := HB4; clear HB4 hown' hgrow k1 k3 k4 k7 t2 t3; have HB3 := Lib.hid (HB2.out.below HBw.out HGA.out); have HT3 := Lib.hid (HT2.out.on HBw.out); have k1 := (HB3.out 1 _ rfl).1; have k3 := (HB3.out 3 _ rfl).1; have k4 := (HB3.out 4 _ rfl).1; have k7 := (HB3.out 7 _ rfl).1; have t2 := HT3.out.at 9 2 56 (by decide) (by decide) rfl (v := .bool true) (by kernel_rfl); have t3 := HT3.out.at 9 3 57 (by decide) (by decide) rfl (v := .bool false) (by kernel_rfl)) | (at_builtin; refine wpList_append_own _ rfl _ _ 33 rfl wa.heap.size 3 i0 (.int .i64 0) 1 8 Tryz.underlying33 hi hz0 hz1 hz2 rfl (by decide) _ _ _ rfl HO.out ⟨_, 8, none⟩ 0 3 [] rfl rfl (args_cells (HB2.out.below HBw.out HGA.out) 0) (by simp [Value.oneCell']) (by unfold maxLen; omega) (by omega) HBw.out.size ?_; intro v' w5 hown' hgrow _; have HB5 := Lib.hid (owns_grown HBw.out HO.out hgrow HBw.out.size); have HO5 := Lib.hid hown'; clear hown' hgrow; obtain ⟨ar, cr, rfl, hlr, hIr⟩ := is_of_ints (l := [a]) HO5.out; have HIr := Lib.hid hIr; clear hIr) | (go_at_call 179; refine (once_any ar [a] cr _ HIr.out _ hlr (by simp)).mono ?_; rintro e w6 ⟨u, rfl, hou, hb6⟩; have HOu := Lib.hid hou; have HB6 := Lib.hid hb6; clear hou hb6))
    go_ret
    have HZ := Lib.hid (HW2.out.trans (HB5.out.mono HW2.out.size))
    exact ⟨_, rfl, owns_base HOu.out HZ.out.size, HZ.out.trans (HB6.out.mono HZ.out.size)⟩
end Go.Proofs.YtbddjneinfkmpaaGreatDoor.Bi
