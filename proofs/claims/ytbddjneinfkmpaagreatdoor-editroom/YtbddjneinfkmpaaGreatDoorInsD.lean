/- Instructions: Def. -/
import Derived.Test.YtbddjneinfkmpaaGreatDoorInsC
namespace Go.Proofs.YtbddjneinfkmpaaGreatDoor
open Go Go.RowKit Go.Sort

theorem KTab.at {w : World} (h : KTab w) (k j m : Nat) (hk : k < 10) (hj : j < 6) (hm : k * 6 + j = m) {v : Value} (hv : kCell k j = v) : w.cell? ⟨2, m, none⟩ = some v := by
  subst hv hm; exact h k j hk hj
theorem form_kind {i : Ins} (h : i.form) : i.kind = 0 ∨ i.kind = 1 ∨ i.kind = 2 ∨ i.kind = 3 ∨ i.kind = 4 ∨ i.kind = 5 ∨ i.kind = 6 ∨ i.kind = 7 ∨ i.kind = 8 ∨ i.kind = 9 := by
  have h1 := h.1
  have h2 := h.2.1
  omega

set_option maxRecDepth 100000 in
set_option maxHeartbeats 8000000 in
theorem Def_any (i : Ins) (w : World) (hT : KTab w) (d : Int) (hd : i.defn = d) :
    Calls Tryz.prog 69 #[i.val] w fun e w' => e = .returned (.int .i64 d) ∧ Below w.heap.size w w' := by
  have HW := Lib.hid (below1 w (.cells i.cells.toArray 40))
  have HT := Lib.hid (hT.on HW.out)
  clear hT
  have HB := Lib.hid (BoxL.new w i.cells 40)
  by_cases hf : i.form
  rotate_left
  · have HF := Lib.hid (fun W (h : KTab W) => Form_any i W h false (decide_eq_false hf))
    have hr : d = -1 := by rw [← hd]; unfold Ins.defn; rw [if_neg (fun h => hf h.1)]
    have HR := Lib.hid hr
    clear hr
    clear hf hd
    obtain ⟨id, kind, dst, a, b, c, f, n, x0, x1, x2⟩ := i
    unfold Ins.val at *
    unfold Ins.cells at HB HW HT
    dsimp only at *
    generalize hE : w.alloc (.cells (List.toArray [.int .i64 id, .int .i64 kind, .int .i64 dst, .int .i64 a, .int .i64 b, .int .i64 c, .int .i64 f, .int .i64 n, .int .i64 x0, .int .i64 x1, .int .i64 x2]) 40) = W at HB HW HT
    have hE' : w.alloc (.cells #[.int .i64 id, .int .i64 kind, .int .i64 dst, .int .i64 a, .int .i64 b, .int .i64 c, .int .i64 f, .int .i64 n, .int .i64 x0, .int .i64 x1, .int .i64 x2] 40) = W := hE
    clear hE
    obtain ⟨g, hg⟩ : ∃ g, w.heap.size = g := ⟨_, rfl⟩
    rw [hg] at HB
    have HG := Lib.hid (HB.out.lt (Nat.zero_lt_succ _))
    have k0 := (HB.out 0 _ rfl).1
    have k1 := (HB.out 1 _ rfl).1
    have k2 := (HB.out 2 _ rfl).1
    have k3 := (HB.out 3 _ rfl).1
    have k4 := (HB.out 4 _ rfl).1
    have k5 := (HB.out 5 _ rfl).1
    have k6 := (HB.out 6 _ rfl).1
    have k7 := (HB.out 7 _ rfl).1
    have k8 := (HB.out 8 _ rfl).1
    have k9 := (HB.out 9 _ rfl).1
    have k10 := (HB.out 10 _ rfl).1
    go_enter Tryz.func69, Tryz.ntmps69
    go_wp2_with (first | (go_at_call 102; refine (HF.out _ HT.out).mono ?_; rintro e wa ⟨rfl, hba⟩; have HB2 := Lib.hid (HB.out.below hba HG.out); have HW2 := Lib.hid (HW.out.trans (hba.mono HW.out.size)); have HT2 := Lib.hid (HT.out.on hba); clear HB HW HT HG hba k0 k1 k2 k3 k4 k5 k6 k7 k8 k9 k10))
    go_ret
    exact ⟨ret_int HR.out.symm, HW2.out⟩
  have HF := Lib.hid (fun W (h : KTab W) => Form_any i W h true (decide_eq_true hf))
  have hk := form_kind hf
  have hdd : d = if hasDst i.kind = true then i.dst else -1 := by
    rw [← hd]
    unfold Ins.defn
    by_cases h : hasDst i.kind = true
    · rw [if_pos ⟨hf, h⟩, if_pos h]
    · rw [if_neg (fun g => h g.2), if_neg h]
  have HD := Lib.hid hdd
  clear hf hd hdd
  obtain ⟨id, kind, dst, a, b, c, f, n, x0, x1, x2⟩ := i
  dsimp only at hk HD
  rcases hk with rfl | rfl | rfl | rfl | rfl | rfl | rfl | rfl | rfl | rfl
  · unfold Ins.val at *
    unfold Ins.cells at HB HW HT
    dsimp only at *
    generalize hE : w.alloc (.cells (List.toArray [.int .i64 id, .int .i64 0, .int .i64 dst, .int .i64 a, .int .i64 b, .int .i64 c, .int .i64 f, .int .i64 n, .int .i64 x0, .int .i64 x1, .int .i64 x2]) 40) = W at HB HW HT
    have hE' : w.alloc (.cells #[.int .i64 id, .int .i64 0, .int .i64 dst, .int .i64 a, .int .i64 b, .int .i64 c, .int .i64 f, .int .i64 n, .int .i64 x0, .int .i64 x1, .int .i64 x2] 40) = W := hE
    clear hE
    obtain ⟨g, hg⟩ : ∃ g, w.heap.size = g := ⟨_, rfl⟩
    rw [hg] at HB
    have HG := Lib.hid (HB.out.lt (Nat.zero_lt_succ _))
    have k0 := (HB.out 0 _ rfl).1
    have k1 := (HB.out 1 _ rfl).1
    have k2 := (HB.out 2 _ rfl).1
    have k3 := (HB.out 3 _ rfl).1
    have k4 := (HB.out 4 _ rfl).1
    have k5 := (HB.out 5 _ rfl).1
    have k6 := (HB.out 6 _ rfl).1
    have k7 := (HB.out 7 _ rfl).1
    have k8 := (HB.out 8 _ rfl).1
    have k9 := (HB.out 9 _ rfl).1
    have k10 := (HB.out 10 _ rfl).1
    go_enter Tryz.func69, Tryz.ntmps69
    go_wp2_with (first | (go_at_call 102; refine (HF.out _ HT.out).mono ?_; rintro e wa ⟨rfl, hba⟩; have HB2 := Lib.hid (HB.out.below hba HG.out); have HW2 := Lib.hid (HW.out.trans (hba.mono HW.out.size)); have HT2 := Lib.hid (HT.out.on hba); clear HB HW HT HG hba k0 k1 k2 k3 k4 k5 k6 k7 k8 k9 k10; have k0 := (HB2.out 0 _ rfl).1; have k1 := (HB2.out 1 _ rfl).1; have k2 := (HB2.out 2 _ rfl).1; have k3 := (HB2.out 3 _ rfl).1; have k4 := (HB2.out 4 _ rfl).1; have k5 := (HB2.out 5 _ rfl).1; have k6 := (HB2.out 6 _ rfl).1; have k7 := (HB2.out 7 _ rfl).1; have k8 := (HB2.out 8 _ rfl).1; have k9 := (HB2.out 9 _ rfl).1; have k10 := (HB2.out 10 _ rfl).1; have t1 := HT2.out.at 0 1 1 (by decide) (by decide) rfl (v := .bool true) (by kernel_rfl)))
    go_ret
    exact ⟨ret_int (by rw [HD.out]; rfl), HW2.out⟩
  · unfold Ins.val at *
    unfold Ins.cells at HB HW HT
    dsimp only at *
    generalize hE : w.alloc (.cells (List.toArray [.int .i64 id, .int .i64 1, .int .i64 dst, .int .i64 a, .int .i64 b, .int .i64 c, .int .i64 f, .int .i64 n, .int .i64 x0, .int .i64 x1, .int .i64 x2]) 40) = W at HB HW HT
    have hE' : w.alloc (.cells #[.int .i64 id, .int .i64 1, .int .i64 dst, .int .i64 a, .int .i64 b, .int .i64 c, .int .i64 f, .int .i64 n, .int .i64 x0, .int .i64 x1, .int .i64 x2] 40) = W := hE
    clear hE
    obtain ⟨g, hg⟩ : ∃ g, w.heap.size = g := ⟨_, rfl⟩
    rw [hg] at HB
    have HG := Lib.hid (HB.out.lt (Nat.zero_lt_succ _))
    have k0 := (HB.out 0 _ rfl).1
    have k1 := (HB.out 1 _ rfl).1
    have k2 := (HB.out 2 _ rfl).1
    have k3 := (HB.out 3 _ rfl).1
    have k4 := (HB.out 4 _ rfl).1
    have k5 := (HB.out 5 _ rfl).1
    have k6 := (HB.out 6 _ rfl).1
    have k7 := (HB.out 7 _ rfl).1
    have k8 := (HB.out 8 _ rfl).1
    have k9 := (HB.out 9 _ rfl).1
    have k10 := (HB.out 10 _ rfl).1
    go_enter Tryz.func69, Tryz.ntmps69
    go_wp2_with (first | (go_at_call 102; refine (HF.out _ HT.out).mono ?_; rintro e wa ⟨rfl, hba⟩; have HB2 := Lib.hid (HB.out.below hba HG.out); have HW2 := Lib.hid (HW.out.trans (hba.mono HW.out.size)); have HT2 := Lib.hid (HT.out.on hba); clear HB HW HT HG hba k0 k1 k2 k3 k4 k5 k6 k7 k8 k9 k10; have k0 := (HB2.out 0 _ rfl).1; have k1 := (HB2.out 1 _ rfl).1; have k2 := (HB2.out 2 _ rfl).1; have k3 := (HB2.out 3 _ rfl).1; have k4 := (HB2.out 4 _ rfl).1; have k5 := (HB2.out 5 _ rfl).1; have k6 := (HB2.out 6 _ rfl).1; have k7 := (HB2.out 7 _ rfl).1; have k8 := (HB2.out 8 _ rfl).1; have k9 := (HB2.out 9 _ rfl).1; have k10 := (HB2.out 10 _ rfl).1; have t1 := HT2.out.at 1 1 7 (by decide) (by decide) rfl (v := .bool true) (by kernel_rfl)))
    go_ret
    exact ⟨ret_int (by rw [HD.out]; rfl), HW2.out⟩
  · unfold Ins.val at *
    unfold Ins.cells at HB HW HT
    dsimp only at *
    generalize hE : w.alloc (.cells (List.toArray [.int .i64 id, .int .i64 2, .int .i64 dst, .int .i64 a, .int .i64 b, .int .i64 c, .int .i64 f, .int .i64 n, .int .i64 x0, .int .i64 x1, .int .i64 x2]) 40) = W at HB HW HT
    have hE' : w.alloc (.cells #[.int .i64 id, .int .i64 2, .int .i64 dst, .int .i64 a, .int .i64 b, .int .i64 c, .int .i64 f, .int .i64 n, .int .i64 x0, .int .i64 x1, .int .i64 x2] 40) = W := hE
    clear hE
    obtain ⟨g, hg⟩ : ∃ g, w.heap.size = g := ⟨_, rfl⟩
    rw [hg] at HB
    have HG := Lib.hid (HB.out.lt (Nat.zero_lt_succ _))
    have k0 := (HB.out 0 _ rfl).1
    have k1 := (HB.out 1 _ rfl).1
    have k2 := (HB.out 2 _ rfl).1
    have k3 := (HB.out 3 _ rfl).1
    have k4 := (HB.out 4 _ rfl).1
    have k5 := (HB.out 5 _ rfl).1
    have k6 := (HB.out 6 _ rfl).1
    have k7 := (HB.out 7 _ rfl).1
    have k8 := (HB.out 8 _ rfl).1
    have k9 := (HB.out 9 _ rfl).1
    have k10 := (HB.out 10 _ rfl).1
    go_enter Tryz.func69, Tryz.ntmps69
    go_wp2_with (first | (go_at_call 102; refine (HF.out _ HT.out).mono ?_; rintro e wa ⟨rfl, hba⟩; have HB2 := Lib.hid (HB.out.below hba HG.out); have HW2 := Lib.hid (HW.out.trans (hba.mono HW.out.size)); have HT2 := Lib.hid (HT.out.on hba); clear HB HW HT HG hba k0 k1 k2 k3 k4 k5 k6 k7 k8 k9 k10; have k0 := (HB2.out 0 _ rfl).1; have k1 := (HB2.out 1 _ rfl).1; have k2 := (HB2.out 2 _ rfl).1; have k3 := (HB2.out 3 _ rfl).1; have k4 := (HB2.out 4 _ rfl).1; have k5 := (HB2.out 5 _ rfl).1; have k6 := (HB2.out 6 _ rfl).1; have k7 := (HB2.out 7 _ rfl).1; have k8 := (HB2.out 8 _ rfl).1; have k9 := (HB2.out 9 _ rfl).1; have k10 := (HB2.out 10 _ rfl).1; have t1 := HT2.out.at 2 1 13 (by decide) (by decide) rfl (v := .bool true) (by kernel_rfl)))
    go_ret
    exact ⟨ret_int (by rw [HD.out]; rfl), HW2.out⟩
  · unfold Ins.val at *
    unfold Ins.cells at HB HW HT
    dsimp only at *
    generalize hE : w.alloc (.cells (List.toArray [.int .i64 id, .int .i64 3, .int .i64 dst, .int .i64 a, .int .i64 b, .int .i64 c, .int .i64 f, .int .i64 n, .int .i64 x0, .int .i64 x1, .int .i64 x2]) 40) = W at HB HW HT
    have hE' : w.alloc (.cells #[.int .i64 id, .int .i64 3, .int .i64 dst, .int .i64 a, .int .i64 b, .int .i64 c, .int .i64 f, .int .i64 n, .int .i64 x0, .int .i64 x1, .int .i64 x2] 40) = W := hE
    clear hE
    obtain ⟨g, hg⟩ : ∃ g, w.heap.size = g := ⟨_, rfl⟩
    rw [hg] at HB
    have HG := Lib.hid (HB.out.lt (Nat.zero_lt_succ _))
    have k0 := (HB.out 0 _ rfl).1
    have k1 := (HB.out 1 _ rfl).1
    have k2 := (HB.out 2 _ rfl).1
    have k3 := (HB.out 3 _ rfl).1
    have k4 := (HB.out 4 _ rfl).1
    have k5 := (HB.out 5 _ rfl).1
    have k6 := (HB.out 6 _ rfl).1
    have k7 := (HB.out 7 _ rfl).1
    have k8 := (HB.out 8 _ rfl).1
    have k9 := (HB.out 9 _ rfl).1
    have k10 := (HB.out 10 _ rfl).1
    go_enter Tryz.func69, Tryz.ntmps69
    go_wp2_with (first | (go_at_call 102; refine (HF.out _ HT.out).mono ?_; rintro e wa ⟨rfl, hba⟩; have HB2 := Lib.hid (HB.out.below hba HG.out); have HW2 := Lib.hid (HW.out.trans (hba.mono HW.out.size)); have HT2 := Lib.hid (HT.out.on hba); clear HB HW HT HG hba k0 k1 k2 k3 k4 k5 k6 k7 k8 k9 k10; have k0 := (HB2.out 0 _ rfl).1; have k1 := (HB2.out 1 _ rfl).1; have k2 := (HB2.out 2 _ rfl).1; have k3 := (HB2.out 3 _ rfl).1; have k4 := (HB2.out 4 _ rfl).1; have k5 := (HB2.out 5 _ rfl).1; have k6 := (HB2.out 6 _ rfl).1; have k7 := (HB2.out 7 _ rfl).1; have k8 := (HB2.out 8 _ rfl).1; have k9 := (HB2.out 9 _ rfl).1; have k10 := (HB2.out 10 _ rfl).1; have t1 := HT2.out.at 3 1 19 (by decide) (by decide) rfl (v := .bool true) (by kernel_rfl)))
    go_ret
    exact ⟨ret_int (by rw [HD.out]; rfl), HW2.out⟩
  · unfold Ins.val at *
    unfold Ins.cells at HB HW HT
    dsimp only at *
    generalize hE : w.alloc (.cells (List.toArray [.int .i64 id, .int .i64 4, .int .i64 dst, .int .i64 a, .int .i64 b, .int .i64 c, .int .i64 f, .int .i64 n, .int .i64 x0, .int .i64 x1, .int .i64 x2]) 40) = W at HB HW HT
    have hE' : w.alloc (.cells #[.int .i64 id, .int .i64 4, .int .i64 dst, .int .i64 a, .int .i64 b, .int .i64 c, .int .i64 f, .int .i64 n, .int .i64 x0, .int .i64 x1, .int .i64 x2] 40) = W := hE
    clear hE
    obtain ⟨g, hg⟩ : ∃ g, w.heap.size = g := ⟨_, rfl⟩
    rw [hg] at HB
    have HG := Lib.hid (HB.out.lt (Nat.zero_lt_succ _))
    have k0 := (HB.out 0 _ rfl).1
    have k1 := (HB.out 1 _ rfl).1
    have k2 := (HB.out 2 _ rfl).1
    have k3 := (HB.out 3 _ rfl).1
    have k4 := (HB.out 4 _ rfl).1
    have k5 := (HB.out 5 _ rfl).1
    have k6 := (HB.out 6 _ rfl).1
    have k7 := (HB.out 7 _ rfl).1
    have k8 := (HB.out 8 _ rfl).1
    have k9 := (HB.out 9 _ rfl).1
    have k10 := (HB.out 10 _ rfl).1
    go_enter Tryz.func69, Tryz.ntmps69
    go_wp2_with (first | (go_at_call 102; refine (HF.out _ HT.out).mono ?_; rintro e wa ⟨rfl, hba⟩; have HB2 := Lib.hid (HB.out.below hba HG.out); have HW2 := Lib.hid (HW.out.trans (hba.mono HW.out.size)); have HT2 := Lib.hid (HT.out.on hba); clear HB HW HT HG hba k0 k1 k2 k3 k4 k5 k6 k7 k8 k9 k10; have k0 := (HB2.out 0 _ rfl).1; have k1 := (HB2.out 1 _ rfl).1; have k2 := (HB2.out 2 _ rfl).1; have k3 := (HB2.out 3 _ rfl).1; have k4 := (HB2.out 4 _ rfl).1; have k5 := (HB2.out 5 _ rfl).1; have k6 := (HB2.out 6 _ rfl).1; have k7 := (HB2.out 7 _ rfl).1; have k8 := (HB2.out 8 _ rfl).1; have k9 := (HB2.out 9 _ rfl).1; have k10 := (HB2.out 10 _ rfl).1; have t1 := HT2.out.at 4 1 25 (by decide) (by decide) rfl (v := .bool true) (by kernel_rfl)))
    go_ret
    exact ⟨ret_int (by rw [HD.out]; rfl), HW2.out⟩
  · unfold Ins.val at *
    unfold Ins.cells at HB HW HT
    dsimp only at *
    generalize hE : w.alloc (.cells (List.toArray [.int .i64 id, .int .i64 5, .int .i64 dst, .int .i64 a, .int .i64 b, .int .i64 c, .int .i64 f, .int .i64 n, .int .i64 x0, .int .i64 x1, .int .i64 x2]) 40) = W at HB HW HT
    have hE' : w.alloc (.cells #[.int .i64 id, .int .i64 5, .int .i64 dst, .int .i64 a, .int .i64 b, .int .i64 c, .int .i64 f, .int .i64 n, .int .i64 x0, .int .i64 x1, .int .i64 x2] 40) = W := hE
    clear hE
    obtain ⟨g, hg⟩ : ∃ g, w.heap.size = g := ⟨_, rfl⟩
    rw [hg] at HB
    have HG := Lib.hid (HB.out.lt (Nat.zero_lt_succ _))
    have k0 := (HB.out 0 _ rfl).1
    have k1 := (HB.out 1 _ rfl).1
    have k2 := (HB.out 2 _ rfl).1
    have k3 := (HB.out 3 _ rfl).1
    have k4 := (HB.out 4 _ rfl).1
    have k5 := (HB.out 5 _ rfl).1
    have k6 := (HB.out 6 _ rfl).1
    have k7 := (HB.out 7 _ rfl).1
    have k8 := (HB.out 8 _ rfl).1
    have k9 := (HB.out 9 _ rfl).1
    have k10 := (HB.out 10 _ rfl).1
    go_enter Tryz.func69, Tryz.ntmps69
    go_wp2_with (first | (go_at_call 102; refine (HF.out _ HT.out).mono ?_; rintro e wa ⟨rfl, hba⟩; have HB2 := Lib.hid (HB.out.below hba HG.out); have HW2 := Lib.hid (HW.out.trans (hba.mono HW.out.size)); have HT2 := Lib.hid (HT.out.on hba); clear HB HW HT HG hba k0 k1 k2 k3 k4 k5 k6 k7 k8 k9 k10; have k0 := (HB2.out 0 _ rfl).1; have k1 := (HB2.out 1 _ rfl).1; have k2 := (HB2.out 2 _ rfl).1; have k3 := (HB2.out 3 _ rfl).1; have k4 := (HB2.out 4 _ rfl).1; have k5 := (HB2.out 5 _ rfl).1; have k6 := (HB2.out 6 _ rfl).1; have k7 := (HB2.out 7 _ rfl).1; have k8 := (HB2.out 8 _ rfl).1; have k9 := (HB2.out 9 _ rfl).1; have k10 := (HB2.out 10 _ rfl).1; have t1 := HT2.out.at 5 1 31 (by decide) (by decide) rfl (v := .bool true) (by kernel_rfl)))
    go_ret
    exact ⟨ret_int (by rw [HD.out]; rfl), HW2.out⟩
  · unfold Ins.val at *
    unfold Ins.cells at HB HW HT
    dsimp only at *
    generalize hE : w.alloc (.cells (List.toArray [.int .i64 id, .int .i64 6, .int .i64 dst, .int .i64 a, .int .i64 b, .int .i64 c, .int .i64 f, .int .i64 n, .int .i64 x0, .int .i64 x1, .int .i64 x2]) 40) = W at HB HW HT
    have hE' : w.alloc (.cells #[.int .i64 id, .int .i64 6, .int .i64 dst, .int .i64 a, .int .i64 b, .int .i64 c, .int .i64 f, .int .i64 n, .int .i64 x0, .int .i64 x1, .int .i64 x2] 40) = W := hE
    clear hE
    obtain ⟨g, hg⟩ : ∃ g, w.heap.size = g := ⟨_, rfl⟩
    rw [hg] at HB
    have HG := Lib.hid (HB.out.lt (Nat.zero_lt_succ _))
    have k0 := (HB.out 0 _ rfl).1
    have k1 := (HB.out 1 _ rfl).1
    have k2 := (HB.out 2 _ rfl).1
    have k3 := (HB.out 3 _ rfl).1
    have k4 := (HB.out 4 _ rfl).1
    have k5 := (HB.out 5 _ rfl).1
    have k6 := (HB.out 6 _ rfl).1
    have k7 := (HB.out 7 _ rfl).1
    have k8 := (HB.out 8 _ rfl).1
    have k9 := (HB.out 9 _ rfl).1
    have k10 := (HB.out 10 _ rfl).1
    go_enter Tryz.func69, Tryz.ntmps69
    go_wp2_with (first | (go_at_call 102; refine (HF.out _ HT.out).mono ?_; rintro e wa ⟨rfl, hba⟩; have HB2 := Lib.hid (HB.out.below hba HG.out); have HW2 := Lib.hid (HW.out.trans (hba.mono HW.out.size)); have HT2 := Lib.hid (HT.out.on hba); clear HB HW HT HG hba k0 k1 k2 k3 k4 k5 k6 k7 k8 k9 k10; have k0 := (HB2.out 0 _ rfl).1; have k1 := (HB2.out 1 _ rfl).1; have k2 := (HB2.out 2 _ rfl).1; have k3 := (HB2.out 3 _ rfl).1; have k4 := (HB2.out 4 _ rfl).1; have k5 := (HB2.out 5 _ rfl).1; have k6 := (HB2.out 6 _ rfl).1; have k7 := (HB2.out 7 _ rfl).1; have k8 := (HB2.out 8 _ rfl).1; have k9 := (HB2.out 9 _ rfl).1; have k10 := (HB2.out 10 _ rfl).1; have t1 := HT2.out.at 6 1 37 (by decide) (by decide) rfl (v := .bool true) (by kernel_rfl)))
    go_ret
    exact ⟨ret_int (by rw [HD.out]; rfl), HW2.out⟩
  · unfold Ins.val at *
    unfold Ins.cells at HB HW HT
    dsimp only at *
    generalize hE : w.alloc (.cells (List.toArray [.int .i64 id, .int .i64 7, .int .i64 dst, .int .i64 a, .int .i64 b, .int .i64 c, .int .i64 f, .int .i64 n, .int .i64 x0, .int .i64 x1, .int .i64 x2]) 40) = W at HB HW HT
    have hE' : w.alloc (.cells #[.int .i64 id, .int .i64 7, .int .i64 dst, .int .i64 a, .int .i64 b, .int .i64 c, .int .i64 f, .int .i64 n, .int .i64 x0, .int .i64 x1, .int .i64 x2] 40) = W := hE
    clear hE
    obtain ⟨g, hg⟩ : ∃ g, w.heap.size = g := ⟨_, rfl⟩
    rw [hg] at HB
    have HG := Lib.hid (HB.out.lt (Nat.zero_lt_succ _))
    have k0 := (HB.out 0 _ rfl).1
    have k1 := (HB.out 1 _ rfl).1
    have k2 := (HB.out 2 _ rfl).1
    have k3 := (HB.out 3 _ rfl).1
    have k4 := (HB.out 4 _ rfl).1
    have k5 := (HB.out 5 _ rfl).1
    have k6 := (HB.out 6 _ rfl).1
    have k7 := (HB.out 7 _ rfl).1
    have k8 := (HB.out 8 _ rfl).1
    have k9 := (HB.out 9 _ rfl).1
    have k10 := (HB.out 10 _ rfl).1
    go_enter Tryz.func69, Tryz.ntmps69
    go_wp2_with (first | (go_at_call 102; refine (HF.out _ HT.out).mono ?_; rintro e wa ⟨rfl, hba⟩; have HB2 := Lib.hid (HB.out.below hba HG.out); have HW2 := Lib.hid (HW.out.trans (hba.mono HW.out.size)); have HT2 := Lib.hid (HT.out.on hba); clear HB HW HT HG hba k0 k1 k2 k3 k4 k5 k6 k7 k8 k9 k10; have k0 := (HB2.out 0 _ rfl).1; have k1 := (HB2.out 1 _ rfl).1; have k2 := (HB2.out 2 _ rfl).1; have k3 := (HB2.out 3 _ rfl).1; have k4 := (HB2.out 4 _ rfl).1; have k5 := (HB2.out 5 _ rfl).1; have k6 := (HB2.out 6 _ rfl).1; have k7 := (HB2.out 7 _ rfl).1; have k8 := (HB2.out 8 _ rfl).1; have k9 := (HB2.out 9 _ rfl).1; have k10 := (HB2.out 10 _ rfl).1; have t1 := HT2.out.at 7 1 43 (by decide) (by decide) rfl (v := .bool true) (by kernel_rfl)))
    go_ret
    exact ⟨ret_int (by rw [HD.out]; rfl), HW2.out⟩
  · unfold Ins.val at *
    unfold Ins.cells at HB HW HT
    dsimp only at *
    generalize hE : w.alloc (.cells (List.toArray [.int .i64 id, .int .i64 8, .int .i64 dst, .int .i64 a, .int .i64 b, .int .i64 c, .int .i64 f, .int .i64 n, .int .i64 x0, .int .i64 x1, .int .i64 x2]) 40) = W at HB HW HT
    have hE' : w.alloc (.cells #[.int .i64 id, .int .i64 8, .int .i64 dst, .int .i64 a, .int .i64 b, .int .i64 c, .int .i64 f, .int .i64 n, .int .i64 x0, .int .i64 x1, .int .i64 x2] 40) = W := hE
    clear hE
    obtain ⟨g, hg⟩ : ∃ g, w.heap.size = g := ⟨_, rfl⟩
    rw [hg] at HB
    have HG := Lib.hid (HB.out.lt (Nat.zero_lt_succ _))
    have k0 := (HB.out 0 _ rfl).1
    have k1 := (HB.out 1 _ rfl).1
    have k2 := (HB.out 2 _ rfl).1
    have k3 := (HB.out 3 _ rfl).1
    have k4 := (HB.out 4 _ rfl).1
    have k5 := (HB.out 5 _ rfl).1
    have k6 := (HB.out 6 _ rfl).1
    have k7 := (HB.out 7 _ rfl).1
    have k8 := (HB.out 8 _ rfl).1
    have k9 := (HB.out 9 _ rfl).1
    have k10 := (HB.out 10 _ rfl).1
    go_enter Tryz.func69, Tryz.ntmps69
    go_wp2_with (first | (go_at_call 102; refine (HF.out _ HT.out).mono ?_; rintro e wa ⟨rfl, hba⟩; have HB2 := Lib.hid (HB.out.below hba HG.out); have HW2 := Lib.hid (HW.out.trans (hba.mono HW.out.size)); have HT2 := Lib.hid (HT.out.on hba); clear HB HW HT HG hba k0 k1 k2 k3 k4 k5 k6 k7 k8 k9 k10; have k0 := (HB2.out 0 _ rfl).1; have k1 := (HB2.out 1 _ rfl).1; have k2 := (HB2.out 2 _ rfl).1; have k3 := (HB2.out 3 _ rfl).1; have k4 := (HB2.out 4 _ rfl).1; have k5 := (HB2.out 5 _ rfl).1; have k6 := (HB2.out 6 _ rfl).1; have k7 := (HB2.out 7 _ rfl).1; have k8 := (HB2.out 8 _ rfl).1; have k9 := (HB2.out 9 _ rfl).1; have k10 := (HB2.out 10 _ rfl).1; have t1 := HT2.out.at 8 1 49 (by decide) (by decide) rfl (v := .bool false) (by kernel_rfl)))
    go_ret
    exact ⟨ret_int (by rw [HD.out]; rfl), HW2.out⟩
  · unfold Ins.val at *
    unfold Ins.cells at HB HW HT
    dsimp only at *
    generalize hE : w.alloc (.cells (List.toArray [.int .i64 id, .int .i64 9, .int .i64 dst, .int .i64 a, .int .i64 b, .int .i64 c, .int .i64 f, .int .i64 n, .int .i64 x0, .int .i64 x1, .int .i64 x2]) 40) = W at HB HW HT
    have hE' : w.alloc (.cells #[.int .i64 id, .int .i64 9, .int .i64 dst, .int .i64 a, .int .i64 b, .int .i64 c, .int .i64 f, .int .i64 n, .int .i64 x0, .int .i64 x1, .int .i64 x2] 40) = W := hE
    clear hE
    obtain ⟨g, hg⟩ : ∃ g, w.heap.size = g := ⟨_, rfl⟩
    rw [hg] at HB
    have HG := Lib.hid (HB.out.lt (Nat.zero_lt_succ _))
    have k0 := (HB.out 0 _ rfl).1
    have k1 := (HB.out 1 _ rfl).1
    have k2 := (HB.out 2 _ rfl).1
    have k3 := (HB.out 3 _ rfl).1
    have k4 := (HB.out 4 _ rfl).1
    have k5 := (HB.out 5 _ rfl).1
    have k6 := (HB.out 6 _ rfl).1
    have k7 := (HB.out 7 _ rfl).1
    have k8 := (HB.out 8 _ rfl).1
    have k9 := (HB.out 9 _ rfl).1
    have k10 := (HB.out 10 _ rfl).1
    go_enter Tryz.func69, Tryz.ntmps69
    go_wp2_with (first | (go_at_call 102; refine (HF.out _ HT.out).mono ?_; rintro e wa ⟨rfl, hba⟩; have HB2 := Lib.hid (HB.out.below hba HG.out); have HW2 := Lib.hid (HW.out.trans (hba.mono HW.out.size)); have HT2 := Lib.hid (HT.out.on hba); clear HB HW HT HG hba k0 k1 k2 k3 k4 k5 k6 k7 k8 k9 k10; have k0 := (HB2.out 0 _ rfl).1; have k1 := (HB2.out 1 _ rfl).1; have k2 := (HB2.out 2 _ rfl).1; have k3 := (HB2.out 3 _ rfl).1; have k4 := (HB2.out 4 _ rfl).1; have k5 := (HB2.out 5 _ rfl).1; have k6 := (HB2.out 6 _ rfl).1; have k7 := (HB2.out 7 _ rfl).1; have k8 := (HB2.out 8 _ rfl).1; have k9 := (HB2.out 9 _ rfl).1; have k10 := (HB2.out 10 _ rfl).1; have t1 := HT2.out.at 9 1 55 (by decide) (by decide) rfl (v := .bool false) (by kernel_rfl)))
    go_ret
    exact ⟨ret_int (by rw [HD.out]; rfl), HW2.out⟩
end Go.Proofs.YtbddjneinfkmpaaGreatDoor
