/- AcoG: several texts in one: Aco1 Aco2 Aco. -/
import Derived.Test.YtbddjneinfkmpaaGreatDoorAppH
import Derived.Test.YtbddjneinfkmpaaGreatDoorAwA

namespace Go.Proofs.YtbddjneinfkmpaaGreatDoor
open Go Go.RowKit Go.Sort

set_option maxRecDepth 100000 in
set_option maxHeartbeats 16000000 in
theorem cntN (p : Pg) (e : Ed) (w : World) (h : Rd w p) (hfew : ¬ p.few) :
    Calls Tryz.prog 10 #[p.val, e.val] w fun x w' => x = .returned (.bool true) ∧ Below w.heap.size w w' := by
  have HAW := Lib.hid (fun wr (h : Rd wr p) => awake8_any wr h.2.1 h.2.2)
  have HFE := Lib.hid (fun wr (h : Rd wr p) => Few_any p wr h.1 false (by simp [hfew]))
  have HRD0 := Lib.hid h
  clear h hfew
  obtain ⟨op, f, b, tob, other, pos, ⟨id, kind, dst, a, b2, c, f2, n, x0, x1, x2⟩⟩ := e
  unfold Pg.val at HFE
  unfold Pg.val Ed.val
  try dsimp only at *
  obtain ⟨PL, hPL⟩ : ∃ PL, p.funs.length = PL := ⟨_, rfl⟩
  simp only [hPL] at HFE ⊢
  clear hPL
  have HBb := Lib.hid (below2 w (.cells #[.slice p.pa PL p.pc] 24) (.cells #[.int .i64 op, .int .i64 f, .int .i64 b, .int .i64 tob, .int .i64 other, .int .i64 pos, .int .i64 id, .int .i64 kind, .int .i64 dst, .int .i64 a, .int .i64 b2, .int .i64 c, .int .i64 f2, .int .i64 n, .int .i64 x0, .int .i64 x1, .int .i64 x2] 55))
  have hx0 := BoxL.new w [.slice p.pa PL p.pc] 24
  have HX0 := Lib.hid (show BoxL ((w.alloc (.cells #[.slice p.pa PL p.pc] 24)).alloc (.cells #[.int .i64 op, .int .i64 f, .int .i64 b, .int .i64 tob, .int .i64 other, .int .i64 pos, .int .i64 id, .int .i64 kind, .int .i64 dst, .int .i64 a, .int .i64 b2, .int .i64 c, .int .i64 f2, .int .i64 n, .int .i64 x0, .int .i64 x1, .int .i64 x2] 55)) (w.heap.size) [.slice p.pa PL p.pc] from (hx0).alloc (Nat.zero_lt_succ _) (.cells #[.int .i64 op, .int .i64 f, .int .i64 b, .int .i64 tob, .int .i64 other, .int .i64 pos, .int .i64 id, .int .i64 kind, .int .i64 dst, .int .i64 a, .int .i64 b2, .int .i64 c, .int .i64 f2, .int .i64 n, .int .i64 x0, .int .i64 x1, .int .i64 x2] 55))
  have hx1 := BoxL.new (w.alloc (.cells #[.slice p.pa PL p.pc] 24)) [.int .i64 op, .int .i64 f, .int .i64 b, .int .i64 tob, .int .i64 other, .int .i64 pos, .int .i64 id, .int .i64 kind, .int .i64 dst, .int .i64 a, .int .i64 b2, .int .i64 c, .int .i64 f2, .int .i64 n, .int .i64 x0, .int .i64 x1, .int .i64 x2] 55
  rw [World.size_alloc] at hx1
  have HX1 := Lib.hid (show BoxL ((w.alloc (.cells #[.slice p.pa PL p.pc] 24)).alloc (.cells #[.int .i64 op, .int .i64 f, .int .i64 b, .int .i64 tob, .int .i64 other, .int .i64 pos, .int .i64 id, .int .i64 kind, .int .i64 dst, .int .i64 a, .int .i64 b2, .int .i64 c, .int .i64 f2, .int .i64 n, .int .i64 x0, .int .i64 x1, .int .i64 x2] 55)) (w.heap.size + 1) [.int .i64 op, .int .i64 f, .int .i64 b, .int .i64 tob, .int .i64 other, .int .i64 pos, .int .i64 id, .int .i64 kind, .int .i64 dst, .int .i64 a, .int .i64 b2, .int .i64 c, .int .i64 f2, .int .i64 n, .int .i64 x0, .int .i64 x1, .int .i64 x2] from hx1)
  clear hx0 hx1
  have HRW := Lib.hid (HRD0.out.on HBb.out)
  generalize hW : ((w.alloc (.cells #[.slice p.pa PL p.pc] 24)).alloc (.cells #[.int .i64 op, .int .i64 f, .int .i64 b, .int .i64 tob, .int .i64 other, .int .i64 pos, .int .i64 id, .int .i64 kind, .int .i64 dst, .int .i64 a, .int .i64 b2, .int .i64 c, .int .i64 f2, .int .i64 n, .int .i64 x0, .int .i64 x1, .int .i64 x2] 55)) = W at HBb HX0 HX1 HRW
  obtain ⟨g, hg⟩ : ∃ g, w.heap.size = g := ⟨_, rfl⟩
  have HGL := Lib.hid HBb.out.size
  rw [hg] at HBb HGL HX0 HX1 ⊢
  have HL0 := Lib.hid (HX0.out.lt (Nat.zero_lt_succ _))
  have HL1 := Lib.hid (HX1.out.lt (Nat.zero_lt_succ _))
  have HC : Hid (∀ wr, Below W.heap.size W wr → wr.cell? ⟨g, 0, none⟩ = some (.slice p.pa PL p.pc) ∧ wr.cell? ⟨g + 1, 0, none⟩ = some (.int .i64 op)) := Lib.hid fun wr hb => ⟨((HX0.out.below hb HL0.out) 0 _ rfl).1, ((HX1.out.below hb HL1.out) 0 _ rfl).1⟩
  have HRO : Hid (∀ wr, Below W.heap.size W wr → wr.rangeAt (g + 1) 0 [.int .i64 op, .int .i64 f, .int .i64 b, .int .i64 tob, .int .i64 other, .int .i64 pos, .int .i64 id, .int .i64 kind, .int .i64 dst, .int .i64 a, .int .i64 b2, .int .i64 c, .int .i64 f2, .int .i64 n, .int .i64 x0, .int .i64 x1, .int .i64 x2]) := Lib.hid fun wr hb => (HX1.out.below hb HL1.out).range
  have HBN : Hid (Below W.heap.size W W) := Lib.hid (Below.refl _ _)
  obtain ⟨k0, k1⟩ := HC.out _ HBN.out
  go_enter Tryz.func10, Tryz.ntmps10
  go_wp2_with (first
    | (go_at_call 47; refine (HAW.out _ (HRW.out.on HBN.out)).mono ?_; rintro e wa ⟨rfl, hbn⟩; have hbx := HBN.out.trans (hbn.mono HBN.out.size); clear HBN hbn k0 k1; have HBN := Lib.hid hbx; clear hbx; obtain ⟨k0, k1⟩ := HC.out _ HBN.out)
    | (go_at_call 14; refine (HFE.out _ (HRW.out.on HBN.out)).mono ?_; rintro e wb ⟨rfl, hbn⟩; have hbx := HBN.out.trans (hbn.mono HBN.out.size); clear HBN hbn k0 k1; have HBN := Lib.hid hbx; clear hbx; obtain ⟨k0, k1⟩ := HC.out _ HBN.out))
  go_ret
  exact ⟨rfl, HBb.out.trans (HBN.out.mono HGL.out)⟩

set_option maxRecDepth 100000 in
set_option maxHeartbeats 16000000 in
theorem cntS (p : Pg) (e : Ed) (w : World) (h : Rd w p) (hfew : p.few) (hs : ¬ p.sane) :
    Calls Tryz.prog 10 #[p.val, e.val] w fun x w' => x = .returned (.bool true) ∧ Below w.heap.size w w' := by
  have HAW := Lib.hid (fun wr (h : Rd wr p) => awake8_any wr h.2.1 h.2.2)
  have HFE := Lib.hid (fun wr (h : Rd wr p) => Few_any p wr h.1 true (by simp [hfew]))
  have HSA := Lib.hid (fun wr (h : Rd wr p) => Sane_any p wr h.1 h.2.1 h.2.2 hfew false (by simp [hs]))
  have HRD0 := Lib.hid h
  clear h hfew hs
  obtain ⟨op, f, b, tob, other, pos, ⟨id, kind, dst, a, b2, c, f2, n, x0, x1, x2⟩⟩ := e
  unfold Pg.val at HFE HSA
  unfold Pg.val Ed.val
  try dsimp only at *
  obtain ⟨PL, hPL⟩ : ∃ PL, p.funs.length = PL := ⟨_, rfl⟩
  simp only [hPL] at HFE HSA ⊢
  clear hPL
  have HBb := Lib.hid (below2 w (.cells #[.slice p.pa PL p.pc] 24) (.cells #[.int .i64 op, .int .i64 f, .int .i64 b, .int .i64 tob, .int .i64 other, .int .i64 pos, .int .i64 id, .int .i64 kind, .int .i64 dst, .int .i64 a, .int .i64 b2, .int .i64 c, .int .i64 f2, .int .i64 n, .int .i64 x0, .int .i64 x1, .int .i64 x2] 55))
  have hx0 := BoxL.new w [.slice p.pa PL p.pc] 24
  have HX0 := Lib.hid (show BoxL ((w.alloc (.cells #[.slice p.pa PL p.pc] 24)).alloc (.cells #[.int .i64 op, .int .i64 f, .int .i64 b, .int .i64 tob, .int .i64 other, .int .i64 pos, .int .i64 id, .int .i64 kind, .int .i64 dst, .int .i64 a, .int .i64 b2, .int .i64 c, .int .i64 f2, .int .i64 n, .int .i64 x0, .int .i64 x1, .int .i64 x2] 55)) (w.heap.size) [.slice p.pa PL p.pc] from (hx0).alloc (Nat.zero_lt_succ _) (.cells #[.int .i64 op, .int .i64 f, .int .i64 b, .int .i64 tob, .int .i64 other, .int .i64 pos, .int .i64 id, .int .i64 kind, .int .i64 dst, .int .i64 a, .int .i64 b2, .int .i64 c, .int .i64 f2, .int .i64 n, .int .i64 x0, .int .i64 x1, .int .i64 x2] 55))
  have hx1 := BoxL.new (w.alloc (.cells #[.slice p.pa PL p.pc] 24)) [.int .i64 op, .int .i64 f, .int .i64 b, .int .i64 tob, .int .i64 other, .int .i64 pos, .int .i64 id, .int .i64 kind, .int .i64 dst, .int .i64 a, .int .i64 b2, .int .i64 c, .int .i64 f2, .int .i64 n, .int .i64 x0, .int .i64 x1, .int .i64 x2] 55
  rw [World.size_alloc] at hx1
  have HX1 := Lib.hid (show BoxL ((w.alloc (.cells #[.slice p.pa PL p.pc] 24)).alloc (.cells #[.int .i64 op, .int .i64 f, .int .i64 b, .int .i64 tob, .int .i64 other, .int .i64 pos, .int .i64 id, .int .i64 kind, .int .i64 dst, .int .i64 a, .int .i64 b2, .int .i64 c, .int .i64 f2, .int .i64 n, .int .i64 x0, .int .i64 x1, .int .i64 x2] 55)) (w.heap.size + 1) [.int .i64 op, .int .i64 f, .int .i64 b, .int .i64 tob, .int .i64 other, .int .i64 pos, .int .i64 id, .int .i64 kind, .int .i64 dst, .int .i64 a, .int .i64 b2, .int .i64 c, .int .i64 f2, .int .i64 n, .int .i64 x0, .int .i64 x1, .int .i64 x2] from hx1)
  clear hx0 hx1
  have HRW := Lib.hid (HRD0.out.on HBb.out)
  generalize hW : ((w.alloc (.cells #[.slice p.pa PL p.pc] 24)).alloc (.cells #[.int .i64 op, .int .i64 f, .int .i64 b, .int .i64 tob, .int .i64 other, .int .i64 pos, .int .i64 id, .int .i64 kind, .int .i64 dst, .int .i64 a, .int .i64 b2, .int .i64 c, .int .i64 f2, .int .i64 n, .int .i64 x0, .int .i64 x1, .int .i64 x2] 55)) = W at HBb HX0 HX1 HRW
  obtain ⟨g, hg⟩ : ∃ g, w.heap.size = g := ⟨_, rfl⟩
  have HGL := Lib.hid HBb.out.size
  rw [hg] at HBb HGL HX0 HX1 ⊢
  have HL0 := Lib.hid (HX0.out.lt (Nat.zero_lt_succ _))
  have HL1 := Lib.hid (HX1.out.lt (Nat.zero_lt_succ _))
  have HC : Hid (∀ wr, Below W.heap.size W wr → wr.cell? ⟨g, 0, none⟩ = some (.slice p.pa PL p.pc) ∧ wr.cell? ⟨g + 1, 0, none⟩ = some (.int .i64 op)) := Lib.hid fun wr hb => ⟨((HX0.out.below hb HL0.out) 0 _ rfl).1, ((HX1.out.below hb HL1.out) 0 _ rfl).1⟩
  have HRO : Hid (∀ wr, Below W.heap.size W wr → wr.rangeAt (g + 1) 0 [.int .i64 op, .int .i64 f, .int .i64 b, .int .i64 tob, .int .i64 other, .int .i64 pos, .int .i64 id, .int .i64 kind, .int .i64 dst, .int .i64 a, .int .i64 b2, .int .i64 c, .int .i64 f2, .int .i64 n, .int .i64 x0, .int .i64 x1, .int .i64 x2]) := Lib.hid fun wr hb => (HX1.out.below hb HL1.out).range
  have HBN : Hid (Below W.heap.size W W) := Lib.hid (Below.refl _ _)
  obtain ⟨k0, k1⟩ := HC.out _ HBN.out
  go_enter Tryz.func10, Tryz.ntmps10
  go_wp2_with (first
    | (go_at_call 47; refine (HAW.out _ (HRW.out.on HBN.out)).mono ?_; rintro e wa ⟨rfl, hbn⟩; have hbx := HBN.out.trans (hbn.mono HBN.out.size); clear HBN hbn k0 k1; have HBN := Lib.hid hbx; clear hbx; obtain ⟨k0, k1⟩ := HC.out _ HBN.out)
    | (go_at_call 14; refine (HFE.out _ (HRW.out.on HBN.out)).mono ?_; rintro e wb ⟨rfl, hbn⟩; have hbx := HBN.out.trans (hbn.mono HBN.out.size); clear HBN hbn k0 k1; have HBN := Lib.hid hbx; clear hbx; obtain ⟨k0, k1⟩ := HC.out _ HBN.out)
    | (go_at_call 23; refine (HSA.out _ (HRW.out.on HBN.out)).mono ?_; rintro e wc ⟨rfl, hbn⟩; have hbx := HBN.out.trans (hbn.mono HBN.out.size); clear HBN hbn k0 k1; have HBN := Lib.hid hbx; clear hbx; obtain ⟨k0, k1⟩ := HC.out _ HBN.out))
  go_ret
  exact ⟨rfl, HBb.out.trans (HBN.out.mono HGL.out)⟩

set_option maxRecDepth 100000 in
set_option maxHeartbeats 16000000 in
theorem cntC (p : Pg) (e : Ed) (w : World) (h : Rd w p) (hfew : p.few) (hs : p.sane) (r : Int) (hr : chk p e = r) (h0 : r ≠ 0) :
    Calls Tryz.prog 10 #[p.val, e.val] w fun x w' => x = .returned (.bool true) ∧ Below w.heap.size w w' := by
  have HAW := Lib.hid (fun wr (h : Rd wr p) => awake8_any wr h.2.1 h.2.2)
  have HFE := Lib.hid (fun wr (h : Rd wr p) => Few_any p wr h.1 true (by simp [hfew]))
  have HSA := Lib.hid (fun wr (h : Rd wr p) => Sane_any p wr h.1 h.2.1 h.2.2 hfew true (by simp [hs]))
  have HCE := Lib.hid (fun wr (h : Rd wr p) => Check_any p e wr h hfew r hr)
  have hrb : (r != 0) = true := by simp only [bne, beq_false_of_ne h0, Bool.not_false]
  clear h0 hr
  have HRD0 := Lib.hid h
  clear h hfew hs
  obtain ⟨op, f, b, tob, other, pos, ⟨id, kind, dst, a, b2, c, f2, n, x0, x1, x2⟩⟩ := e
  unfold Pg.val at HFE HSA HCE
  unfold Ed.val at HCE
  unfold Pg.val Ed.val
  try dsimp only at *
  obtain ⟨PL, hPL⟩ : ∃ PL, p.funs.length = PL := ⟨_, rfl⟩
  simp only [hPL] at HFE HSA HCE ⊢
  clear hPL
  have HBb := Lib.hid (below2 w (.cells #[.slice p.pa PL p.pc] 24) (.cells #[.int .i64 op, .int .i64 f, .int .i64 b, .int .i64 tob, .int .i64 other, .int .i64 pos, .int .i64 id, .int .i64 kind, .int .i64 dst, .int .i64 a, .int .i64 b2, .int .i64 c, .int .i64 f2, .int .i64 n, .int .i64 x0, .int .i64 x1, .int .i64 x2] 55))
  have hx0 := BoxL.new w [.slice p.pa PL p.pc] 24
  have HX0 := Lib.hid (show BoxL ((w.alloc (.cells #[.slice p.pa PL p.pc] 24)).alloc (.cells #[.int .i64 op, .int .i64 f, .int .i64 b, .int .i64 tob, .int .i64 other, .int .i64 pos, .int .i64 id, .int .i64 kind, .int .i64 dst, .int .i64 a, .int .i64 b2, .int .i64 c, .int .i64 f2, .int .i64 n, .int .i64 x0, .int .i64 x1, .int .i64 x2] 55)) (w.heap.size) [.slice p.pa PL p.pc] from (hx0).alloc (Nat.zero_lt_succ _) (.cells #[.int .i64 op, .int .i64 f, .int .i64 b, .int .i64 tob, .int .i64 other, .int .i64 pos, .int .i64 id, .int .i64 kind, .int .i64 dst, .int .i64 a, .int .i64 b2, .int .i64 c, .int .i64 f2, .int .i64 n, .int .i64 x0, .int .i64 x1, .int .i64 x2] 55))
  have hx1 := BoxL.new (w.alloc (.cells #[.slice p.pa PL p.pc] 24)) [.int .i64 op, .int .i64 f, .int .i64 b, .int .i64 tob, .int .i64 other, .int .i64 pos, .int .i64 id, .int .i64 kind, .int .i64 dst, .int .i64 a, .int .i64 b2, .int .i64 c, .int .i64 f2, .int .i64 n, .int .i64 x0, .int .i64 x1, .int .i64 x2] 55
  rw [World.size_alloc] at hx1
  have HX1 := Lib.hid (show BoxL ((w.alloc (.cells #[.slice p.pa PL p.pc] 24)).alloc (.cells #[.int .i64 op, .int .i64 f, .int .i64 b, .int .i64 tob, .int .i64 other, .int .i64 pos, .int .i64 id, .int .i64 kind, .int .i64 dst, .int .i64 a, .int .i64 b2, .int .i64 c, .int .i64 f2, .int .i64 n, .int .i64 x0, .int .i64 x1, .int .i64 x2] 55)) (w.heap.size + 1) [.int .i64 op, .int .i64 f, .int .i64 b, .int .i64 tob, .int .i64 other, .int .i64 pos, .int .i64 id, .int .i64 kind, .int .i64 dst, .int .i64 a, .int .i64 b2, .int .i64 c, .int .i64 f2, .int .i64 n, .int .i64 x0, .int .i64 x1, .int .i64 x2] from hx1)
  clear hx0 hx1
  have HRW := Lib.hid (HRD0.out.on HBb.out)
  generalize hW : ((w.alloc (.cells #[.slice p.pa PL p.pc] 24)).alloc (.cells #[.int .i64 op, .int .i64 f, .int .i64 b, .int .i64 tob, .int .i64 other, .int .i64 pos, .int .i64 id, .int .i64 kind, .int .i64 dst, .int .i64 a, .int .i64 b2, .int .i64 c, .int .i64 f2, .int .i64 n, .int .i64 x0, .int .i64 x1, .int .i64 x2] 55)) = W at HBb HX0 HX1 HRW
  obtain ⟨g, hg⟩ : ∃ g, w.heap.size = g := ⟨_, rfl⟩
  have HGL := Lib.hid HBb.out.size
  rw [hg] at HBb HGL HX0 HX1 ⊢
  have HL0 := Lib.hid (HX0.out.lt (Nat.zero_lt_succ _))
  have HL1 := Lib.hid (HX1.out.lt (Nat.zero_lt_succ _))
  have HC : Hid (∀ wr, Below W.heap.size W wr → wr.cell? ⟨g, 0, none⟩ = some (.slice p.pa PL p.pc) ∧ wr.cell? ⟨g + 1, 0, none⟩ = some (.int .i64 op)) := Lib.hid fun wr hb => ⟨((HX0.out.below hb HL0.out) 0 _ rfl).1, ((HX1.out.below hb HL1.out) 0 _ rfl).1⟩
  have HRO : Hid (∀ wr, Below W.heap.size W wr → wr.rangeAt (g + 1) 0 [.int .i64 op, .int .i64 f, .int .i64 b, .int .i64 tob, .int .i64 other, .int .i64 pos, .int .i64 id, .int .i64 kind, .int .i64 dst, .int .i64 a, .int .i64 b2, .int .i64 c, .int .i64 f2, .int .i64 n, .int .i64 x0, .int .i64 x1, .int .i64 x2]) := Lib.hid fun wr hb => (HX1.out.below hb HL1.out).range
  have HBN : Hid (Below W.heap.size W W) := Lib.hid (Below.refl _ _)
  obtain ⟨k0, k1⟩ := HC.out _ HBN.out
  go_enter Tryz.func10, Tryz.ntmps10
  go_wp2_with (first
    | (go_at_call 47; refine (HAW.out _ (HRW.out.on HBN.out)).mono ?_; rintro e wa ⟨rfl, hbn⟩; have hbx := HBN.out.trans (hbn.mono HBN.out.size); clear HBN hbn k0 k1; have HBN := Lib.hid hbx; clear hbx; obtain ⟨k0, k1⟩ := HC.out _ HBN.out)
    | (go_at_call 14; refine (HFE.out _ (HRW.out.on HBN.out)).mono ?_; rintro e wb ⟨rfl, hbn⟩; have hbx := HBN.out.trans (hbn.mono HBN.out.size); clear HBN hbn k0 k1; have HBN := Lib.hid hbx; clear hbx; obtain ⟨k0, k1⟩ := HC.out _ HBN.out)
    | (go_at_call 23; refine (HSA.out _ (HRW.out.on HBN.out)).mono ?_; rintro e wc ⟨rfl, hbn⟩; have hbx := HBN.out.trans (hbn.mono HBN.out.size); clear HBN hbn k0 k1; have HBN := Lib.hid hbx; clear hbx; obtain ⟨k0, k1⟩ := HC.out _ HBN.out)
    | (go_at_call 39; refine (HCE.out _ (HRW.out.on HBN.out)).mono ?_; rintro e wd ⟨rfl, hbn⟩; have hbx := HBN.out.trans (hbn.mono HBN.out.size); clear HBN hbn k0 k1; have HBN := Lib.hid hbx; clear hbx; obtain ⟨k0, k1⟩ := HC.out _ HBN.out)
    | ((with_reducible apply wpList_load_w (ty := 55) (b := g + 1) (o := 0) (cs := [.int .i64 op, .int .i64 f, .int .i64 b, .int .i64 tob, .int .i64 other, .int .i64 pos, .int .i64 id, .int .i64 kind, .int .i64 dst, .int .i64 a, .int .i64 b2, .int .i64 c, .int .i64 f2, .int .i64 n, .int .i64 x0, .int .i64 x1, .int .i64 x2])); rotate_left; rfl; rfl; exact HRO.out _ HBN.out; exact Tryz.underlying55; rfl; kernel_rfl; rotate_left; rfl; simp only [Act.put, List.setIfInBounds_toArray, List.set_cons_zero, List.set_cons_succ]))
  go_ret
  exact ⟨rfl, HBb.out.trans (HBN.out.mono HGL.out)⟩

end Go.Proofs.YtbddjneinfkmpaaGreatDoor

namespace Go.Proofs.YtbddjneinfkmpaaGreatDoor
open Go Go.RowKit Go.Sort

set_option maxRecDepth 100000 in
set_option maxHeartbeats 16000000 in
theorem cntY (p : Pg) (e : Ed) (w : World) (h : Rd w p) (hwf : p.wf) (hfew : p.few) (hs : p.sane) (hr : chk p e = 0) :
    Calls Tryz.prog 10 #[p.val, e.val] w fun x w' => x = .returned (.bool true) ∧ Below w.heap.size w w' := by
  have HAW := Lib.hid (fun wr (h : Rd wr p) => awake8_any wr h.2.1 h.2.2)
  have HFE := Lib.hid (fun wr (h : Rd wr p) => Few_any p wr h.1 true (by simp [hfew]))
  have HSA := Lib.hid (fun wr (h : Rd wr p) => Sane_any p wr h.1 h.2.1 h.2.2 hfew true (by simp [hs]))
  have HCE := Lib.hid (fun wr (h : Rd wr p) => Check_any p e wr h hfew 0 hr)
  have HAP := Lib.hid (fun wr (h : Rd wr p) => Apply_any p e wr h hfew hwf)
  have HCP := Lib.hid (fun wr (h : Rd wr p) => Count_any p wr h.1 h.2.1 h.2.2 hfew hs)
  have HCO := Lib.hid (fun (q : Pg) (h : q.d = (appP p e).d) => cnt_ok hr h)
  have HQS := Lib.hid (fun (q : Pg) (h : q.d = (appP p e).d) => (Pg.sane_of_d h).2 (sane_app hr))
  have HFW := Lib.hid hfew
  have HPS := Lib.hid hs
  have hlen10 := hfew.1
  unfold AppRes at HAP
  rw [hr] at HAP
  have hr2 := Lib.hid hr
  clear hr
  have HRD0 := Lib.hid h
  clear h hwf hfew hs
  obtain ⟨op, f, b, tob, other, pos, ⟨id, kind, dst, a, b2, c, f2, n, x0, x1, x2⟩⟩ := e
  unfold Pg.val at HFE HSA HCE HAP HCP
  unfold Ed.val at HCE HAP
  unfold Pg.val Ed.val
  try dsimp only at *
  obtain ⟨PL, hPL⟩ : ∃ PL, p.funs.length = PL := ⟨_, rfl⟩
  simp only [hPL] at HFE HSA HCE HAP HCP hlen10 ⊢
  have HPL := Lib.hid hPL
  clear hPL
  have HBb := Lib.hid (below2 w (.cells #[.slice p.pa PL p.pc] 24) (.cells #[.int .i64 op, .int .i64 f, .int .i64 b, .int .i64 tob, .int .i64 other, .int .i64 pos, .int .i64 id, .int .i64 kind, .int .i64 dst, .int .i64 a, .int .i64 b2, .int .i64 c, .int .i64 f2, .int .i64 n, .int .i64 x0, .int .i64 x1, .int .i64 x2] 55))
  have hx0 := BoxL.new w [.slice p.pa PL p.pc] 24
  have HX0 := Lib.hid (show BoxL ((w.alloc (.cells #[.slice p.pa PL p.pc] 24)).alloc (.cells #[.int .i64 op, .int .i64 f, .int .i64 b, .int .i64 tob, .int .i64 other, .int .i64 pos, .int .i64 id, .int .i64 kind, .int .i64 dst, .int .i64 a, .int .i64 b2, .int .i64 c, .int .i64 f2, .int .i64 n, .int .i64 x0, .int .i64 x1, .int .i64 x2] 55)) (w.heap.size) [.slice p.pa PL p.pc] from (hx0).alloc (Nat.zero_lt_succ _) (.cells #[.int .i64 op, .int .i64 f, .int .i64 b, .int .i64 tob, .int .i64 other, .int .i64 pos, .int .i64 id, .int .i64 kind, .int .i64 dst, .int .i64 a, .int .i64 b2, .int .i64 c, .int .i64 f2, .int .i64 n, .int .i64 x0, .int .i64 x1, .int .i64 x2] 55))
  have hx1 := BoxL.new (w.alloc (.cells #[.slice p.pa PL p.pc] 24)) [.int .i64 op, .int .i64 f, .int .i64 b, .int .i64 tob, .int .i64 other, .int .i64 pos, .int .i64 id, .int .i64 kind, .int .i64 dst, .int .i64 a, .int .i64 b2, .int .i64 c, .int .i64 f2, .int .i64 n, .int .i64 x0, .int .i64 x1, .int .i64 x2] 55
  rw [World.size_alloc] at hx1
  have HX1 := Lib.hid (show BoxL ((w.alloc (.cells #[.slice p.pa PL p.pc] 24)).alloc (.cells #[.int .i64 op, .int .i64 f, .int .i64 b, .int .i64 tob, .int .i64 other, .int .i64 pos, .int .i64 id, .int .i64 kind, .int .i64 dst, .int .i64 a, .int .i64 b2, .int .i64 c, .int .i64 f2, .int .i64 n, .int .i64 x0, .int .i64 x1, .int .i64 x2] 55)) (w.heap.size + 1) [.int .i64 op, .int .i64 f, .int .i64 b, .int .i64 tob, .int .i64 other, .int .i64 pos, .int .i64 id, .int .i64 kind, .int .i64 dst, .int .i64 a, .int .i64 b2, .int .i64 c, .int .i64 f2, .int .i64 n, .int .i64 x0, .int .i64 x1, .int .i64 x2] from hx1)
  clear hx0 hx1
  have HRW := Lib.hid (HRD0.out.on HBb.out)
  generalize hW : ((w.alloc (.cells #[.slice p.pa PL p.pc] 24)).alloc (.cells #[.int .i64 op, .int .i64 f, .int .i64 b, .int .i64 tob, .int .i64 other, .int .i64 pos, .int .i64 id, .int .i64 kind, .int .i64 dst, .int .i64 a, .int .i64 b2, .int .i64 c, .int .i64 f2, .int .i64 n, .int .i64 x0, .int .i64 x1, .int .i64 x2] 55)) = W at HBb HX0 HX1 HRW
  obtain ⟨g, hg⟩ : ∃ g, w.heap.size = g := ⟨_, rfl⟩
  have HGL := Lib.hid HBb.out.size
  rw [hg] at HBb HGL HX0 HX1 ⊢
  have HL0 := Lib.hid (HX0.out.lt (Nat.zero_lt_succ _))
  have HL1 := Lib.hid (HX1.out.lt (Nat.zero_lt_succ _))
  have HC : Hid (∀ wr, Below W.heap.size W wr → wr.cell? ⟨g, 0, none⟩ = some (.slice p.pa PL p.pc) ∧ wr.cell? ⟨g + 1, 0, none⟩ = some (.int .i64 op)) := Lib.hid fun wr hb => ⟨((HX0.out.below hb HL0.out) 0 _ rfl).1, ((HX1.out.below hb HL1.out) 0 _ rfl).1⟩
  have HRO : Hid (∀ wr, Below W.heap.size W wr → wr.rangeAt (g + 1) 0 [.int .i64 op, .int .i64 f, .int .i64 b, .int .i64 tob, .int .i64 other, .int .i64 pos, .int .i64 id, .int .i64 kind, .int .i64 dst, .int .i64 a, .int .i64 b2, .int .i64 c, .int .i64 f2, .int .i64 n, .int .i64 x0, .int .i64 x1, .int .i64 x2]) := Lib.hid fun wr hb => (HX1.out.below hb HL1.out).range
  have HBN : Hid (Below W.heap.size W W) := Lib.hid (Below.refl _ _)
  obtain ⟨k0, k1⟩ := HC.out _ HBN.out
  go_enter Tryz.func10, Tryz.ntmps10
  go_upto_region 4 with (first
    | (go_at_call 47; refine (HAW.out _ (HRW.out.on HBN.out)).mono ?_; rintro e wa ⟨rfl, hbn⟩; have hbx := HBN.out.trans (hbn.mono HBN.out.size); clear HBN hbn k0 k1; have HBN := Lib.hid hbx; clear hbx; obtain ⟨k0, k1⟩ := HC.out _ HBN.out)
    | (go_at_call 14; refine (HFE.out _ (HRW.out.on HBN.out)).mono ?_; rintro e wb ⟨rfl, hbn⟩; have hbx := HBN.out.trans (hbn.mono HBN.out.size); clear HBN hbn k0 k1; have HBN := Lib.hid hbx; clear hbx; obtain ⟨k0, k1⟩ := HC.out _ HBN.out)
    | (go_at_call 23; refine (HSA.out _ (HRW.out.on HBN.out)).mono ?_; rintro e wc ⟨rfl, hbn⟩; have hbx := HBN.out.trans (hbn.mono HBN.out.size); clear HBN hbn k0 k1; have HBN := Lib.hid hbx; clear hbx; obtain ⟨k0, k1⟩ := HC.out _ HBN.out)
    | (go_at_call 39; refine (HCE.out _ (HRW.out.on HBN.out)).mono ?_; rintro e wd ⟨rfl, hbn⟩; have hbx := HBN.out.trans (hbn.mono HBN.out.size); clear HBN hbn k0 k1; have HBN := Lib.hid hbx; clear hbx; obtain ⟨k0, k1⟩ := HC.out _ HBN.out)
    | ((with_reducible apply wpList_load_w (ty := 55) (b := g + 1) (o := 0) (cs := [.int .i64 op, .int .i64 f, .int .i64 b, .int .i64 tob, .int .i64 other, .int .i64 pos, .int .i64 id, .int .i64 kind, .int .i64 dst, .int .i64 a, .int .i64 b2, .int .i64 c, .int .i64 f2, .int .i64 n, .int .i64 x0, .int .i64 x1, .int .i64 x2])); rotate_left; rfl; rfl; exact HRO.out _ HBN.out; exact Tryz.underlying55; rfl; kernel_rfl; rotate_left; rfl; simp only [Act.put, List.setIfInBounds_toArray, List.set_cons_zero, List.set_cons_succ])
    | (go_at_call 49; refine (HAP.out _ (HRW.out.on HBN.out)).mono ?_; rintro e we ⟨q, rfl, hqi, -, hqd, hbn⟩; have HQI := Lib.hid hqi; have HQD := Lib.hid hqd; clear hqi hqd; have hbx := HBN.out.trans (hbn.mono HBN.out.size); clear HBN hbn k0 k1; have HBN := Lib.hid hbx; clear hbx; obtain ⟨k0, k1⟩ := HC.out _ HBN.out))
  go_upto_region 5 with (first
    | ((with_reducible apply wpList_load_w (ty := 55) (b := g + 1) (o := 0) (cs := [.int .i64 op, .int .i64 f, .int .i64 b, .int .i64 tob, .int .i64 other, .int .i64 pos, .int .i64 id, .int .i64 kind, .int .i64 dst, .int .i64 a, .int .i64 b2, .int .i64 c, .int .i64 f2, .int .i64 n, .int .i64 x0, .int .i64 x1, .int .i64 x2])); rotate_left; rfl; rfl; exact HRO.out _ HBN.out; exact Tryz.underlying55; rfl; kernel_rfl; rotate_left; rfl; simp only [Act.put, List.setIfInBounds_toArray, List.set_cons_zero, List.set_cons_succ])
    | (go_at_call 49; refine (HAP.out _ (HRW.out.on HBN.out)).mono ?_; rintro e we ⟨q, rfl, hqi, -, hqd, hbn⟩; have HQI := Lib.hid hqi; have HQD := Lib.hid hqd; clear hqi hqd; have hbx := HBN.out.trans (hbn.mono HBN.out.size); clear HBN hbn k0 k1; have HBN := Lib.hid hbx; clear hbx; obtain ⟨k0, k1⟩ := HC.out _ HBN.out))
  have hqs := HQS.out q HQD.out
  have hqf := sane_few hqs
  obtain ⟨hop, hcnt⟩ := HCO.out q HQD.out
  have hql : q.funs.length ≤ 10 := hqf.1
  have HCQ := Lib.hid (fun wr (h : Rd wr q) => Count_any q wr h.1 h.2.1 h.2.2 hqf hqs)
  have HQF := Lib.hid hqf
  unfold Pg.val at HCQ
  have hlp : nLive p.blks ≤ 200 ∧ p.ins.length ≤ 96 := ⟨Nat.le_trans (nLive_le _) (blks_le HFW.out), ins_most HPS.out⟩
  have hlq : nLive q.blks ≤ 200 ∧ q.ins.length ≤ 96 := ⟨Nat.le_trans (nLive_le _) (blks_le HQF.out), ins_most hqs⟩
  obtain ⟨QL, hQL⟩ : ∃ QL, q.funs.length = QL := ⟨_, rfl⟩
  have HQL := Lib.hid hQL
  have HSP := Lib.hid (scF_all p)
  have HSQ := Lib.hid (scF_all q)
  rw [HPL.out] at HSP
  rw [hQL] at HSQ
  rw [← HSP.out, ← HSQ.out] at hcnt
  try dsimp only at hop hcnt
  simp only [hQL, HPL.out] at HCQ hcnt hql hop ⊢
  clear hQL hqs hqf
  have hx := BoxL.new we [.slice q.pa QL q.pc] 24
  have hb5 := below1 we (.cells #[.slice q.pa QL q.pc] 24)
  have HXQ : Hid (BoxL (we.alloc (.cells #[.slice q.pa QL q.pc] 24)) we.heap.size [.slice q.pa QL q.pc]) := Lib.hid hx
  have HRQ := Lib.hid (show Rd (we.alloc (.cells #[.slice q.pa QL q.pc] 24)) q from (show Rd we q from ⟨HQI.out, (HRW.out.on HBN.out).2.1, (HRW.out.on HBN.out).2.2⟩).on hb5)
  have HBM := Lib.hid (HBN.out.trans (hb5.mono HBN.out.size))
  have HGE := Lib.hid HBN.out.size
  clear hx hb5 HBN k0 k1
  generalize we.alloc (.cells #[.slice q.pa QL q.pc] 24) = W5 at *
  generalize we.heap.size = gq at *
  have HLQ := Lib.hid (HXQ.out.lt (Nat.zero_lt_succ _))
  have HRP := Lib.hid (HRW.out.on HBM.out)
  have HC5 : Hid (∀ wr, Below W5.heap.size W5 wr → wr.cell? ⟨g, 0, none⟩ = some (.slice p.pa PL p.pc) ∧ wr.cell? ⟨g + 1, 0, none⟩ = some (.int .i64 op) ∧ wr.cell? ⟨gq, 0, none⟩ = some (.slice q.pa QL q.pc)) := Lib.hid fun wr hb => ⟨(HC.out _ (HBM.out.trans (hb.mono HBM.out.size))).1, (HC.out _ (HBM.out.trans (hb.mono HBM.out.size))).2, ((HXQ.out.below hb HLQ.out) 0 _ rfl).1⟩
  have HBN : Hid (Below W5.heap.size W5 W5) := Lib.hid (Below.refl _ _)
  obtain ⟨k0, k1, k2⟩ := HC5.out _ HBN.out
  obtain ⟨np, hnp⟩ : ∃ x : Int, (((PL : Nat) : Int)) = x := ⟨_, rfl⟩
  obtain ⟨bp, hbp⟩ : ∃ x : Int, ((nLive p.blks : Nat) : Int) = x := ⟨_, rfl⟩
  obtain ⟨ip, hip⟩ : ∃ x : Int, ((p.ins.length : Nat) : Int) = x := ⟨_, rfl⟩
  have hrp : (0 ≤ np ∧ np ≤ 10) ∧ (0 ≤ bp ∧ bp ≤ 200) ∧ (0 ≤ ip ∧ ip ≤ 96) := by omega
  simp only [hnp, hbp, hip] at HCP hcnt
  clear hnp hbp hip
  obtain ⟨nq, hnq⟩ : ∃ x : Int, (((QL : Nat) : Int)) = x := ⟨_, rfl⟩
  obtain ⟨bq, hbq⟩ : ∃ x : Int, ((nLive q.blks : Nat) : Int) = x := ⟨_, rfl⟩
  obtain ⟨iq, hiq⟩ : ∃ x : Int, ((q.ins.length : Nat) : Int) = x := ⟨_, rfl⟩
  have hrq : (0 ≤ nq ∧ nq ≤ 10) ∧ (0 ≤ bq ∧ bq ≤ 200) ∧ (0 ≤ iq ∧ iq ≤ 96) := by omega
  simp only [hnq, hbq, hiq] at HCQ hcnt
  clear hnq hbq hiq
  clear hlp hlq
  have HRR := Lib.hid hrp
  have HRS := Lib.hid hrq
  have HCN := Lib.hid hcnt
  have HOP := Lib.hid hop
  clear hrp hrq hcnt hop
  go_upto_region 6 with (first
    | (go_at_call 21; refine (HCP.out _ (HRP.out.on HBN.out)).mono ?_; rintro e wf ⟨rfl, hbn⟩; have hbx := HBN.out.trans (hbn.mono HBN.out.size); clear HBN hbn k0 k1 k2; have HBN := Lib.hid hbx; clear hbx; obtain ⟨k0, k1, k2⟩ := HC5.out _ HBN.out))
  go_upto_region 7 with (first
    | (go_at_call 21; refine (HCQ.out _ (HRQ.out.on HBN.out)).mono ?_; rintro e wf ⟨rfl, hbn⟩; have hbx := HBN.out.trans (hbn.mono HBN.out.size); clear HBN hbn k0 k1 k2; have HBN := Lib.hid hbx; clear hbx; obtain ⟨k0, k1, k2⟩ := HC5.out _ HBN.out))
  have HPI := Lib.hid (HRP.out.on HBN.out).1
  have HQJ := Lib.hid (HRQ.out.on HBN.out).1
  have HBF := Lib.hid (HBb.out.trans ((HBM.out.trans (HBN.out.mono HBM.out.size)).mono HGL.out))
  clear HC HC5 HRO HX0 HX1 HL0 HL1 HRW HRD0 HAW HFE HSA HCE HAP HCP HCQ HCO HQS HXQ HRQ HRP HBN HBM HBb HLQ HQI

  go_wp2
  go_loop [14, 15] (fun n i => ∃ x : Nat, x ≤ PL ∧ i = .int .i64 x ∧ n = .int .i64 (-(scF p x))) (fun _ i => PL - (intOf i).toNat)
  case atStart => exact ⟨0, Nat.zero_le _, rfl, by rw [scF_zero]; simp⟩
  case round =>
    obtain ⟨x, hx, rfl, rfl⟩ := hrel
    by_cases hlt : x < PL
    rotate_left
    · have hxe : PL = x := by omega
      subst hxe
      have hxi : ¬ ((PL : Int) < (PL : Int)) := by omega
      go_wp2
      go_loop [14, 17] (fun n i => ∃ x : Nat, x ≤ QL ∧ i = .int .i64 x ∧ n = .int .i64 (-(scF p PL) + scF q x)) (fun _ i => QL - (intOf i).toNat)
      case atStart => exact ⟨0, Nat.zero_le _, rfl, by rw [scF_zero]; simp⟩
      case round =>
        obtain ⟨x, hx, rfl, rfl⟩ := hrel
        by_cases hlt : x < QL
        rotate_left
        · have hxe : QL = x := by omega
          subst hxe
          have hxi : ¬ ((QL : Int) < (QL : Int)) := by omega
          obtain ⟨n, hne⟩ : ∃ n, -scF p PL + scF q QL = n := ⟨_, rfl⟩
          have hcn := HCN.out
          have hop := HOP.out
          have hrp := HRR.out
          have hrq := HRS.out
          have hne2 : scF q QL - scF p PL = n := by omega
          rw [hne2] at hcn
          rw [hne]
          clear hne hne2
          unfold cntOk at hcn
          obtain ⟨z0, z1, z2, z3, z4, z5, z6, z7⟩ := hcn
          rcases (by omega : op = 0 ∨ op = 1 ∨ op = 2 ∨ op = 3 ∨ op = 4 ∨ op = 5 ∨ op = 6 ∨ op = 7) with rfl | rfl | rfl | rfl | rfl | rfl | rfl | rfl
          · obtain ⟨y1, y2, y3, y4⟩ := z0 rfl
            clear z0 z1 z2 z3 z4 z5 z6 z7
            subst y1 y2 y3 y4
            clear HOP HCN
            go_wp2
            go_ret
            exact ⟨rfl, HBF.out⟩
          · obtain ⟨y1, y2, y3, y4⟩ := z1 rfl
            clear z0 z1 z2 z3 z4 z5 z6 z7
            subst y1 y2 y3 y4
            clear HOP HCN
            go_wp2
            go_ret
            exact ⟨rfl, HBF.out⟩
          · obtain ⟨y1, y2, y3, y4⟩ := z2 rfl
            clear z0 z1 z2 z3 z4 z5 z6 z7
            subst y1 y2; have y5 : ¬ 0 < n := (by omega); have y6 : ¬ ip < iq := (by omega)
            clear HOP HCN
            go_wp2
            go_ret
            exact ⟨rfl, HBF.out⟩
          · obtain ⟨y1, y2, y3, y4⟩ := z3 rfl
            clear z0 z1 z2 z3 z4 z5 z6 z7
            subst y1 y2 y3 y4
            clear HOP HCN
            go_wp2
            go_ret
            exact ⟨rfl, HBF.out⟩
          · obtain ⟨y1, y2, y3, y4⟩ := z4 rfl
            clear z0 z1 z2 z3 z4 z5 z6 z7
            subst y1 y2 y3 y4
            clear HOP HCN
            go_wp2
            go_ret
            exact ⟨rfl, HBF.out⟩
          · obtain ⟨y1, y2, y3, y4⟩ := z5 rfl
            clear z0 z1 z2 z3 z4 z5 z6 z7
            subst y1 y2 y3 y4
            clear HOP HCN
            go_wp2
            go_ret
            exact ⟨rfl, HBF.out⟩
          · obtain ⟨y1, y2, y3, y4⟩ := z6 rfl
            clear z0 z1 z2 z3 z4 z5 z6 z7
            subst y1 y2 y3 y4
            clear HOP HCN
            go_wp2
            go_ret
            exact ⟨rfl, HBF.out⟩
          · obtain ⟨y1, y2, y3, y4⟩ := z7 rfl
            clear z0 z1 z2 z3 z4 z5 z6 z7
            subst y1 y2 y3 y4
            clear HOP HCN
            go_wp2
            go_ret
            exact ⟨rfl, HBF.out⟩
        have hxi : (x : Int) < (QL : Int) := by omega
        have hxf : x < q.funs.length := by rw [HQL.out]; exact hlt
        have hsr := scF_range HQF.out x (by omega)
        have hss := scF_succ hxf
        have hfb := HQF.out.f x
        obtain ⟨pb, po, hpa, -, -, -, c2, hfd⟩ := HQJ.out x hxf
        rw [hpa] at k2
        obtain ⟨fd, hfde⟩ : ∃ fd, fdAt q.funs x = fd := ⟨_, rfl⟩
        rw [hfde] at c2 hfd hss hfb
        clear hfde
        obtain ⟨ar, vr, ba, bc, bl⟩ := fd
        dsimp only at c2 hfd hss hfb
        obtain ⟨BL, hBL⟩ : ∃ BL, bl.length = BL := ⟨_, rfl⟩
        have hb20 := hfb.1
        dsimp only at hb20
        have hbr := scB_range (fun k hk => (hfb.2 k hk).2)
        dsimp only at hbr
        rw [hBL] at c2 hss hb20 hbr
        have HBL := Lib.hid hBL
        have HFD := Lib.hid hfd
        have HBR := Lib.hid hbr
        have HSS := Lib.hid hss
        clear hBL hfd hbr hss hfb hpa
        obtain ⟨SPL, hspl⟩ : ∃ s, scF p PL = s := ⟨_, rfl⟩
        have hspr := scF_range HFW.out PL (by rw [HPL.out]; exact Nat.le_refl _)
        rw [hspl] at hspr ⊢
        have hs11 : 0 ≤ SPL ∧ SPL ≤ 6000 := by omega
        clear hspl hspr
        obtain ⟨s, hse⟩ : ∃ s, scF q x = s := ⟨_, rfl⟩
        rw [hse] at hsr HSS ⊢
        clear hse
        have hs10 : 0 ≤ s ∧ s ≤ 6000 := by omega
        clear hsr
        go_wp2
        go_loop [14, 18] (fun n i => ∃ y : Nat, y ≤ BL ∧ i = .int .i64 y ∧ n = .int .i64 (-SPL + s + scB bl y)) (fun _ i => BL - (intOf i).toNat)
        case atStart => exact ⟨0, Nat.zero_le _, rfl, by rw [scB_zero]; simp⟩
        case round =>
          obtain ⟨y, hy, rfl, rfl⟩ := hrel
          by_cases hyt : y < BL
          rotate_left
          · obtain rfl : y = BL := by omega
            have hyi : ¬ ((y : Int) < (y : Int)) := by omega
            go_wp2
            refine ⟨⟨x + 1, by omega, by go_num, ?_⟩, by simp [intOf]; omega⟩
            rw [HSS.out]
            first | omega | exact congrArg (Value.int .i64) (by omega)
          have hyi : (y : Int) < (BL : Int) := by omega
          have hyl : y < bl.length := by rw [HBL.out]; exact hyt
          have hbr := HBR.out y (by omega)
          have hb1 := HBR.out (y + 1) (by omega)
          have hbs := scB_succ hyl
          obtain ⟨bb, bo, hba, -, -, -, e2, -⟩ := HFD.out y hyl
          dsimp only at hba e2
          subst hba
          obtain ⟨bk, hbk⟩ : ∃ bk, blkAt bl y = bk := ⟨_, rfl⟩
          rw [hbk] at e2 hbs
          clear hbk
          obtain ⟨lv, ca, cc, code, sa, sc, succ⟩ := bk
          dsimp only at e2 hbs
          obtain ⟨SL, hSL⟩ : ∃ SL, succ.length = SL := ⟨_, rfl⟩
          rw [hSL] at e2 hbs
          clear hSL
          obtain ⟨t, hte⟩ : ∃ t, scB bl y = t := ⟨_, rfl⟩
          have HTE := Lib.hid hte
          rw [hte] at hbr hbs ⊢
          have HBS := Lib.hid hbs
          have hsl : SL ≤ 600 := by omega
          clear hb1 hbs hte
          go_wp2
          refine ⟨⟨y + 1, by omega, by go_num, ?_⟩, by simp [intOf]; omega⟩
          rw [HBS.out]
          go_num
    have hxi : (x : Int) < (PL : Int) := by omega
    have hxf : x < p.funs.length := by rw [HPL.out]; exact hlt
    have hsr := scF_range HFW.out x (by omega)
    have hss := scF_succ hxf
    have hfb := HFW.out.f x
    obtain ⟨pb, po, hpa, -, -, -, c2, hfd⟩ := HPI.out x hxf
    rw [hpa] at k0
    obtain ⟨fd, hfde⟩ : ∃ fd, fdAt p.funs x = fd := ⟨_, rfl⟩
    rw [hfde] at c2 hfd hss hfb
    clear hfde
    obtain ⟨ar, vr, ba, bc, bl⟩ := fd
    dsimp only at c2 hfd hss hfb
    obtain ⟨BL, hBL⟩ : ∃ BL, bl.length = BL := ⟨_, rfl⟩
    have hb20 := hfb.1
    dsimp only at hb20
    have hbr := scB_range (fun k hk => (hfb.2 k hk).2)
    dsimp only at hbr
    rw [hBL] at c2 hss hb20 hbr
    have HBL := Lib.hid hBL
    have HFD := Lib.hid hfd
    have HBR := Lib.hid hbr
    have HSS := Lib.hid hss
    clear hBL hfd hbr hss hfb hpa
    obtain ⟨s, hse⟩ : ∃ s, scF p x = s := ⟨_, rfl⟩
    rw [hse] at hsr HSS ⊢
    clear hse
    have hs10 : 0 ≤ s ∧ s ≤ 6000 := by omega
    clear hsr
    go_wp2
    go_loop [14, 16] (fun n i => ∃ y : Nat, y ≤ BL ∧ i = .int .i64 y ∧ n = .int .i64 (-s - scB bl y)) (fun _ i => BL - (intOf i).toNat)
    case atStart => exact ⟨0, Nat.zero_le _, rfl, by rw [scB_zero]; simp⟩
    case round =>
      obtain ⟨y, hy, rfl, rfl⟩ := hrel
      by_cases hyt : y < BL
      rotate_left
      · obtain rfl : y = BL := by omega
        have hyi : ¬ ((y : Int) < (y : Int)) := by omega
        go_wp2
        refine ⟨⟨x + 1, by omega, by go_num, ?_⟩, by simp [intOf]; omega⟩
        rw [HSS.out]
        first | omega | exact congrArg (Value.int .i64) (by omega)
      have hyi : (y : Int) < (BL : Int) := by omega
      have hyl : y < bl.length := by rw [HBL.out]; exact hyt
      have hbr := HBR.out y (by omega)
      have hb1 := HBR.out (y + 1) (by omega)
      have hbs := scB_succ hyl
      obtain ⟨bb, bo, hba, -, -, -, e2, -⟩ := HFD.out y hyl
      dsimp only at hba e2
      subst hba
      obtain ⟨bk, hbk⟩ : ∃ bk, blkAt bl y = bk := ⟨_, rfl⟩
      rw [hbk] at e2 hbs
      clear hbk
      obtain ⟨lv, ca, cc, code, sa, sc, succ⟩ := bk
      dsimp only at e2 hbs
      obtain ⟨SL, hSL⟩ : ∃ SL, succ.length = SL := ⟨_, rfl⟩
      rw [hSL] at e2 hbs
      clear hSL
      obtain ⟨t, hte⟩ : ∃ t, scB bl y = t := ⟨_, rfl⟩
      have HTE := Lib.hid hte
      rw [hte] at hbr hbs ⊢
      have HBS := Lib.hid hbs
      have hsl : SL ≤ 600 := by omega
      clear hb1 hbs hte
      go_wp2
      refine ⟨⟨y + 1, by omega, by go_num, ?_⟩, by simp [intOf]; omega⟩
      rw [HBS.out]
      go_num
end Go.Proofs.YtbddjneinfkmpaaGreatDoor

namespace Go.Proofs.YtbddjneinfkmpaaGreatDoor
open Go Go.RowKit Go.Sort

theorem applyCounts_any (p : Pg) (e : Ed) (w : World) (h : Rd w p) (hwf : p.wf) :
    Calls Tryz.prog 10 #[p.val, e.val] w fun x w' => x = .returned (.bool true) ∧ Below w.heap.size w w' := by
  by_cases hfew : p.few
  rotate_left
  · exact cntN p e w h hfew
  by_cases hs : p.sane
  rotate_left
  · exact cntS p e w h hfew hs
  by_cases h0 : chk p e = 0
  · exact cntY p e w h hwf hfew hs h0
  · exact cntC p e w h hfew hs _ rfl h0
end Go.Proofs.YtbddjneinfkmpaaGreatDoor
