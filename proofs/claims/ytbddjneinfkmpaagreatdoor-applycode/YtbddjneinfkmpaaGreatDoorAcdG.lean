/- AcdG: several texts in one: Acd1 Acd2 Acd3 Acd. -/
import Derived.Test.YtbddjneinfkmpaaGreatDoorApQ
import Derived.Test.YtbddjneinfkmpaaGreatDoorAppH
import Derived.Test.YtbddjneinfkmpaaGreatDoorSmG
import Derived.Test.YtbddjneinfkmpaaGreatDoorPgZ
import Derived.Test.YtbddjneinfkmpaaGreatDoorAwA

namespace Go.Proofs.YtbddjneinfkmpaaGreatDoor
open Go Go.RowKit Go.Sort

theorem range_sub {W : World} {b : Nat} {v0 v1 v2 v3 v4 v5 : Value} {cs : List Value} (h : W.rangeAt b 0 (v0 :: v1 :: v2 :: v3 :: v4 :: v5 :: cs)) : W.rangeAt b 6 cs := fun j v hj => by
  have := h (j + 6) v (by simpa using hj)
  rwa [show 0 + (j + 6) = 6 + j by omega] at this
theorem at_few {p : Pg} (h : p.few) {f b k : Int} (ha : atB p f b k = true) : 0 ≤ k ∧ k < 30 := by
  have h1 := (blkR_few h f b).1
  unfold atB at ha
  simp only [Bool.and_eq_true, decide_eq_true_eq] at ha
  omega
/-- What At tells, whatever it is asked. -/
theorem At_some (p : Pg) (f b z : Int) (w : World) (h : Rd w p) (hfew : p.few) :
    Calls Tryz.prog 19 #[p.val, .int .i64 f, .int .i64 b, .int .i64 z] w fun x w' => (∃ (a0 a1 a2 a3 a4 a5 a6 a7 a8 a9 a10 : Int) (r : Bool), x = .returned (.tuple #[.agg #[.int .i64 a0, .int .i64 a1, .int .i64 a2, .int .i64 a3, .int .i64 a4, .int .i64 a5, .int .i64 a6, .int .i64 a7, .int .i64 a8, .int .i64 a9, .int .i64 a10], .bool r])) ∧ Below w.heap.size w w' :=
  (At_any p f b z w h.1 h.2.1 h.2.2 hfew _ rfl _ rfl).mono fun _ _ ⟨hx, hb⟩ => ⟨⟨_, _, _, _, _, _, _, _, _, _, _, _, hx⟩, hb⟩

set_option maxRecDepth 100000 in
set_option maxHeartbeats 16000000 in
theorem codeN (p : Pg) (e : Ed) (k : Int) (w : World) (h : Rd w p) (hfew : ¬ p.few) :
    Calls Tryz.prog 12 #[p.val, e.val, .int .i64 k] w fun x w' => x = .returned (.bool true) ∧ Below w.heap.size w w' := by
  have HAW := Lib.hid (fun wr (h : Rd wr p) => awake8_any wr h.2.1 h.2.2)
  have HFE := Lib.hid (fun wr (h : Rd wr p) => Few_any p wr h.1 false (by simp [hfew]))
  have HRD0 := Lib.hid h
  clear h hfew
  obtain ⟨op, f, b, tob, other, pos, ⟨id, kind, dst, a, b2, c, f2, n, x0, x1, x2⟩⟩ := e
  try dsimp only at *
  unfold Pg.val at HFE
  unfold Pg.val Ed.val
  try dsimp only at *
  obtain ⟨PL, hPL⟩ : ∃ PL, p.funs.length = PL := ⟨_, rfl⟩
  simp only [hPL] at HFE ⊢
  clear hPL
  have HBb := Lib.hid (below2 w (.cells #[.slice p.pa PL p.pc] 24) (.cells #[.int .i64 op, .int .i64 f, .int .i64 b, .int .i64 tob, .int .i64 other, .int .i64 pos, .int .i64 id, .int .i64 kind, .int .i64 dst, .int .i64 a, .int .i64 b2, .int .i64 c, .int .i64 f2, .int .i64 n, .int .i64 x0, .int .i64 x1, .int .i64 x2] 55))
  have hx0 := BoxL.new w [.slice p.pa PL p.pc] 24
  have HX0 := Lib.hid (show BoxL ((w.alloc (.cells #[.slice p.pa PL p.pc] 24)).alloc (.cells #[.int .i64 op, .int .i64 f, .int .i64 b, .int .i64 tob, .int .i64 other, .int .i64 pos, .int .i64 id, .int .i64 kind, .int .i64 dst, .int .i64 a, .int .i64 b2, .int .i64 c, .int .i64 f2, .int .i64 n, .int .i64 x0, .int .i64 x1, .int .i64 x2] 55)) (w.heap.size) [.slice p.pa PL p.pc] from (hx0).alloc (Nat.zero_lt_succ _) (.cells #[.int .i64 op, .int .i64 f, .int .i64 b, .int .i64 tob, .int .i64 other, .int .i64 pos, .int .i64 id, .int .i64 kind, .int .i64 dst, .int .i64 a, .int .i64 b2, .int .i64 c, .int .i64 f2, .int .i64 n, .int .i64 x0, .int .i64 x1, .int .i64 x2] 55))
  have hx1 := BoxL.new (w.alloc (.cells #[.slice p.pa PL p.pc] 24)) [.int .i64 op, .int .i64 f, .int .i64 b, .int .i64 tob, .int .i64 other, .int .i64 pos, .int .i64 id, .int .i64 kind, .int .i64 dst, .int .i64 a, .int .i64 b2, .int .i64 c, .int .i64 f2, .int .i64 n, .int .i64 x0, .int .i64 x1, .int .i64 x2] 55
  rw [World.size_alloc] at hx1
  have HX1 := Lib.hid (show BoxL ((w.alloc (.cells #[.slice p.pa PL p.pc] 24)).alloc (.cells #[.int .i64 op, .int .i64 f, .int .i64 b, .int .i64 tob, .int .i64 other, .int .i64 pos, .int .i64 id, .int .i64 kind, .int .i64 dst, .int .i64 a, .int .i64 b2, .int .i64 c, .int .i64 f2, .int .i64 n, .int .i64 x0, .int .i64 x1, .int .i64 x2] 55)) (w.heap.size + 1) [.int .i64 op, .int .i64 f, .int .i64 b, .int .i64 tob, .int .i64 other, .int .i64 pos, .int .i64 id, .int .i64 kind, .int .i64 dst, .int .i64 a, .int .i64 b2, .int .i64 c, .int .i64 f2, .int .i64 n, .int .i64 x0, .int .i64 x1, .int .i64 x2] from hx1)
  clear hx0 hx1
  have HRP := Lib.hid (HRD0.out.on HBb.out)
  generalize hW : ((w.alloc (.cells #[.slice p.pa PL p.pc] 24)).alloc (.cells #[.int .i64 op, .int .i64 f, .int .i64 b, .int .i64 tob, .int .i64 other, .int .i64 pos, .int .i64 id, .int .i64 kind, .int .i64 dst, .int .i64 a, .int .i64 b2, .int .i64 c, .int .i64 f2, .int .i64 n, .int .i64 x0, .int .i64 x1, .int .i64 x2] 55)) = W at HBb HX0 HX1 HRP
  obtain ⟨g, hg⟩ : ∃ g, w.heap.size = g := ⟨_, rfl⟩
  have HGL := Lib.hid HBb.out.size
  rw [hg] at HBb HGL HX0 HX1 ⊢
  have HL0 := Lib.hid (HX0.out.lt (Nat.zero_lt_succ _))
  have HL1 := Lib.hid (HX1.out.lt (Nat.zero_lt_succ _))
  have HC : Hid (∀ wr, Below W.heap.size W wr → wr.cell? ⟨g, 0, none⟩ = some (.slice p.pa PL p.pc) ∧ wr.cell? ⟨g + 1, 0, none⟩ = some (.int .i64 op) ∧ wr.cell? ⟨g + 1, 1, none⟩ = some (.int .i64 f) ∧ wr.cell? ⟨g + 1, 2, none⟩ = some (.int .i64 b) ∧ wr.cell? ⟨g + 1, 5, none⟩ = some (.int .i64 pos) ∧ wr.rangeAt (g + 1) 0 [.int .i64 op, .int .i64 f, .int .i64 b, .int .i64 tob, .int .i64 other, .int .i64 pos, .int .i64 id, .int .i64 kind, .int .i64 dst, .int .i64 a, .int .i64 b2, .int .i64 c, .int .i64 f2, .int .i64 n, .int .i64 x0, .int .i64 x1, .int .i64 x2] ∧ True) := Lib.hid fun wr hb => ⟨((HX0.out.below hb HL0.out) 0 _ rfl).1, ((HX1.out.below hb HL1.out) 0 _ rfl).1, ((HX1.out.below hb HL1.out) 1 _ rfl).1, ((HX1.out.below hb HL1.out) 2 _ rfl).1, ((HX1.out.below hb HL1.out) 5 _ rfl).1, (HX1.out.below hb HL1.out).range, trivial⟩
  have HBN : Hid (Below W.heap.size W W) := Lib.hid (Below.refl _ _)
  obtain ⟨k0, k1, k2, k3, k4, -, -⟩ := HC.out _ HBN.out
  go_enter Tryz.func12, Tryz.ntmps12
  go_wp2_with (first
    | (go_at_call 47; refine (HAW.out _ (HRP.out.on HBN.out)).mono ?_; rintro x wa ⟨rfl, hbn⟩; have hbx := HBN.out.trans (hbn.mono HBN.out.size); clear HBN hbn k0 k1 k2 k3 k4; have HBN := Lib.hid hbx; clear hbx; obtain ⟨k0, k1, k2, k3, k4, -, -⟩ := HC.out _ HBN.out)
    | (go_at_call 14; refine (HFE.out _ (HRP.out.on HBN.out)).mono ?_; rintro x wb ⟨rfl, hbn⟩; have hbx := HBN.out.trans (hbn.mono HBN.out.size); clear HBN hbn k0 k1 k2 k3 k4; have HBN := Lib.hid hbx; clear hbx; obtain ⟨k0, k1, k2, k3, k4, -, -⟩ := HC.out _ HBN.out))
  go_ret
  exact ⟨rfl, HBb.out.trans (HBN.out.mono (by rw [← hg]; exact HBb.out.size))⟩

set_option maxRecDepth 100000 in
set_option maxHeartbeats 16000000 in
theorem codeO (p : Pg) (e : Ed) (k : Int) (w : World) (h : Rd w p) (hfew : p.few) (hop : e.op ≠ 6 ∧ e.op ≠ 7) :
    Calls Tryz.prog 12 #[p.val, e.val, .int .i64 k] w fun x w' => x = .returned (.bool true) ∧ Below w.heap.size w w' := by
  have HAW := Lib.hid (fun wr (h : Rd wr p) => awake8_any wr h.2.1 h.2.2)
  have HFE := Lib.hid (fun wr (h : Rd wr p) => Few_any p wr h.1 true (by simp [hfew]))
  have HRD0 := Lib.hid h
  clear h hfew
  obtain ⟨op, f, b, tob, other, pos, ⟨id, kind, dst, a, b2, c, f2, n, x0, x1, x2⟩⟩ := e
  try dsimp only at *
  have n3 : (op != 6) = true := by simp only [bne, beq_false_of_ne hop.1, Bool.not_false]
  have n4 : (op != 7) = true := by simp only [bne, beq_false_of_ne hop.2, Bool.not_false]
  clear hop
  unfold Pg.val at HFE
  unfold Pg.val Ed.val
  try dsimp only at *
  obtain ⟨PL, hPL⟩ : ∃ PL, p.funs.length = PL := ⟨_, rfl⟩
  simp only [hPL] at HFE ⊢
  clear hPL
  have HBb := Lib.hid (below2 w (.cells #[.slice p.pa PL p.pc] 24) (.cells #[.int .i64 op, .int .i64 f, .int .i64 b, .int .i64 tob, .int .i64 other, .int .i64 pos, .int .i64 id, .int .i64 kind, .int .i64 dst, .int .i64 a, .int .i64 b2, .int .i64 c, .int .i64 f2, .int .i64 n, .int .i64 x0, .int .i64 x1, .int .i64 x2] 55))
  have hx0 := BoxL.new w [.slice p.pa PL p.pc] 24
  have HX0 := Lib.hid (show BoxL ((w.alloc (.cells #[.slice p.pa PL p.pc] 24)).alloc (.cells #[.int .i64 op, .int .i64 f, .int .i64 b, .int .i64 tob, .int .i64 other, .int .i64 pos, .int .i64 id, .int .i64 kind, .int .i64 dst, .int .i64 a, .int .i64 b2, .int .i64 c, .int .i64 f2, .int .i64 n, .int .i64 x0, .int .i64 x1, .int .i64 x2] 55)) (w.heap.size) [.slice p.pa PL p.pc] from (hx0).alloc (Nat.zero_lt_succ _) (.cells #[.int .i64 op, .int .i64 f, .int .i64 b, .int .i64 tob, .int .i64 other, .int .i64 pos, .int .i64 id, .int .i64 kind, .int .i64 dst, .int .i64 a, .int .i64 b2, .int .i64 c, .int .i64 f2, .int .i64 n, .int .i64 x0, .int .i64 x1, .int .i64 x2] 55))
  have hx1 := BoxL.new (w.alloc (.cells #[.slice p.pa PL p.pc] 24)) [.int .i64 op, .int .i64 f, .int .i64 b, .int .i64 tob, .int .i64 other, .int .i64 pos, .int .i64 id, .int .i64 kind, .int .i64 dst, .int .i64 a, .int .i64 b2, .int .i64 c, .int .i64 f2, .int .i64 n, .int .i64 x0, .int .i64 x1, .int .i64 x2] 55
  rw [World.size_alloc] at hx1
  have HX1 := Lib.hid (show BoxL ((w.alloc (.cells #[.slice p.pa PL p.pc] 24)).alloc (.cells #[.int .i64 op, .int .i64 f, .int .i64 b, .int .i64 tob, .int .i64 other, .int .i64 pos, .int .i64 id, .int .i64 kind, .int .i64 dst, .int .i64 a, .int .i64 b2, .int .i64 c, .int .i64 f2, .int .i64 n, .int .i64 x0, .int .i64 x1, .int .i64 x2] 55)) (w.heap.size + 1) [.int .i64 op, .int .i64 f, .int .i64 b, .int .i64 tob, .int .i64 other, .int .i64 pos, .int .i64 id, .int .i64 kind, .int .i64 dst, .int .i64 a, .int .i64 b2, .int .i64 c, .int .i64 f2, .int .i64 n, .int .i64 x0, .int .i64 x1, .int .i64 x2] from hx1)
  clear hx0 hx1
  have HRP := Lib.hid (HRD0.out.on HBb.out)
  generalize hW : ((w.alloc (.cells #[.slice p.pa PL p.pc] 24)).alloc (.cells #[.int .i64 op, .int .i64 f, .int .i64 b, .int .i64 tob, .int .i64 other, .int .i64 pos, .int .i64 id, .int .i64 kind, .int .i64 dst, .int .i64 a, .int .i64 b2, .int .i64 c, .int .i64 f2, .int .i64 n, .int .i64 x0, .int .i64 x1, .int .i64 x2] 55)) = W at HBb HX0 HX1 HRP
  obtain ⟨g, hg⟩ : ∃ g, w.heap.size = g := ⟨_, rfl⟩
  have HGL := Lib.hid HBb.out.size
  rw [hg] at HBb HGL HX0 HX1 ⊢
  have HL0 := Lib.hid (HX0.out.lt (Nat.zero_lt_succ _))
  have HL1 := Lib.hid (HX1.out.lt (Nat.zero_lt_succ _))
  have HC : Hid (∀ wr, Below W.heap.size W wr → wr.cell? ⟨g, 0, none⟩ = some (.slice p.pa PL p.pc) ∧ wr.cell? ⟨g + 1, 0, none⟩ = some (.int .i64 op) ∧ wr.cell? ⟨g + 1, 1, none⟩ = some (.int .i64 f) ∧ wr.cell? ⟨g + 1, 2, none⟩ = some (.int .i64 b) ∧ wr.cell? ⟨g + 1, 5, none⟩ = some (.int .i64 pos) ∧ wr.rangeAt (g + 1) 0 [.int .i64 op, .int .i64 f, .int .i64 b, .int .i64 tob, .int .i64 other, .int .i64 pos, .int .i64 id, .int .i64 kind, .int .i64 dst, .int .i64 a, .int .i64 b2, .int .i64 c, .int .i64 f2, .int .i64 n, .int .i64 x0, .int .i64 x1, .int .i64 x2] ∧ True) := Lib.hid fun wr hb => ⟨((HX0.out.below hb HL0.out) 0 _ rfl).1, ((HX1.out.below hb HL1.out) 0 _ rfl).1, ((HX1.out.below hb HL1.out) 1 _ rfl).1, ((HX1.out.below hb HL1.out) 2 _ rfl).1, ((HX1.out.below hb HL1.out) 5 _ rfl).1, (HX1.out.below hb HL1.out).range, trivial⟩
  have HBN : Hid (Below W.heap.size W W) := Lib.hid (Below.refl _ _)
  obtain ⟨k0, k1, k2, k3, k4, -, -⟩ := HC.out _ HBN.out
  go_enter Tryz.func12, Tryz.ntmps12
  go_wp2_with (first
    | (go_at_call 47; refine (HAW.out _ (HRP.out.on HBN.out)).mono ?_; rintro x wa ⟨rfl, hbn⟩; have hbx := HBN.out.trans (hbn.mono HBN.out.size); clear HBN hbn k0 k1 k2 k3 k4; have HBN := Lib.hid hbx; clear hbx; obtain ⟨k0, k1, k2, k3, k4, -, -⟩ := HC.out _ HBN.out)
    | (go_at_call 14; refine (HFE.out _ (HRP.out.on HBN.out)).mono ?_; rintro x wb ⟨rfl, hbn⟩; have hbx := HBN.out.trans (hbn.mono HBN.out.size); clear HBN hbn k0 k1 k2 k3 k4; have HBN := Lib.hid hbx; clear hbx; obtain ⟨k0, k1, k2, k3, k4, -, -⟩ := HC.out _ HBN.out))
  go_ret
  exact ⟨rfl, HBb.out.trans (HBN.out.mono (by rw [← hg]; exact HBb.out.size))⟩

set_option maxRecDepth 100000 in
set_option maxHeartbeats 16000000 in
theorem codeE6 (p : Pg) (e : Ed) (k : Int) (w : World) (h : Rd w p) (hwf : p.wf) (hfew : p.few) (hop : e.op = 6) (hc : ¬ chk p e = 0) :
    Calls Tryz.prog 12 #[p.val, e.val, .int .i64 k] w fun x w' => x = .returned (.bool true) ∧ Below w.heap.size w w' := by
  have HAW := Lib.hid (fun wr (h : Rd wr p) => awake8_any wr h.2.1 h.2.2)
  have HFE := Lib.hid (fun wr (h : Rd wr p) => Few_any p wr h.1 true (by simp [hfew]))
  obtain ⟨er, her⟩ : ∃ er, chk p e = er := ⟨_, rfl⟩
  have hrb : (er != 0) = true := by simp only [bne, beq_false_of_ne (show er ≠ 0 from fun h => hc (her.trans h)), Bool.not_false]
  have HAP := Lib.hid (fun wr (h : Rd wr p) => Apply_any p e wr h hfew hwf)
  simp only [AppRes, her] at HAP
  have HSM := Lib.hid (fun wr (h : Rd wr p) (q : Pg) (hr : PgIs wr.heap.size wr q) (hd : q.d = (appP p e).d) => Same_any p q wr h.1 hr hfew true (iff_of_true rfl (by rw [hd, app_same hc])))
  have HRD0 := Lib.hid h
  clear h hfew hwf hc her
  obtain ⟨op, f, b, tob, other, pos, ⟨id, kind, dst, a, b2, c, f2, n, x0, x1, x2⟩⟩ := e
  try dsimp only at *
  subst hop
  unfold Pg.val at HFE HAP HSM
  unfold Ed.val at HAP
  unfold Pg.val Ed.val
  try dsimp only at *
  obtain ⟨PL, hPL⟩ : ∃ PL, p.funs.length = PL := ⟨_, rfl⟩
  simp only [hPL] at HFE HAP HSM ⊢
  clear hPL
  have HBb := Lib.hid (below2 w (.cells #[.slice p.pa PL p.pc] 24) (.cells #[.int .i64 6, .int .i64 f, .int .i64 b, .int .i64 tob, .int .i64 other, .int .i64 pos, .int .i64 id, .int .i64 kind, .int .i64 dst, .int .i64 a, .int .i64 b2, .int .i64 c, .int .i64 f2, .int .i64 n, .int .i64 x0, .int .i64 x1, .int .i64 x2] 55))
  have hx0 := BoxL.new w [.slice p.pa PL p.pc] 24
  have HX0 := Lib.hid (show BoxL ((w.alloc (.cells #[.slice p.pa PL p.pc] 24)).alloc (.cells #[.int .i64 6, .int .i64 f, .int .i64 b, .int .i64 tob, .int .i64 other, .int .i64 pos, .int .i64 id, .int .i64 kind, .int .i64 dst, .int .i64 a, .int .i64 b2, .int .i64 c, .int .i64 f2, .int .i64 n, .int .i64 x0, .int .i64 x1, .int .i64 x2] 55)) (w.heap.size) [.slice p.pa PL p.pc] from (hx0).alloc (Nat.zero_lt_succ _) (.cells #[.int .i64 6, .int .i64 f, .int .i64 b, .int .i64 tob, .int .i64 other, .int .i64 pos, .int .i64 id, .int .i64 kind, .int .i64 dst, .int .i64 a, .int .i64 b2, .int .i64 c, .int .i64 f2, .int .i64 n, .int .i64 x0, .int .i64 x1, .int .i64 x2] 55))
  have hx1 := BoxL.new (w.alloc (.cells #[.slice p.pa PL p.pc] 24)) [.int .i64 6, .int .i64 f, .int .i64 b, .int .i64 tob, .int .i64 other, .int .i64 pos, .int .i64 id, .int .i64 kind, .int .i64 dst, .int .i64 a, .int .i64 b2, .int .i64 c, .int .i64 f2, .int .i64 n, .int .i64 x0, .int .i64 x1, .int .i64 x2] 55
  rw [World.size_alloc] at hx1
  have HX1 := Lib.hid (show BoxL ((w.alloc (.cells #[.slice p.pa PL p.pc] 24)).alloc (.cells #[.int .i64 6, .int .i64 f, .int .i64 b, .int .i64 tob, .int .i64 other, .int .i64 pos, .int .i64 id, .int .i64 kind, .int .i64 dst, .int .i64 a, .int .i64 b2, .int .i64 c, .int .i64 f2, .int .i64 n, .int .i64 x0, .int .i64 x1, .int .i64 x2] 55)) (w.heap.size + 1) [.int .i64 6, .int .i64 f, .int .i64 b, .int .i64 tob, .int .i64 other, .int .i64 pos, .int .i64 id, .int .i64 kind, .int .i64 dst, .int .i64 a, .int .i64 b2, .int .i64 c, .int .i64 f2, .int .i64 n, .int .i64 x0, .int .i64 x1, .int .i64 x2] from hx1)
  clear hx0 hx1
  have HRP := Lib.hid (HRD0.out.on HBb.out)
  generalize hW : ((w.alloc (.cells #[.slice p.pa PL p.pc] 24)).alloc (.cells #[.int .i64 6, .int .i64 f, .int .i64 b, .int .i64 tob, .int .i64 other, .int .i64 pos, .int .i64 id, .int .i64 kind, .int .i64 dst, .int .i64 a, .int .i64 b2, .int .i64 c, .int .i64 f2, .int .i64 n, .int .i64 x0, .int .i64 x1, .int .i64 x2] 55)) = W at HBb HX0 HX1 HRP
  obtain ⟨g, hg⟩ : ∃ g, w.heap.size = g := ⟨_, rfl⟩
  have HGL := Lib.hid HBb.out.size
  rw [hg] at HBb HGL HX0 HX1 ⊢
  have HL0 := Lib.hid (HX0.out.lt (Nat.zero_lt_succ _))
  have HL1 := Lib.hid (HX1.out.lt (Nat.zero_lt_succ _))
  have HC : Hid (∀ wr, Below W.heap.size W wr → wr.cell? ⟨g, 0, none⟩ = some (.slice p.pa PL p.pc) ∧ wr.cell? ⟨g + 1, 0, none⟩ = some (.int .i64 6) ∧ wr.cell? ⟨g + 1, 1, none⟩ = some (.int .i64 f) ∧ wr.cell? ⟨g + 1, 2, none⟩ = some (.int .i64 b) ∧ wr.cell? ⟨g + 1, 5, none⟩ = some (.int .i64 pos) ∧ wr.rangeAt (g + 1) 0 [.int .i64 6, .int .i64 f, .int .i64 b, .int .i64 tob, .int .i64 other, .int .i64 pos, .int .i64 id, .int .i64 kind, .int .i64 dst, .int .i64 a, .int .i64 b2, .int .i64 c, .int .i64 f2, .int .i64 n, .int .i64 x0, .int .i64 x1, .int .i64 x2] ∧ True) := Lib.hid fun wr hb => ⟨((HX0.out.below hb HL0.out) 0 _ rfl).1, ((HX1.out.below hb HL1.out) 0 _ rfl).1, ((HX1.out.below hb HL1.out) 1 _ rfl).1, ((HX1.out.below hb HL1.out) 2 _ rfl).1, ((HX1.out.below hb HL1.out) 5 _ rfl).1, (HX1.out.below hb HL1.out).range, trivial⟩
  have HBN : Hid (Below W.heap.size W W) := Lib.hid (Below.refl _ _)
  obtain ⟨k0, k1, k2, k3, k4, -, -⟩ := HC.out _ HBN.out
  go_enter Tryz.func12, Tryz.ntmps12
  go_upto_region 4 with (first
    | (go_at_call 47; refine (HAW.out _ (HRP.out.on HBN.out)).mono ?_; rintro x wa ⟨rfl, hbn⟩; have hbx := HBN.out.trans (hbn.mono HBN.out.size); clear HBN hbn k0 k1 k2 k3 k4; have HBN := Lib.hid hbx; clear hbx; obtain ⟨k0, k1, k2, k3, k4, -, -⟩ := HC.out _ HBN.out)
    | (go_at_call 14; refine (HFE.out _ (HRP.out.on HBN.out)).mono ?_; rintro x wb ⟨rfl, hbn⟩; have hbx := HBN.out.trans (hbn.mono HBN.out.size); clear HBN hbn k0 k1 k2 k3 k4; have HBN := Lib.hid hbx; clear hbx; obtain ⟨k0, k1, k2, k3, k4, -, -⟩ := HC.out _ HBN.out))
  go_upto_region 5 with (first
    | (go_at_call 49; refine (HAP.out _ (HRP.out.on HBN.out)).mono ?_; rintro x we ⟨q, rfl, hqi, -, hqd, hbn⟩; have HQI := Lib.hid hqi; have HQD := Lib.hid hqd; clear hqi hqd; have hbx := HBN.out.trans (hbn.mono HBN.out.size); clear HBN hbn k0 k1 k2 k3 k4; have HBN := Lib.hid hbx; clear hbx; obtain ⟨k0, k1, k2, k3, k4, -, -⟩ := HC.out _ HBN.out)
    | ((with_reducible apply wpList_load_w (ty := 55) (b := g + 1) (o := 0) (cs := [.int .i64 6, .int .i64 f, .int .i64 b, .int .i64 tob, .int .i64 other, .int .i64 pos, .int .i64 id, .int .i64 kind, .int .i64 dst, .int .i64 a, .int .i64 b2, .int .i64 c, .int .i64 f2, .int .i64 n, .int .i64 x0, .int .i64 x1, .int .i64 x2])); rotate_left; rfl; rfl; exact (HC.out _ HBN.out).2.2.2.2.2.1; exact Tryz.underlying55; rfl; kernel_rfl; rotate_left; rfl; simp only [Act.put, List.setIfInBounds_toArray, List.set_cons_zero, List.set_cons_succ]))
  obtain ⟨QL, hQL⟩ : ∃ QL, q.funs.length = QL := ⟨_, rfl⟩
  have HQL := Lib.hid hQL
  simp only [hQL]
  clear hQL
  have hb_ := below1 we (.cells #[.slice q.pa QL q.pc] 24)
  have HXgq : Hid (BoxL (we.alloc (.cells #[.slice q.pa QL q.pc] 24)) we.heap.size [.slice q.pa QL q.pc]) := Lib.hid (BoxL.new we _ _)
  have HRQ := Lib.hid (show Rd (we.alloc (.cells #[.slice q.pa QL q.pc] 24)) q from (show Rd we q from ⟨HQI.out, (HRP.out.on HBN.out).2.1, (HRP.out.on HBN.out).2.2⟩).on hb_)
  have HBM := Lib.hid (HBN.out.trans (hb_.mono HBN.out.size))
  clear hb_ HBN k0 k1 k2 k3 k4
  generalize we.alloc (.cells #[.slice q.pa QL q.pc] 24) = W5 at *
  generalize we.heap.size = gq at *
  have HLgq := Lib.hid (HXgq.out.lt (Nat.zero_lt_succ _))
  replace HRP := Lib.hid (HRP.out.on HBM.out)
  have HBW1 := Lib.hid (HBb.out.trans (HBM.out.mono (by rw [← hg]; exact HBb.out.size)))
  have HC1 : Hid (∀ wr, Below W5.heap.size W5 wr → wr.cell? ⟨g, 0, none⟩ = some (.slice p.pa PL p.pc) ∧ wr.cell? ⟨g + 1, 0, none⟩ = some (.int .i64 6) ∧ wr.cell? ⟨g + 1, 1, none⟩ = some (.int .i64 f) ∧ wr.cell? ⟨g + 1, 2, none⟩ = some (.int .i64 b) ∧ wr.cell? ⟨g + 1, 5, none⟩ = some (.int .i64 pos) ∧ wr.rangeAt (g + 1) 0 [.int .i64 6, .int .i64 f, .int .i64 b, .int .i64 tob, .int .i64 other, .int .i64 pos, .int .i64 id, .int .i64 kind, .int .i64 dst, .int .i64 a, .int .i64 b2, .int .i64 c, .int .i64 f2, .int .i64 n, .int .i64 x0, .int .i64 x1, .int .i64 x2] ∧ wr.cell? ⟨gq, 0, none⟩ = some (.slice q.pa QL q.pc) ∧ True) := Lib.hid fun wr hb => have h := HC.out wr (HBM.out.trans (hb.mono HBM.out.size)); ⟨h.1, h.2.1, h.2.2.1, h.2.2.2.1, h.2.2.2.2.1, h.2.2.2.2.2.1, ((HXgq.out.below hb HLgq.out) 0 _ rfl).1, trivial⟩
  clear HC HBM
  have HBN : Hid (Below W5.heap.size W5 W5) := Lib.hid (Below.refl _ _)
  obtain ⟨k0, k1, k2, k3, k4, -, k6, -⟩ := HC1.out _ HBN.out
  have HSM7 := Lib.hid (fun wr (hb : Below W5.heap.size W5 wr) => HSM.out wr (HRP.out.on hb) q (HRQ.out.on hb).1 HQD.out)
  unfold Pg.val at HSM7
  simp only [HQL.out] at HSM7
  go_wp2_with (go_at_call 57; refine (HSM7.out _ HBN.out).mono ?_; rintro x ws ⟨rfl, hbn⟩; have hbx := HBN.out.trans (hbn.mono HBN.out.size); clear HBN hbn k0 k1 k2 k3 k4 k6; have HBN := Lib.hid hbx; clear hbx; obtain ⟨k0, k1, k2, k3, k4, -, k6, -⟩ := HC1.out _ HBN.out)
  go_ret
  exact ⟨rfl, HBW1.out.trans (HBN.out.mono (by rw [← hg]; exact HBW1.out.size))⟩

set_option maxRecDepth 100000 in
set_option maxHeartbeats 16000000 in
theorem codeE7 (p : Pg) (e : Ed) (k : Int) (w : World) (h : Rd w p) (hwf : p.wf) (hfew : p.few) (hop : e.op = 7) (hc : ¬ chk p e = 0) :
    Calls Tryz.prog 12 #[p.val, e.val, .int .i64 k] w fun x w' => x = .returned (.bool true) ∧ Below w.heap.size w w' := by
  have HAW := Lib.hid (fun wr (h : Rd wr p) => awake8_any wr h.2.1 h.2.2)
  have HFE := Lib.hid (fun wr (h : Rd wr p) => Few_any p wr h.1 true (by simp [hfew]))
  obtain ⟨er, her⟩ : ∃ er, chk p e = er := ⟨_, rfl⟩
  have hrb : (er != 0) = true := by simp only [bne, beq_false_of_ne (show er ≠ 0 from fun h => hc (her.trans h)), Bool.not_false]
  have HAP := Lib.hid (fun wr (h : Rd wr p) => Apply_any p e wr h hfew hwf)
  simp only [AppRes, her] at HAP
  have HSM := Lib.hid (fun wr (h : Rd wr p) (q : Pg) (hr : PgIs wr.heap.size wr q) (hd : q.d = (appP p e).d) => Same_any p q wr h.1 hr hfew true (iff_of_true rfl (by rw [hd, app_same hc])))
  have HRD0 := Lib.hid h
  clear h hfew hwf hc her
  obtain ⟨op, f, b, tob, other, pos, ⟨id, kind, dst, a, b2, c, f2, n, x0, x1, x2⟩⟩ := e
  try dsimp only at *
  subst hop
  unfold Pg.val at HFE HAP HSM
  unfold Ed.val at HAP
  unfold Pg.val Ed.val
  try dsimp only at *
  obtain ⟨PL, hPL⟩ : ∃ PL, p.funs.length = PL := ⟨_, rfl⟩
  simp only [hPL] at HFE HAP HSM ⊢
  clear hPL
  have HBb := Lib.hid (below2 w (.cells #[.slice p.pa PL p.pc] 24) (.cells #[.int .i64 7, .int .i64 f, .int .i64 b, .int .i64 tob, .int .i64 other, .int .i64 pos, .int .i64 id, .int .i64 kind, .int .i64 dst, .int .i64 a, .int .i64 b2, .int .i64 c, .int .i64 f2, .int .i64 n, .int .i64 x0, .int .i64 x1, .int .i64 x2] 55))
  have hx0 := BoxL.new w [.slice p.pa PL p.pc] 24
  have HX0 := Lib.hid (show BoxL ((w.alloc (.cells #[.slice p.pa PL p.pc] 24)).alloc (.cells #[.int .i64 7, .int .i64 f, .int .i64 b, .int .i64 tob, .int .i64 other, .int .i64 pos, .int .i64 id, .int .i64 kind, .int .i64 dst, .int .i64 a, .int .i64 b2, .int .i64 c, .int .i64 f2, .int .i64 n, .int .i64 x0, .int .i64 x1, .int .i64 x2] 55)) (w.heap.size) [.slice p.pa PL p.pc] from (hx0).alloc (Nat.zero_lt_succ _) (.cells #[.int .i64 7, .int .i64 f, .int .i64 b, .int .i64 tob, .int .i64 other, .int .i64 pos, .int .i64 id, .int .i64 kind, .int .i64 dst, .int .i64 a, .int .i64 b2, .int .i64 c, .int .i64 f2, .int .i64 n, .int .i64 x0, .int .i64 x1, .int .i64 x2] 55))
  have hx1 := BoxL.new (w.alloc (.cells #[.slice p.pa PL p.pc] 24)) [.int .i64 7, .int .i64 f, .int .i64 b, .int .i64 tob, .int .i64 other, .int .i64 pos, .int .i64 id, .int .i64 kind, .int .i64 dst, .int .i64 a, .int .i64 b2, .int .i64 c, .int .i64 f2, .int .i64 n, .int .i64 x0, .int .i64 x1, .int .i64 x2] 55
  rw [World.size_alloc] at hx1
  have HX1 := Lib.hid (show BoxL ((w.alloc (.cells #[.slice p.pa PL p.pc] 24)).alloc (.cells #[.int .i64 7, .int .i64 f, .int .i64 b, .int .i64 tob, .int .i64 other, .int .i64 pos, .int .i64 id, .int .i64 kind, .int .i64 dst, .int .i64 a, .int .i64 b2, .int .i64 c, .int .i64 f2, .int .i64 n, .int .i64 x0, .int .i64 x1, .int .i64 x2] 55)) (w.heap.size + 1) [.int .i64 7, .int .i64 f, .int .i64 b, .int .i64 tob, .int .i64 other, .int .i64 pos, .int .i64 id, .int .i64 kind, .int .i64 dst, .int .i64 a, .int .i64 b2, .int .i64 c, .int .i64 f2, .int .i64 n, .int .i64 x0, .int .i64 x1, .int .i64 x2] from hx1)
  clear hx0 hx1
  have HRP := Lib.hid (HRD0.out.on HBb.out)
  generalize hW : ((w.alloc (.cells #[.slice p.pa PL p.pc] 24)).alloc (.cells #[.int .i64 7, .int .i64 f, .int .i64 b, .int .i64 tob, .int .i64 other, .int .i64 pos, .int .i64 id, .int .i64 kind, .int .i64 dst, .int .i64 a, .int .i64 b2, .int .i64 c, .int .i64 f2, .int .i64 n, .int .i64 x0, .int .i64 x1, .int .i64 x2] 55)) = W at HBb HX0 HX1 HRP
  obtain ⟨g, hg⟩ : ∃ g, w.heap.size = g := ⟨_, rfl⟩
  have HGL := Lib.hid HBb.out.size
  rw [hg] at HBb HGL HX0 HX1 ⊢
  have HL0 := Lib.hid (HX0.out.lt (Nat.zero_lt_succ _))
  have HL1 := Lib.hid (HX1.out.lt (Nat.zero_lt_succ _))
  have HC : Hid (∀ wr, Below W.heap.size W wr → wr.cell? ⟨g, 0, none⟩ = some (.slice p.pa PL p.pc) ∧ wr.cell? ⟨g + 1, 0, none⟩ = some (.int .i64 7) ∧ wr.cell? ⟨g + 1, 1, none⟩ = some (.int .i64 f) ∧ wr.cell? ⟨g + 1, 2, none⟩ = some (.int .i64 b) ∧ wr.cell? ⟨g + 1, 5, none⟩ = some (.int .i64 pos) ∧ wr.rangeAt (g + 1) 0 [.int .i64 7, .int .i64 f, .int .i64 b, .int .i64 tob, .int .i64 other, .int .i64 pos, .int .i64 id, .int .i64 kind, .int .i64 dst, .int .i64 a, .int .i64 b2, .int .i64 c, .int .i64 f2, .int .i64 n, .int .i64 x0, .int .i64 x1, .int .i64 x2] ∧ True) := Lib.hid fun wr hb => ⟨((HX0.out.below hb HL0.out) 0 _ rfl).1, ((HX1.out.below hb HL1.out) 0 _ rfl).1, ((HX1.out.below hb HL1.out) 1 _ rfl).1, ((HX1.out.below hb HL1.out) 2 _ rfl).1, ((HX1.out.below hb HL1.out) 5 _ rfl).1, (HX1.out.below hb HL1.out).range, trivial⟩
  have HBN : Hid (Below W.heap.size W W) := Lib.hid (Below.refl _ _)
  obtain ⟨k0, k1, k2, k3, k4, -, -⟩ := HC.out _ HBN.out
  go_enter Tryz.func12, Tryz.ntmps12
  go_upto_region 4 with (first
    | (go_at_call 47; refine (HAW.out _ (HRP.out.on HBN.out)).mono ?_; rintro x wa ⟨rfl, hbn⟩; have hbx := HBN.out.trans (hbn.mono HBN.out.size); clear HBN hbn k0 k1 k2 k3 k4; have HBN := Lib.hid hbx; clear hbx; obtain ⟨k0, k1, k2, k3, k4, -, -⟩ := HC.out _ HBN.out)
    | (go_at_call 14; refine (HFE.out _ (HRP.out.on HBN.out)).mono ?_; rintro x wb ⟨rfl, hbn⟩; have hbx := HBN.out.trans (hbn.mono HBN.out.size); clear HBN hbn k0 k1 k2 k3 k4; have HBN := Lib.hid hbx; clear hbx; obtain ⟨k0, k1, k2, k3, k4, -, -⟩ := HC.out _ HBN.out))
  go_upto_region 5 with (first
    | (go_at_call 49; refine (HAP.out _ (HRP.out.on HBN.out)).mono ?_; rintro x we ⟨q, rfl, hqi, -, hqd, hbn⟩; have HQI := Lib.hid hqi; have HQD := Lib.hid hqd; clear hqi hqd; have hbx := HBN.out.trans (hbn.mono HBN.out.size); clear HBN hbn k0 k1 k2 k3 k4; have HBN := Lib.hid hbx; clear hbx; obtain ⟨k0, k1, k2, k3, k4, -, -⟩ := HC.out _ HBN.out)
    | ((with_reducible apply wpList_load_w (ty := 55) (b := g + 1) (o := 0) (cs := [.int .i64 7, .int .i64 f, .int .i64 b, .int .i64 tob, .int .i64 other, .int .i64 pos, .int .i64 id, .int .i64 kind, .int .i64 dst, .int .i64 a, .int .i64 b2, .int .i64 c, .int .i64 f2, .int .i64 n, .int .i64 x0, .int .i64 x1, .int .i64 x2])); rotate_left; rfl; rfl; exact (HC.out _ HBN.out).2.2.2.2.2.1; exact Tryz.underlying55; rfl; kernel_rfl; rotate_left; rfl; simp only [Act.put, List.setIfInBounds_toArray, List.set_cons_zero, List.set_cons_succ]))
  obtain ⟨QL, hQL⟩ : ∃ QL, q.funs.length = QL := ⟨_, rfl⟩
  have HQL := Lib.hid hQL
  simp only [hQL]
  clear hQL
  have hb_ := below1 we (.cells #[.slice q.pa QL q.pc] 24)
  have HXgq : Hid (BoxL (we.alloc (.cells #[.slice q.pa QL q.pc] 24)) we.heap.size [.slice q.pa QL q.pc]) := Lib.hid (BoxL.new we _ _)
  have HRQ := Lib.hid (show Rd (we.alloc (.cells #[.slice q.pa QL q.pc] 24)) q from (show Rd we q from ⟨HQI.out, (HRP.out.on HBN.out).2.1, (HRP.out.on HBN.out).2.2⟩).on hb_)
  have HBM := Lib.hid (HBN.out.trans (hb_.mono HBN.out.size))
  clear hb_ HBN k0 k1 k2 k3 k4
  generalize we.alloc (.cells #[.slice q.pa QL q.pc] 24) = W5 at *
  generalize we.heap.size = gq at *
  have HLgq := Lib.hid (HXgq.out.lt (Nat.zero_lt_succ _))
  replace HRP := Lib.hid (HRP.out.on HBM.out)
  have HBW1 := Lib.hid (HBb.out.trans (HBM.out.mono (by rw [← hg]; exact HBb.out.size)))
  have HC1 : Hid (∀ wr, Below W5.heap.size W5 wr → wr.cell? ⟨g, 0, none⟩ = some (.slice p.pa PL p.pc) ∧ wr.cell? ⟨g + 1, 0, none⟩ = some (.int .i64 7) ∧ wr.cell? ⟨g + 1, 1, none⟩ = some (.int .i64 f) ∧ wr.cell? ⟨g + 1, 2, none⟩ = some (.int .i64 b) ∧ wr.cell? ⟨g + 1, 5, none⟩ = some (.int .i64 pos) ∧ wr.rangeAt (g + 1) 0 [.int .i64 7, .int .i64 f, .int .i64 b, .int .i64 tob, .int .i64 other, .int .i64 pos, .int .i64 id, .int .i64 kind, .int .i64 dst, .int .i64 a, .int .i64 b2, .int .i64 c, .int .i64 f2, .int .i64 n, .int .i64 x0, .int .i64 x1, .int .i64 x2] ∧ wr.cell? ⟨gq, 0, none⟩ = some (.slice q.pa QL q.pc) ∧ True) := Lib.hid fun wr hb => have h := HC.out wr (HBM.out.trans (hb.mono HBM.out.size)); ⟨h.1, h.2.1, h.2.2.1, h.2.2.2.1, h.2.2.2.2.1, h.2.2.2.2.2.1, ((HXgq.out.below hb HLgq.out) 0 _ rfl).1, trivial⟩
  clear HC HBM
  have HBN : Hid (Below W5.heap.size W5 W5) := Lib.hid (Below.refl _ _)
  obtain ⟨k0, k1, k2, k3, k4, -, k6, -⟩ := HC1.out _ HBN.out
  have HSM7 := Lib.hid (fun wr (hb : Below W5.heap.size W5 wr) => HSM.out wr (HRP.out.on hb) q (HRQ.out.on hb).1 HQD.out)
  unfold Pg.val at HSM7
  simp only [HQL.out] at HSM7
  go_wp2_with (go_at_call 57; refine (HSM7.out _ HBN.out).mono ?_; rintro x ws ⟨rfl, hbn⟩; have hbx := HBN.out.trans (hbn.mono HBN.out.size); clear HBN hbn k0 k1 k2 k3 k4 k6; have HBN := Lib.hid hbx; clear hbx; obtain ⟨k0, k1, k2, k3, k4, -, k6, -⟩ := HC1.out _ HBN.out)
  go_ret
  exact ⟨rfl, HBW1.out.trans (HBN.out.mono (by rw [← hg]; exact HBW1.out.size))⟩
end Go.Proofs.YtbddjneinfkmpaaGreatDoor

namespace Go.Proofs.YtbddjneinfkmpaaGreatDoor
open Go Go.RowKit Go.Sort

set_option maxRecDepth 100000 in
set_option maxHeartbeats 16000000 in
theorem code6 (p : Pg) (e : Ed) (k : Int) (w : World) (h : Rd w p) (hwf : p.wf) (hfew : p.few) (hop : e.op = 6) (hc : chk p e = 0) :
    Calls Tryz.prog 12 #[p.val, e.val, .int .i64 k] w fun x w' => x = .returned (.bool true) ∧ Below w.heap.size w w' := by
  have HAW := Lib.hid (fun wr (h : Rd wr p) => awake8_any wr h.2.1 h.2.2)
  have HFE := Lib.hid (fun wr (h : Rd wr p) => Few_any p wr h.1 true (by simp [hfew]))
  have her := hc
  have HAP := Lib.hid (fun wr (h : Rd wr p) => Apply_any p e wr h hfew hwf)
  simp only [AppRes, her] at HAP
  have hac := app_code hc (by omega)
  have HQF := Lib.hid (fun (q : Pg) (hq : q.d = (appP p e).d) => (Pg.few_of_d hq).2 (few_app hfew e))
  have HQB := Lib.hid (fun (q : Pg) (hq : q.d = (appP p e).d) (z : Int) => show atB q e.f e.b z = atB (appP p e) e.f e.b z from by rw [← atB_d q, hq, atB_d])
  have HQR := Lib.hid (fun (q : Pg) (hq : q.d = (appP p e).d) (z : Int) => show atR q e.f e.b z = atR (appP p e) e.f e.b z from by rw [← atR_d q, hq, atR_d])
  obtain ⟨nid, hnid⟩ : ∃ z, newId p = z := ⟨_, rfl⟩
  have HNI := Lib.hid (fun wr (h : Rd wr p) => (NewId_any p wr h.1 h.2.1 h.2.2 hfew).mono (R' := fun x w' => x = .returned (.int .i64 nid) ∧ Below wr.heap.size wr w') fun x w' ⟨⟨z, hx, hz⟩, hb⟩ => ⟨by rw [hx, newId_eq hz, hnid], hb⟩)
  rw [hnid] at hac
  clear hnid
  obtain ⟨X, hX⟩ : ∃ X, atR p e.f e.b k = X := ⟨_, rfl⟩
  have HKB := Lib.hid (fun (h : atB p e.f e.b k = true) => at_few hfew h)
  have HTQ : Hid (e.op = 7 → e.pos = k → atB p e.f e.b k = true) := Lib.hid fun h7 h => h ▸ hac.2.1 h7
  obtain ⟨th, hth⟩ : ∃ r, atB p e.f e.b k = r := ⟨_, rfl⟩
  have HPT := Lib.hid (fun wr (h : Rd wr p) => At_any p e.f e.b k wr h.1 h.2.1 h.2.2 hfew X hX th hth)
  obtain ⟨A0, hA0⟩ : ∃ A0, appP p e = A0 := ⟨_, rfl⟩
  simp only [hA0] at hac HQB HQR HQF HAP
  clear hA0
  obtain ⟨hz1, hz2⟩ := hac.1 hop
  have HL : Hid (th = true → e.pos ≤ k → atB A0 e.f e.b (k + 1) = true ∧ atR A0 e.f e.b (k + 1) = X) := Lib.hid fun ht hle => by
    have h := hac.2.2 k (hth.trans ht) (fun h => absurd (hop.symm.trans h) (by decide))
    rw [hX, if_pos hop, if_pos hle] at h
    exact h
  have HG : Hid (th = true → ¬ e.pos ≤ k → atB A0 e.f e.b k = true ∧ atR A0 e.f e.b k = X) := Lib.hid fun ht hle => by
    have h := hac.2.2 k (hth.trans ht) (fun h => absurd (hop.symm.trans h) (by decide))
    rw [hX, if_pos hop, if_neg hle, Int.add_zero] at h
    exact h
  have HKR : Hid (th = true → 0 ≤ k ∧ k < 30) := Lib.hid fun h => HKB.out (hth.trans h)
  clear hX hac hth HKB HTQ
  have HRD0 := Lib.hid h
  clear h hfew hwf hc her
  obtain ⟨op, f, b, tob, other, pos, ⟨id, kind, dst, a, b2, c, f2, n, x0, x1, x2⟩⟩ := e
  try dsimp only at *
  subst hop
  obtain ⟨x0_, x1_, x2_, x3_, x4_, x5_, x6_, x7_, x8_, x9_, x10_⟩ := X
  unfold Ins.val at HPT
  dsimp only at HPT
  unfold Pg.val at HFE HAP HNI HPT
  unfold Ed.val at HAP
  unfold Pg.val Ed.val
  try dsimp only at *
  obtain ⟨PL, hPL⟩ : ∃ PL, p.funs.length = PL := ⟨_, rfl⟩
  simp only [hPL] at HFE HAP HNI HPT ⊢
  clear hPL
  have HBb := Lib.hid (below2 w (.cells #[.slice p.pa PL p.pc] 24) (.cells #[.int .i64 6, .int .i64 f, .int .i64 b, .int .i64 tob, .int .i64 other, .int .i64 pos, .int .i64 id, .int .i64 kind, .int .i64 dst, .int .i64 a, .int .i64 b2, .int .i64 c, .int .i64 f2, .int .i64 n, .int .i64 x0, .int .i64 x1, .int .i64 x2] 55))
  have hx0 := BoxL.new w [.slice p.pa PL p.pc] 24
  have HX0 := Lib.hid (show BoxL ((w.alloc (.cells #[.slice p.pa PL p.pc] 24)).alloc (.cells #[.int .i64 6, .int .i64 f, .int .i64 b, .int .i64 tob, .int .i64 other, .int .i64 pos, .int .i64 id, .int .i64 kind, .int .i64 dst, .int .i64 a, .int .i64 b2, .int .i64 c, .int .i64 f2, .int .i64 n, .int .i64 x0, .int .i64 x1, .int .i64 x2] 55)) (w.heap.size) [.slice p.pa PL p.pc] from (hx0).alloc (Nat.zero_lt_succ _) (.cells #[.int .i64 6, .int .i64 f, .int .i64 b, .int .i64 tob, .int .i64 other, .int .i64 pos, .int .i64 id, .int .i64 kind, .int .i64 dst, .int .i64 a, .int .i64 b2, .int .i64 c, .int .i64 f2, .int .i64 n, .int .i64 x0, .int .i64 x1, .int .i64 x2] 55))
  have hx1 := BoxL.new (w.alloc (.cells #[.slice p.pa PL p.pc] 24)) [.int .i64 6, .int .i64 f, .int .i64 b, .int .i64 tob, .int .i64 other, .int .i64 pos, .int .i64 id, .int .i64 kind, .int .i64 dst, .int .i64 a, .int .i64 b2, .int .i64 c, .int .i64 f2, .int .i64 n, .int .i64 x0, .int .i64 x1, .int .i64 x2] 55
  rw [World.size_alloc] at hx1
  have HX1 := Lib.hid (show BoxL ((w.alloc (.cells #[.slice p.pa PL p.pc] 24)).alloc (.cells #[.int .i64 6, .int .i64 f, .int .i64 b, .int .i64 tob, .int .i64 other, .int .i64 pos, .int .i64 id, .int .i64 kind, .int .i64 dst, .int .i64 a, .int .i64 b2, .int .i64 c, .int .i64 f2, .int .i64 n, .int .i64 x0, .int .i64 x1, .int .i64 x2] 55)) (w.heap.size + 1) [.int .i64 6, .int .i64 f, .int .i64 b, .int .i64 tob, .int .i64 other, .int .i64 pos, .int .i64 id, .int .i64 kind, .int .i64 dst, .int .i64 a, .int .i64 b2, .int .i64 c, .int .i64 f2, .int .i64 n, .int .i64 x0, .int .i64 x1, .int .i64 x2] from hx1)
  clear hx0 hx1
  have HRP := Lib.hid (HRD0.out.on HBb.out)
  generalize hW : ((w.alloc (.cells #[.slice p.pa PL p.pc] 24)).alloc (.cells #[.int .i64 6, .int .i64 f, .int .i64 b, .int .i64 tob, .int .i64 other, .int .i64 pos, .int .i64 id, .int .i64 kind, .int .i64 dst, .int .i64 a, .int .i64 b2, .int .i64 c, .int .i64 f2, .int .i64 n, .int .i64 x0, .int .i64 x1, .int .i64 x2] 55)) = W at HBb HX0 HX1 HRP
  obtain ⟨g, hg⟩ : ∃ g, w.heap.size = g := ⟨_, rfl⟩
  have HGL := Lib.hid HBb.out.size
  rw [hg] at HBb HGL HX0 HX1 ⊢
  have HL0 := Lib.hid (HX0.out.lt (Nat.zero_lt_succ _))
  have HL1 := Lib.hid (HX1.out.lt (Nat.zero_lt_succ _))
  have HC : Hid (∀ wr, Below W.heap.size W wr → wr.cell? ⟨g, 0, none⟩ = some (.slice p.pa PL p.pc) ∧ wr.cell? ⟨g + 1, 0, none⟩ = some (.int .i64 6) ∧ wr.cell? ⟨g + 1, 1, none⟩ = some (.int .i64 f) ∧ wr.cell? ⟨g + 1, 2, none⟩ = some (.int .i64 b) ∧ wr.cell? ⟨g + 1, 5, none⟩ = some (.int .i64 pos) ∧ wr.rangeAt (g + 1) 0 [.int .i64 6, .int .i64 f, .int .i64 b, .int .i64 tob, .int .i64 other, .int .i64 pos, .int .i64 id, .int .i64 kind, .int .i64 dst, .int .i64 a, .int .i64 b2, .int .i64 c, .int .i64 f2, .int .i64 n, .int .i64 x0, .int .i64 x1, .int .i64 x2] ∧ True) := Lib.hid fun wr hb => ⟨((HX0.out.below hb HL0.out) 0 _ rfl).1, ((HX1.out.below hb HL1.out) 0 _ rfl).1, ((HX1.out.below hb HL1.out) 1 _ rfl).1, ((HX1.out.below hb HL1.out) 2 _ rfl).1, ((HX1.out.below hb HL1.out) 5 _ rfl).1, (HX1.out.below hb HL1.out).range, trivial⟩
  have HBN : Hid (Below W.heap.size W W) := Lib.hid (Below.refl _ _)
  obtain ⟨k0, k1, k2, k3, k4, -, -⟩ := HC.out _ HBN.out
  go_enter Tryz.func12, Tryz.ntmps12
  go_upto_region 4 with (first
    | (go_at_call 47; refine (HAW.out _ (HRP.out.on HBN.out)).mono ?_; rintro x wa ⟨rfl, hbn⟩; have hbx := HBN.out.trans (hbn.mono HBN.out.size); clear HBN hbn k0 k1 k2 k3 k4; have HBN := Lib.hid hbx; clear hbx; obtain ⟨k0, k1, k2, k3, k4, -, -⟩ := HC.out _ HBN.out)
    | (go_at_call 14; refine (HFE.out _ (HRP.out.on HBN.out)).mono ?_; rintro x wb ⟨rfl, hbn⟩; have hbx := HBN.out.trans (hbn.mono HBN.out.size); clear HBN hbn k0 k1 k2 k3 k4; have HBN := Lib.hid hbx; clear hbx; obtain ⟨k0, k1, k2, k3, k4, -, -⟩ := HC.out _ HBN.out))
  go_upto_region 5 with (first
    | (go_at_call 49; refine (HAP.out _ (HRP.out.on HBN.out)).mono ?_; rintro x we ⟨q, rfl, hqi, -, hqd, hbn⟩; have HQI := Lib.hid hqi; have HQD := Lib.hid hqd; clear hqi hqd; have hbx := HBN.out.trans (hbn.mono HBN.out.size); clear HBN hbn k0 k1 k2 k3 k4; have HBN := Lib.hid hbx; clear hbx; obtain ⟨k0, k1, k2, k3, k4, -, -⟩ := HC.out _ HBN.out)
    | ((with_reducible apply wpList_load_w (ty := 55) (b := g + 1) (o := 0) (cs := [.int .i64 6, .int .i64 f, .int .i64 b, .int .i64 tob, .int .i64 other, .int .i64 pos, .int .i64 id, .int .i64 kind, .int .i64 dst, .int .i64 a, .int .i64 b2, .int .i64 c, .int .i64 f2, .int .i64 n, .int .i64 x0, .int .i64 x1, .int .i64 x2])); rotate_left; rfl; rfl; exact (HC.out _ HBN.out).2.2.2.2.2.1; exact Tryz.underlying55; rfl; kernel_rfl; rotate_left; rfl; simp only [Act.put, List.setIfInBounds_toArray, List.set_cons_zero, List.set_cons_succ]))
  obtain ⟨QL, hQL⟩ : ∃ QL, q.funs.length = QL := ⟨_, rfl⟩
  have HQL := Lib.hid hQL
  simp only [hQL]
  clear hQL
  have hb_ := below1 we (.cells #[.slice q.pa QL q.pc] 24)
  have HXgq : Hid (BoxL (we.alloc (.cells #[.slice q.pa QL q.pc] 24)) we.heap.size [.slice q.pa QL q.pc]) := Lib.hid (BoxL.new we _ _)
  have HRQ := Lib.hid (show Rd (we.alloc (.cells #[.slice q.pa QL q.pc] 24)) q from (show Rd we q from ⟨HQI.out, (HRP.out.on HBN.out).2.1, (HRP.out.on HBN.out).2.2⟩).on hb_)
  have HBM := Lib.hid (HBN.out.trans (hb_.mono HBN.out.size))
  clear hb_ HBN k0 k1 k2 k3 k4
  generalize we.alloc (.cells #[.slice q.pa QL q.pc] 24) = W5 at *
  generalize we.heap.size = gq at *
  have HLgq := Lib.hid (HXgq.out.lt (Nat.zero_lt_succ _))
  replace HRP := Lib.hid (HRP.out.on HBM.out)
  have HBW1 := Lib.hid (HBb.out.trans (HBM.out.mono (by rw [← hg]; exact HBb.out.size)))
  have HC1 : Hid (∀ wr, Below W5.heap.size W5 wr → wr.cell? ⟨g, 0, none⟩ = some (.slice p.pa PL p.pc) ∧ wr.cell? ⟨g + 1, 0, none⟩ = some (.int .i64 6) ∧ wr.cell? ⟨g + 1, 1, none⟩ = some (.int .i64 f) ∧ wr.cell? ⟨g + 1, 2, none⟩ = some (.int .i64 b) ∧ wr.cell? ⟨g + 1, 5, none⟩ = some (.int .i64 pos) ∧ wr.rangeAt (g + 1) 0 [.int .i64 6, .int .i64 f, .int .i64 b, .int .i64 tob, .int .i64 other, .int .i64 pos, .int .i64 id, .int .i64 kind, .int .i64 dst, .int .i64 a, .int .i64 b2, .int .i64 c, .int .i64 f2, .int .i64 n, .int .i64 x0, .int .i64 x1, .int .i64 x2] ∧ wr.cell? ⟨gq, 0, none⟩ = some (.slice q.pa QL q.pc) ∧ True) := Lib.hid fun wr hb => have h := HC.out wr (HBM.out.trans (hb.mono HBM.out.size)); ⟨h.1, h.2.1, h.2.2.1, h.2.2.2.1, h.2.2.2.2.1, h.2.2.2.2.2.1, ((HXgq.out.below hb HLgq.out) 0 _ rfl).1, trivial⟩
  clear HC HBM
  have HBN : Hid (Below W5.heap.size W5 W5) := Lib.hid (Below.refl _ _)
  obtain ⟨k0, k1, k2, k3, k4, -, k6, -⟩ := HC1.out _ HBN.out
  have hqf := HQF.out q HQD.out
  have HAZ := Lib.hid (fun wr (h : Rd wr q) (z : Int) => At_some q f b z wr h hqf)
  unfold Pg.val at HAZ
  simp only [HQL.out] at HAZ
  have HIQ := Lib.hid (fun wr (h : Rd wr q) => At_any q f b pos wr h.1 h.2.1 h.2.2 hqf { id := nid, kind := kind, dst := dst, a := a, b := b2, c := c, f := f2, n := n, x0 := x0, x1 := x1, x2 := x2 } (by rw [HQR.out q HQD.out]; exact hz2) true (by rw [HQB.out q HQD.out]; exact hz1))
  unfold Pg.val Ins.val at HIQ
  dsimp only at HIQ
  simp only [HQL.out] at HIQ
  clear hz1 hz2
  have HQFW := Lib.hid hqf
  clear hqf
  go_upto_region 8 with (go_at_call 19; refine (HIQ.out _ (HRQ.out.on HBN.out)).mono ?_; rintro x wi ⟨rfl, hbn⟩; have hbx := HBN.out.trans (hbn.mono HBN.out.size); clear HBN hbn k0 k1 k2 k3 k4 k6; have HBN := Lib.hid hbx; clear hbx; obtain ⟨k0, k1, k2, k3, k4, -, k6, -⟩ := HC1.out _ HBN.out)
  have hb_ := below1 wi (.cells #[.int .i64 nid, .int .i64 kind, .int .i64 dst, .int .i64 a, .int .i64 b2, .int .i64 c, .int .i64 f2, .int .i64 n, .int .i64 x0, .int .i64 x1, .int .i64 x2] 40)
  have HXgi : Hid (BoxL (wi.alloc (.cells #[.int .i64 nid, .int .i64 kind, .int .i64 dst, .int .i64 a, .int .i64 b2, .int .i64 c, .int .i64 f2, .int .i64 n, .int .i64 x0, .int .i64 x1, .int .i64 x2] 40)) wi.heap.size [.int .i64 nid, .int .i64 kind, .int .i64 dst, .int .i64 a, .int .i64 b2, .int .i64 c, .int .i64 f2, .int .i64 n, .int .i64 x0, .int .i64 x1, .int .i64 x2]) := Lib.hid (BoxL.new wi _ _)
  have HBM := Lib.hid (HBN.out.trans (hb_.mono HBN.out.size))
  clear hb_ HBN k0 k1 k2 k3 k4 k6
  generalize wi.alloc (.cells #[.int .i64 nid, .int .i64 kind, .int .i64 dst, .int .i64 a, .int .i64 b2, .int .i64 c, .int .i64 f2, .int .i64 n, .int .i64 x0, .int .i64 x1, .int .i64 x2] 40) = W6 at *
  generalize wi.heap.size = gi at *
  have HLgi := Lib.hid (HXgi.out.lt (Nat.zero_lt_succ _))
  replace HRP := Lib.hid (HRP.out.on HBM.out)
  replace HRQ := Lib.hid (HRQ.out.on HBM.out)
  have HBW2 := Lib.hid (HBW1.out.trans (HBM.out.mono (by rw [← hg]; exact HBW1.out.size)))
  have HC2 : Hid (∀ wr, Below W6.heap.size W6 wr → wr.cell? ⟨g, 0, none⟩ = some (.slice p.pa PL p.pc) ∧ wr.cell? ⟨g + 1, 0, none⟩ = some (.int .i64 6) ∧ wr.cell? ⟨g + 1, 1, none⟩ = some (.int .i64 f) ∧ wr.cell? ⟨g + 1, 2, none⟩ = some (.int .i64 b) ∧ wr.cell? ⟨g + 1, 5, none⟩ = some (.int .i64 pos) ∧ wr.rangeAt (g + 1) 0 [.int .i64 6, .int .i64 f, .int .i64 b, .int .i64 tob, .int .i64 other, .int .i64 pos, .int .i64 id, .int .i64 kind, .int .i64 dst, .int .i64 a, .int .i64 b2, .int .i64 c, .int .i64 f2, .int .i64 n, .int .i64 x0, .int .i64 x1, .int .i64 x2] ∧ wr.cell? ⟨gq, 0, none⟩ = some (.slice q.pa QL q.pc) ∧ wr.cell? ⟨gi, 0, none⟩ = some (.int .i64 nid) ∧ wr.cell? ⟨gi, 1, none⟩ = some (.int .i64 kind) ∧ wr.cell? ⟨gi, 2, none⟩ = some (.int .i64 dst) ∧ wr.cell? ⟨gi, 3, none⟩ = some (.int .i64 a) ∧ wr.cell? ⟨gi, 4, none⟩ = some (.int .i64 b2) ∧ wr.cell? ⟨gi, 5, none⟩ = some (.int .i64 c) ∧ wr.cell? ⟨gi, 6, none⟩ = some (.int .i64 f2) ∧ wr.cell? ⟨gi, 7, none⟩ = some (.int .i64 n) ∧ wr.cell? ⟨gi, 8, none⟩ = some (.int .i64 x0) ∧ wr.cell? ⟨gi, 9, none⟩ = some (.int .i64 x1) ∧ wr.cell? ⟨gi, 10, none⟩ = some (.int .i64 x2) ∧ True) := Lib.hid fun wr hb => have h := HC1.out wr (HBM.out.trans (hb.mono HBM.out.size)); ⟨h.1, h.2.1, h.2.2.1, h.2.2.2.1, h.2.2.2.2.1, h.2.2.2.2.2.1, h.2.2.2.2.2.2.1, ((HXgi.out.below hb HLgi.out) 0 _ rfl).1, ((HXgi.out.below hb HLgi.out) 1 _ rfl).1, ((HXgi.out.below hb HLgi.out) 2 _ rfl).1, ((HXgi.out.below hb HLgi.out) 3 _ rfl).1, ((HXgi.out.below hb HLgi.out) 4 _ rfl).1, ((HXgi.out.below hb HLgi.out) 5 _ rfl).1, ((HXgi.out.below hb HLgi.out) 6 _ rfl).1, ((HXgi.out.below hb HLgi.out) 7 _ rfl).1, ((HXgi.out.below hb HLgi.out) 8 _ rfl).1, ((HXgi.out.below hb HLgi.out) 9 _ rfl).1, ((HXgi.out.below hb HLgi.out) 10 _ rfl).1, trivial⟩
  clear HC1 HBM
  have HBN : Hid (Below W6.heap.size W6 W6) := Lib.hid (Below.refl _ _)
  obtain ⟨k0, k1, k2, k3, k4, -, k6, k7, k8, k9, k10, k11, k12, k13, k14, k15, k16, k17, -⟩ := HC2.out _ HBN.out
  go_upto_region 9 with (first | ((with_reducible apply wpList_load_w (ty := 40) (b := g + 1) (o := 6) (cs := [.int .i64 id, .int .i64 kind, .int .i64 dst, .int .i64 a, .int .i64 b2, .int .i64 c, .int .i64 f2, .int .i64 n, .int .i64 x0, .int .i64 x1, .int .i64 x2])); rotate_left; rfl; rfl; exact range_sub ((HC2.out _ HBN.out).2.2.2.2.2.1); exact Tryz.underlying40; rfl; kernel_rfl; rotate_left; rfl; simp only [Act.put, List.setIfInBounds_toArray, List.set_cons_zero, List.set_cons_succ]))
  have HRPs := HRP
  have HRQs := HRQ
  have HBWs := HBW2
  have HC3 : Hid (∀ wr, Below W6.heap.size W6 wr → wr.cell? ⟨g, 0, none⟩ = some (.slice p.pa PL p.pc) ∧ wr.cell? ⟨g + 1, 0, none⟩ = some (.int .i64 6) ∧ wr.cell? ⟨g + 1, 1, none⟩ = some (.int .i64 f) ∧ wr.cell? ⟨g + 1, 2, none⟩ = some (.int .i64 b) ∧ wr.cell? ⟨g + 1, 5, none⟩ = some (.int .i64 pos) ∧ wr.cell? ⟨gq, 0, none⟩ = some (.slice q.pa QL q.pc) ∧ wr.cell? ⟨gi, 0, none⟩ = some (.int .i64 nid) ∧ wr.cell? ⟨gi, 1, none⟩ = some (.int .i64 kind) ∧ wr.cell? ⟨gi, 2, none⟩ = some (.int .i64 dst) ∧ wr.cell? ⟨gi, 3, none⟩ = some (.int .i64 a) ∧ wr.cell? ⟨gi, 4, none⟩ = some (.int .i64 b2) ∧ wr.cell? ⟨gi, 5, none⟩ = some (.int .i64 c) ∧ wr.cell? ⟨gi, 6, none⟩ = some (.int .i64 f2) ∧ wr.cell? ⟨gi, 7, none⟩ = some (.int .i64 n) ∧ wr.cell? ⟨gi, 8, none⟩ = some (.int .i64 x0) ∧ wr.cell? ⟨gi, 9, none⟩ = some (.int .i64 x1) ∧ wr.cell? ⟨gi, 10, none⟩ = some (.int .i64 x2) ∧ True) := Lib.hid fun wr hb => have h := HC2.out wr hb; ⟨h.1, h.2.1, h.2.2.1, h.2.2.2.1, h.2.2.2.2.1, h.2.2.2.2.2.2.1, h.2.2.2.2.2.2.2.1, h.2.2.2.2.2.2.2.2.1, h.2.2.2.2.2.2.2.2.2.1, h.2.2.2.2.2.2.2.2.2.2.1, h.2.2.2.2.2.2.2.2.2.2.2.1, h.2.2.2.2.2.2.2.2.2.2.2.2.1, h.2.2.2.2.2.2.2.2.2.2.2.2.2.1, h.2.2.2.2.2.2.2.2.2.2.2.2.2.2.1, h.2.2.2.2.2.2.2.2.2.2.2.2.2.2.2.1, h.2.2.2.2.2.2.2.2.2.2.2.2.2.2.2.2.1, h.2.2.2.2.2.2.2.2.2.2.2.2.2.2.2.2.2.1, trivial⟩
  clear HC2 k0 k1 k2 k3 k4 k6 k7 k8 k9 k10 k11 k12 k13 k14 k15 k16 k17
  obtain ⟨k0, k1, k2, k3, k4, k5, k6, k7, k8, k9, k10, k11, k12, k13, k14, k15, k16, -⟩ := HC3.out _ HBN.out
  have hb_ := below1 W6 (.cells #[.int .i64 id, .int .i64 kind, .int .i64 dst, .int .i64 a, .int .i64 b2, .int .i64 c, .int .i64 f2, .int .i64 n, .int .i64 x0, .int .i64 x1, .int .i64 x2] 40)
  have HXgj : Hid (BoxL (W6.alloc (.cells #[.int .i64 id, .int .i64 kind, .int .i64 dst, .int .i64 a, .int .i64 b2, .int .i64 c, .int .i64 f2, .int .i64 n, .int .i64 x0, .int .i64 x1, .int .i64 x2] 40)) W6.heap.size [.int .i64 id, .int .i64 kind, .int .i64 dst, .int .i64 a, .int .i64 b2, .int .i64 c, .int .i64 f2, .int .i64 n, .int .i64 x0, .int .i64 x1, .int .i64 x2]) := Lib.hid (BoxL.new W6 _ _)
  have HBM := Lib.hid (HBN.out.trans (hb_.mono HBN.out.size))
  clear hb_ HBN k0 k1 k2 k3 k4 k5 k6 k7 k8 k9 k10 k11 k12 k13 k14 k15 k16
  generalize W6.alloc (.cells #[.int .i64 id, .int .i64 kind, .int .i64 dst, .int .i64 a, .int .i64 b2, .int .i64 c, .int .i64 f2, .int .i64 n, .int .i64 x0, .int .i64 x1, .int .i64 x2] 40) = W7 at *
  generalize hsz : W6.heap.size = gj at *
  have HLgj := Lib.hid (HXgj.out.lt (Nat.zero_lt_succ _))
  replace HRP := Lib.hid (HRP.out.on (by rw [hsz]; exact HBM.out))
  replace HRQ := Lib.hid (HRQ.out.on (by rw [hsz]; exact HBM.out))
  have HBW4 := Lib.hid (HBW2.out.trans (HBM.out.mono (by rw [← hg, ← hsz]; exact HBW2.out.size)))
  have HC4 : Hid (∀ wr, Below W7.heap.size W7 wr → wr.cell? ⟨g, 0, none⟩ = some (.slice p.pa PL p.pc) ∧ wr.cell? ⟨g + 1, 0, none⟩ = some (.int .i64 6) ∧ wr.cell? ⟨g + 1, 1, none⟩ = some (.int .i64 f) ∧ wr.cell? ⟨g + 1, 2, none⟩ = some (.int .i64 b) ∧ wr.cell? ⟨g + 1, 5, none⟩ = some (.int .i64 pos) ∧ wr.cell? ⟨gq, 0, none⟩ = some (.slice q.pa QL q.pc) ∧ wr.cell? ⟨gi, 0, none⟩ = some (.int .i64 nid) ∧ wr.cell? ⟨gi, 1, none⟩ = some (.int .i64 kind) ∧ wr.cell? ⟨gi, 2, none⟩ = some (.int .i64 dst) ∧ wr.cell? ⟨gi, 3, none⟩ = some (.int .i64 a) ∧ wr.cell? ⟨gi, 4, none⟩ = some (.int .i64 b2) ∧ wr.cell? ⟨gi, 5, none⟩ = some (.int .i64 c) ∧ wr.cell? ⟨gi, 6, none⟩ = some (.int .i64 f2) ∧ wr.cell? ⟨gi, 7, none⟩ = some (.int .i64 n) ∧ wr.cell? ⟨gi, 8, none⟩ = some (.int .i64 x0) ∧ wr.cell? ⟨gi, 9, none⟩ = some (.int .i64 x1) ∧ wr.cell? ⟨gi, 10, none⟩ = some (.int .i64 x2) ∧ wr.cell? ⟨gj, 0, none⟩ = some (.int .i64 id) ∧ wr.frozen? ⟨gj, 0, none⟩ = false ∧ True) := Lib.hid fun wr hb => have h := HC3.out wr (HBM.out.trans (hb.mono (by rw [← hsz]; exact HBM.out.size))); ⟨h.1, h.2.1, h.2.2.1, h.2.2.2.1, h.2.2.2.2.1, h.2.2.2.2.2.1, h.2.2.2.2.2.2.1, h.2.2.2.2.2.2.2.1, h.2.2.2.2.2.2.2.2.1, h.2.2.2.2.2.2.2.2.2.1, h.2.2.2.2.2.2.2.2.2.2.1, h.2.2.2.2.2.2.2.2.2.2.2.1, h.2.2.2.2.2.2.2.2.2.2.2.2.1, h.2.2.2.2.2.2.2.2.2.2.2.2.2.1, h.2.2.2.2.2.2.2.2.2.2.2.2.2.2.1, h.2.2.2.2.2.2.2.2.2.2.2.2.2.2.2.1, h.2.2.2.2.2.2.2.2.2.2.2.2.2.2.2.2.1, ((HXgj.out.below hb HLgj.out) 0 _ rfl).1, ((HXgj.out.below hb HLgj.out) 0 _ rfl).2, trivial⟩
  have HBMs := HBM
  have HCs := HC3
  clear HC3 HBM
  have HBN : Hid (Below W7.heap.size W7 W7) := Lib.hid (Below.refl _ _)
  obtain ⟨k0, k1, k2, k3, k4, k5, k6, k7, k8, k9, k10, k11, k12, k13, k14, k15, k16, k17, k18, -⟩ := HC4.out _ HBN.out
  go_upto_region 10 with (go_at_call 34; refine (HNI.out _ (HRP.out.on HBN.out)).mono ?_; rintro x wj ⟨rfl, hbn⟩; have hbx := HBN.out.trans (hbn.mono HBN.out.size); clear HBN hbn k0 k1 k2 k3 k4 k5 k6 k7 k8 k9 k10 k11 k12 k13 k14 k15 k16 k17 k18; have HBN := Lib.hid hbx; clear hbx; obtain ⟨k0, k1, k2, k3, k4, k5, k6, k7, k8, k9, k10, k11, k12, k13, k14, k15, k16, k17, k18, -⟩ := HC4.out _ HBN.out)
  have HXgj2 : Hid (BoxL (wj.setCell ⟨gj, 0, none⟩ (.int .i64 nid)) gj [.int .i64 nid, .int .i64 kind, .int .i64 dst, .int .i64 a, .int .i64 b2, .int .i64 c, .int .i64 f2, .int .i64 n, .int .i64 x0, .int .i64 x1, .int .i64 x2]) := Lib.hid ((HXgj.out.below HBN.out HLgj.out).put 0 (.int .i64 nid) (by simp))
  have HBM : Hid (Below gj W6 (wj.setCell ⟨gj, 0, none⟩ (.int .i64 nid))) := Lib.hid ((HBMs.out.trans (HBN.out.mono (by rw [← hsz]; exact HBMs.out.size))).setCell (p := ⟨gj, 0, none⟩) (Nat.le_refl _) _)
  clear HBN HBMs k0 k1 k2 k3 k4 k5 k6 k7 k8 k9 k10 k11 k12 k13 k14 k15 k16 k17 k18
  generalize wj.setCell ⟨gj, 0, none⟩ (.int .i64 nid) = W8 at *
  have HBX8 := Lib.hid (HBWs.out.trans (HBM.out.mono (by rw [← hg, ← hsz]; exact HBWs.out.size)))
  have HLgj2 := Lib.hid (HXgj2.out.lt (Nat.zero_lt_succ _))
  replace HRP := Lib.hid (HRPs.out.on (by rw [hsz]; exact HBM.out))
  replace HRQ := Lib.hid (HRQs.out.on (by rw [hsz]; exact HBM.out))
  have HC5 : Hid (∀ wr, Below W8.heap.size W8 wr → wr.cell? ⟨g, 0, none⟩ = some (.slice p.pa PL p.pc) ∧ wr.cell? ⟨g + 1, 0, none⟩ = some (.int .i64 6) ∧ wr.cell? ⟨g + 1, 1, none⟩ = some (.int .i64 f) ∧ wr.cell? ⟨g + 1, 2, none⟩ = some (.int .i64 b) ∧ wr.cell? ⟨g + 1, 5, none⟩ = some (.int .i64 pos) ∧ wr.cell? ⟨gq, 0, none⟩ = some (.slice q.pa QL q.pc) ∧ wr.cell? ⟨gi, 0, none⟩ = some (.int .i64 nid) ∧ wr.cell? ⟨gi, 1, none⟩ = some (.int .i64 kind) ∧ wr.cell? ⟨gi, 2, none⟩ = some (.int .i64 dst) ∧ wr.cell? ⟨gi, 3, none⟩ = some (.int .i64 a) ∧ wr.cell? ⟨gi, 4, none⟩ = some (.int .i64 b2) ∧ wr.cell? ⟨gi, 5, none⟩ = some (.int .i64 c) ∧ wr.cell? ⟨gi, 6, none⟩ = some (.int .i64 f2) ∧ wr.cell? ⟨gi, 7, none⟩ = some (.int .i64 n) ∧ wr.cell? ⟨gi, 8, none⟩ = some (.int .i64 x0) ∧ wr.cell? ⟨gi, 9, none⟩ = some (.int .i64 x1) ∧ wr.cell? ⟨gi, 10, none⟩ = some (.int .i64 x2) ∧ wr.cell? ⟨gj, 0, none⟩ = some (.int .i64 nid) ∧ wr.cell? ⟨gj, 1, none⟩ = some (.int .i64 kind) ∧ wr.cell? ⟨gj, 2, none⟩ = some (.int .i64 dst) ∧ wr.cell? ⟨gj, 3, none⟩ = some (.int .i64 a) ∧ wr.cell? ⟨gj, 4, none⟩ = some (.int .i64 b2) ∧ wr.cell? ⟨gj, 5, none⟩ = some (.int .i64 c) ∧ wr.cell? ⟨gj, 6, none⟩ = some (.int .i64 f2) ∧ wr.cell? ⟨gj, 7, none⟩ = some (.int .i64 n) ∧ wr.cell? ⟨gj, 8, none⟩ = some (.int .i64 x0) ∧ wr.cell? ⟨gj, 9, none⟩ = some (.int .i64 x1) ∧ wr.cell? ⟨gj, 10, none⟩ = some (.int .i64 x2) ∧ True) := Lib.hid fun wr hb => have h := HCs.out wr (HBM.out.trans (hb.mono (by rw [← hsz]; exact HBM.out.size))); ⟨h.1, h.2.1, h.2.2.1, h.2.2.2.1, h.2.2.2.2.1, h.2.2.2.2.2.1, h.2.2.2.2.2.2.1, h.2.2.2.2.2.2.2.1, h.2.2.2.2.2.2.2.2.1, h.2.2.2.2.2.2.2.2.2.1, h.2.2.2.2.2.2.2.2.2.2.1, h.2.2.2.2.2.2.2.2.2.2.2.1, h.2.2.2.2.2.2.2.2.2.2.2.2.1, h.2.2.2.2.2.2.2.2.2.2.2.2.2.1, h.2.2.2.2.2.2.2.2.2.2.2.2.2.2.1, h.2.2.2.2.2.2.2.2.2.2.2.2.2.2.2.1, h.2.2.2.2.2.2.2.2.2.2.2.2.2.2.2.2.1, ((HXgj2.out.below hb HLgj2.out) 0 _ rfl).1, ((HXgj2.out.below hb HLgj2.out) 1 _ rfl).1, ((HXgj2.out.below hb HLgj2.out) 2 _ rfl).1, ((HXgj2.out.below hb HLgj2.out) 3 _ rfl).1, ((HXgj2.out.below hb HLgj2.out) 4 _ rfl).1, ((HXgj2.out.below hb HLgj2.out) 5 _ rfl).1, ((HXgj2.out.below hb HLgj2.out) 6 _ rfl).1, ((HXgj2.out.below hb HLgj2.out) 7 _ rfl).1, ((HXgj2.out.below hb HLgj2.out) 8 _ rfl).1, ((HXgj2.out.below hb HLgj2.out) 9 _ rfl).1, ((HXgj2.out.below hb HLgj2.out) 10 _ rfl).1, trivial⟩
  clear HC4 HCs
  have HBN : Hid (Below W8.heap.size W8 W8) := Lib.hid (Below.refl _ _)
  obtain ⟨k0, k1, k2, k3, k4, k5, k6, k7, k8, k9, k10, k11, k12, k13, k14, k15, k16, k17, k18, k19, k20, k21, k22, k23, k24, k25, k26, k27, -⟩ := HC5.out _ HBN.out
  clear HBM
  have heqj : ∀ w, (Op.equalIn 10000 40 (.agg #[.int .i64 nid, .int .i64 kind, .int .i64 dst, .int .i64 a, .int .i64 b2, .int .i64 c, .int .i64 f2, .int .i64 n, .int .i64 x0, .int .i64 x1, .int .i64 x2]) (.agg #[.int .i64 nid, .int .i64 kind, .int .i64 dst, .int .i64 a, .int .i64 b2, .int .i64 c, .int .i64 f2, .int .i64 n, .int .i64 x0, .int .i64 x1, .int .i64 x2])).run Tryz.prog w = .ok true w := fun w => by rw [eqInsTwo]; simp
  go_upto_region 12 with fail
  clear heqj
  have HC6 : Hid (∀ wr, Below W8.heap.size W8 wr → wr.cell? ⟨g, 0, none⟩ = some (.slice p.pa PL p.pc) ∧ wr.cell? ⟨g + 1, 0, none⟩ = some (.int .i64 6) ∧ wr.cell? ⟨g + 1, 1, none⟩ = some (.int .i64 f) ∧ wr.cell? ⟨g + 1, 2, none⟩ = some (.int .i64 b) ∧ wr.cell? ⟨g + 1, 5, none⟩ = some (.int .i64 pos) ∧ wr.cell? ⟨gq, 0, none⟩ = some (.slice q.pa QL q.pc) ∧ True) := Lib.hid fun wr hb => have h := HC5.out wr hb; ⟨h.1, h.2.1, h.2.2.1, h.2.2.2.1, h.2.2.2.2.1, h.2.2.2.2.2.1, trivial⟩
  clear HC5 k0 k1 k2 k3 k4 k5 k6 k7 k8 k9 k10 k11 k12 k13 k14 k15 k16 k17 k18 k19 k20 k21 k22 k23 k24 k25 k26 k27
  obtain ⟨k0, k1, k2, k3, k4, k5, -⟩ := HC6.out _ HBN.out
  go_upto_region 13 with (go_at_call 19; refine (HPT.out _ (HRP.out.on HBN.out)).mono ?_; rintro x wx ⟨rfl, hbn⟩; have hbx := HBN.out.trans (hbn.mono HBN.out.size); clear HBN hbn k0 k1 k2 k3 k4 k5; have HBN := Lib.hid hbx; clear hbx; obtain ⟨k0, k1, k2, k3, k4, k5, -⟩ := HC6.out _ HBN.out)
  have hb_ := below1 wx (.cells #[.int .i64 x0_, .int .i64 x1_, .int .i64 x2_, .int .i64 x3_, .int .i64 x4_, .int .i64 x5_, .int .i64 x6_, .int .i64 x7_, .int .i64 x8_, .int .i64 x9_, .int .i64 x10_] 40)
  have HXgx : Hid (BoxL (wx.alloc (.cells #[.int .i64 x0_, .int .i64 x1_, .int .i64 x2_, .int .i64 x3_, .int .i64 x4_, .int .i64 x5_, .int .i64 x6_, .int .i64 x7_, .int .i64 x8_, .int .i64 x9_, .int .i64 x10_] 40)) wx.heap.size [.int .i64 x0_, .int .i64 x1_, .int .i64 x2_, .int .i64 x3_, .int .i64 x4_, .int .i64 x5_, .int .i64 x6_, .int .i64 x7_, .int .i64 x8_, .int .i64 x9_, .int .i64 x10_]) := Lib.hid (BoxL.new wx _ _)
  have HBM := Lib.hid (HBN.out.trans (hb_.mono HBN.out.size))
  clear hb_ HBN k0 k1 k2 k3 k4 k5
  generalize wx.alloc (.cells #[.int .i64 x0_, .int .i64 x1_, .int .i64 x2_, .int .i64 x3_, .int .i64 x4_, .int .i64 x5_, .int .i64 x6_, .int .i64 x7_, .int .i64 x8_, .int .i64 x9_, .int .i64 x10_] 40) = W9 at *
  generalize wx.heap.size = gx at *
  have HLgx := Lib.hid (HXgx.out.lt (Nat.zero_lt_succ _))
  replace HRP := Lib.hid (HRP.out.on HBM.out)
  replace HRQ := Lib.hid (HRQ.out.on HBM.out)
  have HBW7 := Lib.hid (HBX8.out.trans (HBM.out.mono (by rw [← hg]; exact HBX8.out.size)))
  have HC7 : Hid (∀ wr, Below W9.heap.size W9 wr → wr.cell? ⟨g, 0, none⟩ = some (.slice p.pa PL p.pc) ∧ wr.cell? ⟨g + 1, 0, none⟩ = some (.int .i64 6) ∧ wr.cell? ⟨g + 1, 1, none⟩ = some (.int .i64 f) ∧ wr.cell? ⟨g + 1, 2, none⟩ = some (.int .i64 b) ∧ wr.cell? ⟨g + 1, 5, none⟩ = some (.int .i64 pos) ∧ wr.cell? ⟨gq, 0, none⟩ = some (.slice q.pa QL q.pc) ∧ wr.cell? ⟨gx, 0, none⟩ = some (.int .i64 x0_) ∧ wr.cell? ⟨gx, 1, none⟩ = some (.int .i64 x1_) ∧ wr.cell? ⟨gx, 2, none⟩ = some (.int .i64 x2_) ∧ wr.cell? ⟨gx, 3, none⟩ = some (.int .i64 x3_) ∧ wr.cell? ⟨gx, 4, none⟩ = some (.int .i64 x4_) ∧ wr.cell? ⟨gx, 5, none⟩ = some (.int .i64 x5_) ∧ wr.cell? ⟨gx, 6, none⟩ = some (.int .i64 x6_) ∧ wr.cell? ⟨gx, 7, none⟩ = some (.int .i64 x7_) ∧ wr.cell? ⟨gx, 8, none⟩ = some (.int .i64 x8_) ∧ wr.cell? ⟨gx, 9, none⟩ = some (.int .i64 x9_) ∧ wr.cell? ⟨gx, 10, none⟩ = some (.int .i64 x10_) ∧ True) := Lib.hid fun wr hb => have h := HC6.out wr (HBM.out.trans (hb.mono HBM.out.size)); ⟨h.1, h.2.1, h.2.2.1, h.2.2.2.1, h.2.2.2.2.1, h.2.2.2.2.2.1, ((HXgx.out.below hb HLgx.out) 0 _ rfl).1, ((HXgx.out.below hb HLgx.out) 1 _ rfl).1, ((HXgx.out.below hb HLgx.out) 2 _ rfl).1, ((HXgx.out.below hb HLgx.out) 3 _ rfl).1, ((HXgx.out.below hb HLgx.out) 4 _ rfl).1, ((HXgx.out.below hb HLgx.out) 5 _ rfl).1, ((HXgx.out.below hb HLgx.out) 6 _ rfl).1, ((HXgx.out.below hb HLgx.out) 7 _ rfl).1, ((HXgx.out.below hb HLgx.out) 8 _ rfl).1, ((HXgx.out.below hb HLgx.out) 9 _ rfl).1, ((HXgx.out.below hb HLgx.out) 10 _ rfl).1, trivial⟩
  clear HC6 HBM
  have HBN : Hid (Below W9.heap.size W9 W9) := Lib.hid (Below.refl _ _)
  obtain ⟨k0, k1, k2, k3, k4, k5, k6, k7, k8, k9, k10, k11, k12, k13, k14, k15, k16, -⟩ := HC7.out _ HBN.out
  clear HAW HFE HAP HNI HPT HRPs HRQs HBWs HRD0
  cases th with
  | true =>
    by_cases hle : pos ≤ k
    ·
        have hld := hle
        have hkb := HKR.out rfl
        have hk2 := HL.out rfl (by omega)
        have HYQ := Lib.hid (fun wr (h : Rd wr q) => At_any q f b (k + 1) wr h.1 h.2.1 h.2.2 HQFW.out ⟨x0_, x1_, x2_, x3_, x4_, x5_, x6_, x7_, x8_, x9_, x10_⟩ (by rw [HQR.out q HQD.out]; exact hk2.2) true (by rw [HQB.out q HQD.out]; exact hk2.1))
        unfold Pg.val Ins.val at HYQ
        dsimp only at HYQ
        simp only [HQL.out] at HYQ
        clear hk2
        go_upto_region 19 with (go_at_call 19; refine (HYQ.out _ (HRQ.out.on HBN.out)).mono ?_; rintro x wy ⟨rfl, hbn⟩; have hbx := HBN.out.trans (hbn.mono HBN.out.size); clear HBN hbn k0 k1 k2 k3 k4 k5 k6 k7 k8 k9 k10 k11 k12 k13 k14 k15 k16; have HBN := Lib.hid hbx; clear hbx; obtain ⟨k0, k1, k2, k3, k4, k5, k6, k7, k8, k9, k10, k11, k12, k13, k14, k15, k16, -⟩ := HC7.out _ HBN.out)
        have hb_ := below1 wy (.cells #[.int .i64 x0_, .int .i64 x1_, .int .i64 x2_, .int .i64 x3_, .int .i64 x4_, .int .i64 x5_, .int .i64 x6_, .int .i64 x7_, .int .i64 x8_, .int .i64 x9_, .int .i64 x10_] 40)
        have HXgy : Hid (BoxL (wy.alloc (.cells #[.int .i64 x0_, .int .i64 x1_, .int .i64 x2_, .int .i64 x3_, .int .i64 x4_, .int .i64 x5_, .int .i64 x6_, .int .i64 x7_, .int .i64 x8_, .int .i64 x9_, .int .i64 x10_] 40)) wy.heap.size [.int .i64 x0_, .int .i64 x1_, .int .i64 x2_, .int .i64 x3_, .int .i64 x4_, .int .i64 x5_, .int .i64 x6_, .int .i64 x7_, .int .i64 x8_, .int .i64 x9_, .int .i64 x10_]) := Lib.hid (BoxL.new wy _ _)
        have HBM := Lib.hid (HBN.out.trans (hb_.mono HBN.out.size))
        clear hb_ HBN k0 k1 k2 k3 k4 k5 k6 k7 k8 k9 k10 k11 k12 k13 k14 k15 k16
        generalize wy.alloc (.cells #[.int .i64 x0_, .int .i64 x1_, .int .i64 x2_, .int .i64 x3_, .int .i64 x4_, .int .i64 x5_, .int .i64 x6_, .int .i64 x7_, .int .i64 x8_, .int .i64 x9_, .int .i64 x10_] 40) = W10 at *
        generalize wy.heap.size = gy at *
        have HLgy := Lib.hid (HXgy.out.lt (Nat.zero_lt_succ _))
        replace HRP := Lib.hid (HRP.out.on HBM.out)
        replace HRQ := Lib.hid (HRQ.out.on HBM.out)
        have HBW8 := Lib.hid (HBW7.out.trans (HBM.out.mono (by rw [← hg]; exact HBW7.out.size)))
        have HC8 : Hid (∀ wr, Below W10.heap.size W10 wr → wr.cell? ⟨g, 0, none⟩ = some (.slice p.pa PL p.pc) ∧ wr.cell? ⟨g + 1, 0, none⟩ = some (.int .i64 6) ∧ wr.cell? ⟨g + 1, 1, none⟩ = some (.int .i64 f) ∧ wr.cell? ⟨g + 1, 2, none⟩ = some (.int .i64 b) ∧ wr.cell? ⟨g + 1, 5, none⟩ = some (.int .i64 pos) ∧ wr.cell? ⟨gq, 0, none⟩ = some (.slice q.pa QL q.pc) ∧ wr.cell? ⟨gx, 0, none⟩ = some (.int .i64 x0_) ∧ wr.cell? ⟨gx, 1, none⟩ = some (.int .i64 x1_) ∧ wr.cell? ⟨gx, 2, none⟩ = some (.int .i64 x2_) ∧ wr.cell? ⟨gx, 3, none⟩ = some (.int .i64 x3_) ∧ wr.cell? ⟨gx, 4, none⟩ = some (.int .i64 x4_) ∧ wr.cell? ⟨gx, 5, none⟩ = some (.int .i64 x5_) ∧ wr.cell? ⟨gx, 6, none⟩ = some (.int .i64 x6_) ∧ wr.cell? ⟨gx, 7, none⟩ = some (.int .i64 x7_) ∧ wr.cell? ⟨gx, 8, none⟩ = some (.int .i64 x8_) ∧ wr.cell? ⟨gx, 9, none⟩ = some (.int .i64 x9_) ∧ wr.cell? ⟨gx, 10, none⟩ = some (.int .i64 x10_) ∧ wr.cell? ⟨gy, 0, none⟩ = some (.int .i64 x0_) ∧ wr.cell? ⟨gy, 1, none⟩ = some (.int .i64 x1_) ∧ wr.cell? ⟨gy, 2, none⟩ = some (.int .i64 x2_) ∧ wr.cell? ⟨gy, 3, none⟩ = some (.int .i64 x3_) ∧ wr.cell? ⟨gy, 4, none⟩ = some (.int .i64 x4_) ∧ wr.cell? ⟨gy, 5, none⟩ = some (.int .i64 x5_) ∧ wr.cell? ⟨gy, 6, none⟩ = some (.int .i64 x6_) ∧ wr.cell? ⟨gy, 7, none⟩ = some (.int .i64 x7_) ∧ wr.cell? ⟨gy, 8, none⟩ = some (.int .i64 x8_) ∧ wr.cell? ⟨gy, 9, none⟩ = some (.int .i64 x9_) ∧ wr.cell? ⟨gy, 10, none⟩ = some (.int .i64 x10_) ∧ True) := Lib.hid fun wr hb => have h := HC7.out wr (HBM.out.trans (hb.mono HBM.out.size)); ⟨h.1, h.2.1, h.2.2.1, h.2.2.2.1, h.2.2.2.2.1, h.2.2.2.2.2.1, h.2.2.2.2.2.2.1, h.2.2.2.2.2.2.2.1, h.2.2.2.2.2.2.2.2.1, h.2.2.2.2.2.2.2.2.2.1, h.2.2.2.2.2.2.2.2.2.2.1, h.2.2.2.2.2.2.2.2.2.2.2.1, h.2.2.2.2.2.2.2.2.2.2.2.2.1, h.2.2.2.2.2.2.2.2.2.2.2.2.2.1, h.2.2.2.2.2.2.2.2.2.2.2.2.2.2.1, h.2.2.2.2.2.2.2.2.2.2.2.2.2.2.2.1, h.2.2.2.2.2.2.2.2.2.2.2.2.2.2.2.2.1, ((HXgy.out.below hb HLgy.out) 0 _ rfl).1, ((HXgy.out.below hb HLgy.out) 1 _ rfl).1, ((HXgy.out.below hb HLgy.out) 2 _ rfl).1, ((HXgy.out.below hb HLgy.out) 3 _ rfl).1, ((HXgy.out.below hb HLgy.out) 4 _ rfl).1, ((HXgy.out.below hb HLgy.out) 5 _ rfl).1, ((HXgy.out.below hb HLgy.out) 6 _ rfl).1, ((HXgy.out.below hb HLgy.out) 7 _ rfl).1, ((HXgy.out.below hb HLgy.out) 8 _ rfl).1, ((HXgy.out.below hb HLgy.out) 9 _ rfl).1, ((HXgy.out.below hb HLgy.out) 10 _ rfl).1, trivial⟩
        clear HC7 HBM
        have HBN : Hid (Below W10.heap.size W10 W10) := Lib.hid (Below.refl _ _)
        obtain ⟨k0, k1, k2, k3, k4, k5, k6, k7, k8, k9, k10, k11, k12, k13, k14, k15, k16, k17, k18, k19, k20, k21, k22, k23, k24, k25, k26, k27, -⟩ := HC8.out _ HBN.out
        have heqy : ∀ w, (Op.equalIn 10000 40 (.agg #[.int .i64 x0_, .int .i64 x1_, .int .i64 x2_, .int .i64 x3_, .int .i64 x4_, .int .i64 x5_, .int .i64 x6_, .int .i64 x7_, .int .i64 x8_, .int .i64 x9_, .int .i64 x10_]) (.agg #[.int .i64 x0_, .int .i64 x1_, .int .i64 x2_, .int .i64 x3_, .int .i64 x4_, .int .i64 x5_, .int .i64 x6_, .int .i64 x7_, .int .i64 x8_, .int .i64 x9_, .int .i64 x10_])).run Tryz.prog w = .ok true w := fun w => by rw [eqInsTwo]; simp
        go_wp2_with fail
        go_ret
        exact ⟨rfl, HBW8.out.trans (HBN.out.mono (by rw [← hg]; exact HBW8.out.size))⟩
    ·
        have hld : k < pos := by omega
        have hkb := HKR.out rfl
        have hk2 := HG.out rfl (by omega)
        have HYQ := Lib.hid (fun wr (h : Rd wr q) => At_any q f b (k) wr h.1 h.2.1 h.2.2 HQFW.out ⟨x0_, x1_, x2_, x3_, x4_, x5_, x6_, x7_, x8_, x9_, x10_⟩ (by rw [HQR.out q HQD.out]; exact hk2.2) true (by rw [HQB.out q HQD.out]; exact hk2.1))
        unfold Pg.val Ins.val at HYQ
        dsimp only at HYQ
        simp only [HQL.out] at HYQ
        clear hk2
        go_upto_region 19 with (go_at_call 19; refine (HYQ.out _ (HRQ.out.on HBN.out)).mono ?_; rintro x wy ⟨rfl, hbn⟩; have hbx := HBN.out.trans (hbn.mono HBN.out.size); clear HBN hbn k0 k1 k2 k3 k4 k5 k6 k7 k8 k9 k10 k11 k12 k13 k14 k15 k16; have HBN := Lib.hid hbx; clear hbx; obtain ⟨k0, k1, k2, k3, k4, k5, k6, k7, k8, k9, k10, k11, k12, k13, k14, k15, k16, -⟩ := HC7.out _ HBN.out)
        have hb_ := below1 wy (.cells #[.int .i64 x0_, .int .i64 x1_, .int .i64 x2_, .int .i64 x3_, .int .i64 x4_, .int .i64 x5_, .int .i64 x6_, .int .i64 x7_, .int .i64 x8_, .int .i64 x9_, .int .i64 x10_] 40)
        have HXgy : Hid (BoxL (wy.alloc (.cells #[.int .i64 x0_, .int .i64 x1_, .int .i64 x2_, .int .i64 x3_, .int .i64 x4_, .int .i64 x5_, .int .i64 x6_, .int .i64 x7_, .int .i64 x8_, .int .i64 x9_, .int .i64 x10_] 40)) wy.heap.size [.int .i64 x0_, .int .i64 x1_, .int .i64 x2_, .int .i64 x3_, .int .i64 x4_, .int .i64 x5_, .int .i64 x6_, .int .i64 x7_, .int .i64 x8_, .int .i64 x9_, .int .i64 x10_]) := Lib.hid (BoxL.new wy _ _)
        have HBM := Lib.hid (HBN.out.trans (hb_.mono HBN.out.size))
        clear hb_ HBN k0 k1 k2 k3 k4 k5 k6 k7 k8 k9 k10 k11 k12 k13 k14 k15 k16
        generalize wy.alloc (.cells #[.int .i64 x0_, .int .i64 x1_, .int .i64 x2_, .int .i64 x3_, .int .i64 x4_, .int .i64 x5_, .int .i64 x6_, .int .i64 x7_, .int .i64 x8_, .int .i64 x9_, .int .i64 x10_] 40) = W10 at *
        generalize wy.heap.size = gy at *
        have HLgy := Lib.hid (HXgy.out.lt (Nat.zero_lt_succ _))
        replace HRP := Lib.hid (HRP.out.on HBM.out)
        replace HRQ := Lib.hid (HRQ.out.on HBM.out)
        have HBW8 := Lib.hid (HBW7.out.trans (HBM.out.mono (by rw [← hg]; exact HBW7.out.size)))
        have HC8 : Hid (∀ wr, Below W10.heap.size W10 wr → wr.cell? ⟨g, 0, none⟩ = some (.slice p.pa PL p.pc) ∧ wr.cell? ⟨g + 1, 0, none⟩ = some (.int .i64 6) ∧ wr.cell? ⟨g + 1, 1, none⟩ = some (.int .i64 f) ∧ wr.cell? ⟨g + 1, 2, none⟩ = some (.int .i64 b) ∧ wr.cell? ⟨g + 1, 5, none⟩ = some (.int .i64 pos) ∧ wr.cell? ⟨gq, 0, none⟩ = some (.slice q.pa QL q.pc) ∧ wr.cell? ⟨gx, 0, none⟩ = some (.int .i64 x0_) ∧ wr.cell? ⟨gx, 1, none⟩ = some (.int .i64 x1_) ∧ wr.cell? ⟨gx, 2, none⟩ = some (.int .i64 x2_) ∧ wr.cell? ⟨gx, 3, none⟩ = some (.int .i64 x3_) ∧ wr.cell? ⟨gx, 4, none⟩ = some (.int .i64 x4_) ∧ wr.cell? ⟨gx, 5, none⟩ = some (.int .i64 x5_) ∧ wr.cell? ⟨gx, 6, none⟩ = some (.int .i64 x6_) ∧ wr.cell? ⟨gx, 7, none⟩ = some (.int .i64 x7_) ∧ wr.cell? ⟨gx, 8, none⟩ = some (.int .i64 x8_) ∧ wr.cell? ⟨gx, 9, none⟩ = some (.int .i64 x9_) ∧ wr.cell? ⟨gx, 10, none⟩ = some (.int .i64 x10_) ∧ wr.cell? ⟨gy, 0, none⟩ = some (.int .i64 x0_) ∧ wr.cell? ⟨gy, 1, none⟩ = some (.int .i64 x1_) ∧ wr.cell? ⟨gy, 2, none⟩ = some (.int .i64 x2_) ∧ wr.cell? ⟨gy, 3, none⟩ = some (.int .i64 x3_) ∧ wr.cell? ⟨gy, 4, none⟩ = some (.int .i64 x4_) ∧ wr.cell? ⟨gy, 5, none⟩ = some (.int .i64 x5_) ∧ wr.cell? ⟨gy, 6, none⟩ = some (.int .i64 x6_) ∧ wr.cell? ⟨gy, 7, none⟩ = some (.int .i64 x7_) ∧ wr.cell? ⟨gy, 8, none⟩ = some (.int .i64 x8_) ∧ wr.cell? ⟨gy, 9, none⟩ = some (.int .i64 x9_) ∧ wr.cell? ⟨gy, 10, none⟩ = some (.int .i64 x10_) ∧ True) := Lib.hid fun wr hb => have h := HC7.out wr (HBM.out.trans (hb.mono HBM.out.size)); ⟨h.1, h.2.1, h.2.2.1, h.2.2.2.1, h.2.2.2.2.1, h.2.2.2.2.2.1, h.2.2.2.2.2.2.1, h.2.2.2.2.2.2.2.1, h.2.2.2.2.2.2.2.2.1, h.2.2.2.2.2.2.2.2.2.1, h.2.2.2.2.2.2.2.2.2.2.1, h.2.2.2.2.2.2.2.2.2.2.2.1, h.2.2.2.2.2.2.2.2.2.2.2.2.1, h.2.2.2.2.2.2.2.2.2.2.2.2.2.1, h.2.2.2.2.2.2.2.2.2.2.2.2.2.2.1, h.2.2.2.2.2.2.2.2.2.2.2.2.2.2.2.1, h.2.2.2.2.2.2.2.2.2.2.2.2.2.2.2.2.1, ((HXgy.out.below hb HLgy.out) 0 _ rfl).1, ((HXgy.out.below hb HLgy.out) 1 _ rfl).1, ((HXgy.out.below hb HLgy.out) 2 _ rfl).1, ((HXgy.out.below hb HLgy.out) 3 _ rfl).1, ((HXgy.out.below hb HLgy.out) 4 _ rfl).1, ((HXgy.out.below hb HLgy.out) 5 _ rfl).1, ((HXgy.out.below hb HLgy.out) 6 _ rfl).1, ((HXgy.out.below hb HLgy.out) 7 _ rfl).1, ((HXgy.out.below hb HLgy.out) 8 _ rfl).1, ((HXgy.out.below hb HLgy.out) 9 _ rfl).1, ((HXgy.out.below hb HLgy.out) 10 _ rfl).1, trivial⟩
        clear HC7 HBM
        have HBN : Hid (Below W10.heap.size W10 W10) := Lib.hid (Below.refl _ _)
        obtain ⟨k0, k1, k2, k3, k4, k5, k6, k7, k8, k9, k10, k11, k12, k13, k14, k15, k16, k17, k18, k19, k20, k21, k22, k23, k24, k25, k26, k27, -⟩ := HC8.out _ HBN.out
        have heqy : ∀ w, (Op.equalIn 10000 40 (.agg #[.int .i64 x0_, .int .i64 x1_, .int .i64 x2_, .int .i64 x3_, .int .i64 x4_, .int .i64 x5_, .int .i64 x6_, .int .i64 x7_, .int .i64 x8_, .int .i64 x9_, .int .i64 x10_]) (.agg #[.int .i64 x0_, .int .i64 x1_, .int .i64 x2_, .int .i64 x3_, .int .i64 x4_, .int .i64 x5_, .int .i64 x6_, .int .i64 x7_, .int .i64 x8_, .int .i64 x9_, .int .i64 x10_])).run Tryz.prog w = .ok true w := fun w => by rw [eqInsTwo]; simp
        go_wp2_with fail
        go_ret
        exact ⟨rfl, HBW8.out.trans (HBN.out.mono (by rw [← hg]; exact HBW8.out.size))⟩
  | false =>
    by_cases hle : pos ≤ k
    ·
        have hld := hle
        go_upto_region 19 with (go_at_call 19; refine (HAZ.out _ (HRQ.out.on HBN.out) _).mono ?_; rintro x wy ⟨⟨ya0, ya1, ya2, ya3, ya4, ya5, ya6, ya7, ya8, ya9, ya10, rrya, rfl⟩, hbn⟩; have hbx := HBN.out.trans (hbn.mono HBN.out.size); clear HBN hbn k0 k1 k2 k3 k4 k5 k6 k7 k8 k9 k10 k11 k12 k13 k14 k15 k16; have HBN := Lib.hid hbx; clear hbx; obtain ⟨k0, k1, k2, k3, k4, k5, k6, k7, k8, k9, k10, k11, k12, k13, k14, k15, k16, -⟩ := HC7.out _ HBN.out)
        have hb_ := below1 wy (.cells #[.int .i64 ya0, .int .i64 ya1, .int .i64 ya2, .int .i64 ya3, .int .i64 ya4, .int .i64 ya5, .int .i64 ya6, .int .i64 ya7, .int .i64 ya8, .int .i64 ya9, .int .i64 ya10] 40)
        have HXgy : Hid (BoxL (wy.alloc (.cells #[.int .i64 ya0, .int .i64 ya1, .int .i64 ya2, .int .i64 ya3, .int .i64 ya4, .int .i64 ya5, .int .i64 ya6, .int .i64 ya7, .int .i64 ya8, .int .i64 ya9, .int .i64 ya10] 40)) wy.heap.size [.int .i64 ya0, .int .i64 ya1, .int .i64 ya2, .int .i64 ya3, .int .i64 ya4, .int .i64 ya5, .int .i64 ya6, .int .i64 ya7, .int .i64 ya8, .int .i64 ya9, .int .i64 ya10]) := Lib.hid (BoxL.new wy _ _)
        have HBM := Lib.hid (HBN.out.trans (hb_.mono HBN.out.size))
        clear hb_ HBN k0 k1 k2 k3 k4 k5 k6 k7 k8 k9 k10 k11 k12 k13 k14 k15 k16
        generalize wy.alloc (.cells #[.int .i64 ya0, .int .i64 ya1, .int .i64 ya2, .int .i64 ya3, .int .i64 ya4, .int .i64 ya5, .int .i64 ya6, .int .i64 ya7, .int .i64 ya8, .int .i64 ya9, .int .i64 ya10] 40) = W10 at *
        generalize wy.heap.size = gy at *
        have HLgy := Lib.hid (HXgy.out.lt (Nat.zero_lt_succ _))
        replace HRP := Lib.hid (HRP.out.on HBM.out)
        replace HRQ := Lib.hid (HRQ.out.on HBM.out)
        have HBW8 := Lib.hid (HBW7.out.trans (HBM.out.mono (by rw [← hg]; exact HBW7.out.size)))
        have HC8 : Hid (∀ wr, Below W10.heap.size W10 wr → wr.cell? ⟨g, 0, none⟩ = some (.slice p.pa PL p.pc) ∧ wr.cell? ⟨g + 1, 0, none⟩ = some (.int .i64 6) ∧ wr.cell? ⟨g + 1, 1, none⟩ = some (.int .i64 f) ∧ wr.cell? ⟨g + 1, 2, none⟩ = some (.int .i64 b) ∧ wr.cell? ⟨g + 1, 5, none⟩ = some (.int .i64 pos) ∧ wr.cell? ⟨gq, 0, none⟩ = some (.slice q.pa QL q.pc) ∧ wr.cell? ⟨gx, 0, none⟩ = some (.int .i64 x0_) ∧ wr.cell? ⟨gx, 1, none⟩ = some (.int .i64 x1_) ∧ wr.cell? ⟨gx, 2, none⟩ = some (.int .i64 x2_) ∧ wr.cell? ⟨gx, 3, none⟩ = some (.int .i64 x3_) ∧ wr.cell? ⟨gx, 4, none⟩ = some (.int .i64 x4_) ∧ wr.cell? ⟨gx, 5, none⟩ = some (.int .i64 x5_) ∧ wr.cell? ⟨gx, 6, none⟩ = some (.int .i64 x6_) ∧ wr.cell? ⟨gx, 7, none⟩ = some (.int .i64 x7_) ∧ wr.cell? ⟨gx, 8, none⟩ = some (.int .i64 x8_) ∧ wr.cell? ⟨gx, 9, none⟩ = some (.int .i64 x9_) ∧ wr.cell? ⟨gx, 10, none⟩ = some (.int .i64 x10_) ∧ True) := Lib.hid fun wr hb => have h := HC7.out wr (HBM.out.trans (hb.mono HBM.out.size)); ⟨h.1, h.2.1, h.2.2.1, h.2.2.2.1, h.2.2.2.2.1, h.2.2.2.2.2.1, h.2.2.2.2.2.2.1, h.2.2.2.2.2.2.2.1, h.2.2.2.2.2.2.2.2.1, h.2.2.2.2.2.2.2.2.2.1, h.2.2.2.2.2.2.2.2.2.2.1, h.2.2.2.2.2.2.2.2.2.2.2.1, h.2.2.2.2.2.2.2.2.2.2.2.2.1, h.2.2.2.2.2.2.2.2.2.2.2.2.2.1, h.2.2.2.2.2.2.2.2.2.2.2.2.2.2.1, h.2.2.2.2.2.2.2.2.2.2.2.2.2.2.2.1, h.2.2.2.2.2.2.2.2.2.2.2.2.2.2.2.2.1, trivial⟩
        clear HC7 HBM
        have HBN : Hid (Below W10.heap.size W10 W10) := Lib.hid (Below.refl _ _)
        obtain ⟨k0, k1, k2, k3, k4, k5, k6, k7, k8, k9, k10, k11, k12, k13, k14, k15, k16, -⟩ := HC8.out _ HBN.out
        go_wp2_with fail
        go_ret
        exact ⟨rfl, HBW8.out.trans (HBN.out.mono (by rw [← hg]; exact HBW8.out.size))⟩
    ·
        have hld : k < pos := by omega
        go_upto_region 19 with (go_at_call 19; refine (HAZ.out _ (HRQ.out.on HBN.out) _).mono ?_; rintro x wy ⟨⟨ya0, ya1, ya2, ya3, ya4, ya5, ya6, ya7, ya8, ya9, ya10, rrya, rfl⟩, hbn⟩; have hbx := HBN.out.trans (hbn.mono HBN.out.size); clear HBN hbn k0 k1 k2 k3 k4 k5 k6 k7 k8 k9 k10 k11 k12 k13 k14 k15 k16; have HBN := Lib.hid hbx; clear hbx; obtain ⟨k0, k1, k2, k3, k4, k5, k6, k7, k8, k9, k10, k11, k12, k13, k14, k15, k16, -⟩ := HC7.out _ HBN.out)
        have hb_ := below1 wy (.cells #[.int .i64 ya0, .int .i64 ya1, .int .i64 ya2, .int .i64 ya3, .int .i64 ya4, .int .i64 ya5, .int .i64 ya6, .int .i64 ya7, .int .i64 ya8, .int .i64 ya9, .int .i64 ya10] 40)
        have HXgy : Hid (BoxL (wy.alloc (.cells #[.int .i64 ya0, .int .i64 ya1, .int .i64 ya2, .int .i64 ya3, .int .i64 ya4, .int .i64 ya5, .int .i64 ya6, .int .i64 ya7, .int .i64 ya8, .int .i64 ya9, .int .i64 ya10] 40)) wy.heap.size [.int .i64 ya0, .int .i64 ya1, .int .i64 ya2, .int .i64 ya3, .int .i64 ya4, .int .i64 ya5, .int .i64 ya6, .int .i64 ya7, .int .i64 ya8, .int .i64 ya9, .int .i64 ya10]) := Lib.hid (BoxL.new wy _ _)
        have HBM := Lib.hid (HBN.out.trans (hb_.mono HBN.out.size))
        clear hb_ HBN k0 k1 k2 k3 k4 k5 k6 k7 k8 k9 k10 k11 k12 k13 k14 k15 k16
        generalize wy.alloc (.cells #[.int .i64 ya0, .int .i64 ya1, .int .i64 ya2, .int .i64 ya3, .int .i64 ya4, .int .i64 ya5, .int .i64 ya6, .int .i64 ya7, .int .i64 ya8, .int .i64 ya9, .int .i64 ya10] 40) = W10 at *
        generalize wy.heap.size = gy at *
        have HLgy := Lib.hid (HXgy.out.lt (Nat.zero_lt_succ _))
        replace HRP := Lib.hid (HRP.out.on HBM.out)
        replace HRQ := Lib.hid (HRQ.out.on HBM.out)
        have HBW8 := Lib.hid (HBW7.out.trans (HBM.out.mono (by rw [← hg]; exact HBW7.out.size)))
        have HC8 : Hid (∀ wr, Below W10.heap.size W10 wr → wr.cell? ⟨g, 0, none⟩ = some (.slice p.pa PL p.pc) ∧ wr.cell? ⟨g + 1, 0, none⟩ = some (.int .i64 6) ∧ wr.cell? ⟨g + 1, 1, none⟩ = some (.int .i64 f) ∧ wr.cell? ⟨g + 1, 2, none⟩ = some (.int .i64 b) ∧ wr.cell? ⟨g + 1, 5, none⟩ = some (.int .i64 pos) ∧ wr.cell? ⟨gq, 0, none⟩ = some (.slice q.pa QL q.pc) ∧ wr.cell? ⟨gx, 0, none⟩ = some (.int .i64 x0_) ∧ wr.cell? ⟨gx, 1, none⟩ = some (.int .i64 x1_) ∧ wr.cell? ⟨gx, 2, none⟩ = some (.int .i64 x2_) ∧ wr.cell? ⟨gx, 3, none⟩ = some (.int .i64 x3_) ∧ wr.cell? ⟨gx, 4, none⟩ = some (.int .i64 x4_) ∧ wr.cell? ⟨gx, 5, none⟩ = some (.int .i64 x5_) ∧ wr.cell? ⟨gx, 6, none⟩ = some (.int .i64 x6_) ∧ wr.cell? ⟨gx, 7, none⟩ = some (.int .i64 x7_) ∧ wr.cell? ⟨gx, 8, none⟩ = some (.int .i64 x8_) ∧ wr.cell? ⟨gx, 9, none⟩ = some (.int .i64 x9_) ∧ wr.cell? ⟨gx, 10, none⟩ = some (.int .i64 x10_) ∧ True) := Lib.hid fun wr hb => have h := HC7.out wr (HBM.out.trans (hb.mono HBM.out.size)); ⟨h.1, h.2.1, h.2.2.1, h.2.2.2.1, h.2.2.2.2.1, h.2.2.2.2.2.1, h.2.2.2.2.2.2.1, h.2.2.2.2.2.2.2.1, h.2.2.2.2.2.2.2.2.1, h.2.2.2.2.2.2.2.2.2.1, h.2.2.2.2.2.2.2.2.2.2.1, h.2.2.2.2.2.2.2.2.2.2.2.1, h.2.2.2.2.2.2.2.2.2.2.2.2.1, h.2.2.2.2.2.2.2.2.2.2.2.2.2.1, h.2.2.2.2.2.2.2.2.2.2.2.2.2.2.1, h.2.2.2.2.2.2.2.2.2.2.2.2.2.2.2.1, h.2.2.2.2.2.2.2.2.2.2.2.2.2.2.2.2.1, trivial⟩
        clear HC7 HBM
        have HBN : Hid (Below W10.heap.size W10 W10) := Lib.hid (Below.refl _ _)
        obtain ⟨k0, k1, k2, k3, k4, k5, k6, k7, k8, k9, k10, k11, k12, k13, k14, k15, k16, -⟩ := HC8.out _ HBN.out
        go_wp2_with fail
        go_ret
        exact ⟨rfl, HBW8.out.trans (HBN.out.mono (by rw [← hg]; exact HBW8.out.size))⟩
end Go.Proofs.YtbddjneinfkmpaaGreatDoor

namespace Go.Proofs.YtbddjneinfkmpaaGreatDoor
open Go Go.RowKit Go.Sort

set_option maxRecDepth 100000 in
set_option maxHeartbeats 16000000 in
theorem code7 (p : Pg) (e : Ed) (k : Int) (w : World) (h : Rd w p) (hwf : p.wf) (hfew : p.few) (hop : e.op = 7) (hc : chk p e = 0) :
    Calls Tryz.prog 12 #[p.val, e.val, .int .i64 k] w fun x w' => x = .returned (.bool true) ∧ Below w.heap.size w w' := by
  have HAW := Lib.hid (fun wr (h : Rd wr p) => awake8_any wr h.2.1 h.2.2)
  have HFE := Lib.hid (fun wr (h : Rd wr p) => Few_any p wr h.1 true (by simp [hfew]))
  have her := hc
  have HAP := Lib.hid (fun wr (h : Rd wr p) => Apply_any p e wr h hfew hwf)
  simp only [AppRes, her] at HAP
  have hac := app_code hc (by omega)
  have HQF := Lib.hid (fun (q : Pg) (hq : q.d = (appP p e).d) => (Pg.few_of_d hq).2 (few_app hfew e))
  have HQB := Lib.hid (fun (q : Pg) (hq : q.d = (appP p e).d) (z : Int) => show atB q e.f e.b z = atB (appP p e) e.f e.b z from by rw [← atB_d q, hq, atB_d])
  have HQR := Lib.hid (fun (q : Pg) (hq : q.d = (appP p e).d) (z : Int) => show atR q e.f e.b z = atR (appP p e) e.f e.b z from by rw [← atR_d q, hq, atR_d])
  obtain ⟨nid, hnid⟩ : ∃ z, newId p = z := ⟨_, rfl⟩
  have HNI := Lib.hid (fun wr (h : Rd wr p) => (NewId_any p wr h.1 h.2.1 h.2.2 hfew).mono (R' := fun x w' => x = .returned (.int .i64 nid) ∧ Below wr.heap.size wr w') fun x w' ⟨⟨z, hx, hz⟩, hb⟩ => ⟨by rw [hx, newId_eq hz, hnid], hb⟩)
  rw [hnid] at hac
  clear hnid
  obtain ⟨X, hX⟩ : ∃ X, atR p e.f e.b k = X := ⟨_, rfl⟩
  have HKB := Lib.hid (fun (h : atB p e.f e.b k = true) => at_few hfew h)
  have HTQ : Hid (e.op = 7 → e.pos = k → atB p e.f e.b k = true) := Lib.hid fun h7 h => h ▸ hac.2.1 h7
  obtain ⟨th, hth⟩ : ∃ r, atB p e.f e.b k = r := ⟨_, rfl⟩
  have HPT := Lib.hid (fun wr (h : Rd wr p) => At_any p e.f e.b k wr h.1 h.2.1 h.2.2 hfew X hX th hth)
  obtain ⟨A0, hA0⟩ : ∃ A0, appP p e = A0 := ⟨_, rfl⟩
  simp only [hA0] at hac HQB HQR HQF HAP
  clear hA0
  have HL : Hid (th = true → k ≠ e.pos → e.pos ≤ k → atB A0 e.f e.b (k - 1) = true ∧ atR A0 e.f e.b (k - 1) = X) := Lib.hid fun ht hne hle => by
    have h := hac.2.2 k (hth.trans ht) (fun _ => hne)
    rw [hX, if_neg (by omega), if_pos hle] at h
    exact h
  have HG : Hid (th = true → k ≠ e.pos → ¬ e.pos ≤ k → atB A0 e.f e.b k = true ∧ atR A0 e.f e.b k = X) := Lib.hid fun ht hne hle => by
    have h := hac.2.2 k (hth.trans ht) (fun _ => hne)
    rw [hX, if_neg (by omega), if_neg hle, Int.add_zero] at h
    exact h
  have HTR : Hid (e.pos = k → th = true) := Lib.hid fun h => hth.symm.trans (HTQ.out hop h)
  have HKR : Hid (th = true → 0 ≤ k ∧ k < 30) := Lib.hid fun h => HKB.out (hth.trans h)
  clear hX hac hth HKB HTQ
  have HRD0 := Lib.hid h
  clear h hfew hwf hc her
  obtain ⟨op, f, b, tob, other, pos, ⟨id, kind, dst, a, b2, c, f2, n, x0, x1, x2⟩⟩ := e
  try dsimp only at *
  subst hop
  obtain ⟨x0_, x1_, x2_, x3_, x4_, x5_, x6_, x7_, x8_, x9_, x10_⟩ := X
  unfold Ins.val at HPT
  dsimp only at HPT
  unfold Pg.val at HFE HAP HNI HPT
  unfold Ed.val at HAP
  unfold Pg.val Ed.val
  try dsimp only at *
  obtain ⟨PL, hPL⟩ : ∃ PL, p.funs.length = PL := ⟨_, rfl⟩
  simp only [hPL] at HFE HAP HNI HPT ⊢
  clear hPL
  have HBb := Lib.hid (below2 w (.cells #[.slice p.pa PL p.pc] 24) (.cells #[.int .i64 7, .int .i64 f, .int .i64 b, .int .i64 tob, .int .i64 other, .int .i64 pos, .int .i64 id, .int .i64 kind, .int .i64 dst, .int .i64 a, .int .i64 b2, .int .i64 c, .int .i64 f2, .int .i64 n, .int .i64 x0, .int .i64 x1, .int .i64 x2] 55))
  have hx0 := BoxL.new w [.slice p.pa PL p.pc] 24
  have HX0 := Lib.hid (show BoxL ((w.alloc (.cells #[.slice p.pa PL p.pc] 24)).alloc (.cells #[.int .i64 7, .int .i64 f, .int .i64 b, .int .i64 tob, .int .i64 other, .int .i64 pos, .int .i64 id, .int .i64 kind, .int .i64 dst, .int .i64 a, .int .i64 b2, .int .i64 c, .int .i64 f2, .int .i64 n, .int .i64 x0, .int .i64 x1, .int .i64 x2] 55)) (w.heap.size) [.slice p.pa PL p.pc] from (hx0).alloc (Nat.zero_lt_succ _) (.cells #[.int .i64 7, .int .i64 f, .int .i64 b, .int .i64 tob, .int .i64 other, .int .i64 pos, .int .i64 id, .int .i64 kind, .int .i64 dst, .int .i64 a, .int .i64 b2, .int .i64 c, .int .i64 f2, .int .i64 n, .int .i64 x0, .int .i64 x1, .int .i64 x2] 55))
  have hx1 := BoxL.new (w.alloc (.cells #[.slice p.pa PL p.pc] 24)) [.int .i64 7, .int .i64 f, .int .i64 b, .int .i64 tob, .int .i64 other, .int .i64 pos, .int .i64 id, .int .i64 kind, .int .i64 dst, .int .i64 a, .int .i64 b2, .int .i64 c, .int .i64 f2, .int .i64 n, .int .i64 x0, .int .i64 x1, .int .i64 x2] 55
  rw [World.size_alloc] at hx1
  have HX1 := Lib.hid (show BoxL ((w.alloc (.cells #[.slice p.pa PL p.pc] 24)).alloc (.cells #[.int .i64 7, .int .i64 f, .int .i64 b, .int .i64 tob, .int .i64 other, .int .i64 pos, .int .i64 id, .int .i64 kind, .int .i64 dst, .int .i64 a, .int .i64 b2, .int .i64 c, .int .i64 f2, .int .i64 n, .int .i64 x0, .int .i64 x1, .int .i64 x2] 55)) (w.heap.size + 1) [.int .i64 7, .int .i64 f, .int .i64 b, .int .i64 tob, .int .i64 other, .int .i64 pos, .int .i64 id, .int .i64 kind, .int .i64 dst, .int .i64 a, .int .i64 b2, .int .i64 c, .int .i64 f2, .int .i64 n, .int .i64 x0, .int .i64 x1, .int .i64 x2] from hx1)
  clear hx0 hx1
  have HRP := Lib.hid (HRD0.out.on HBb.out)
  generalize hW : ((w.alloc (.cells #[.slice p.pa PL p.pc] 24)).alloc (.cells #[.int .i64 7, .int .i64 f, .int .i64 b, .int .i64 tob, .int .i64 other, .int .i64 pos, .int .i64 id, .int .i64 kind, .int .i64 dst, .int .i64 a, .int .i64 b2, .int .i64 c, .int .i64 f2, .int .i64 n, .int .i64 x0, .int .i64 x1, .int .i64 x2] 55)) = W at HBb HX0 HX1 HRP
  obtain ⟨g, hg⟩ : ∃ g, w.heap.size = g := ⟨_, rfl⟩
  have HGL := Lib.hid HBb.out.size
  rw [hg] at HBb HGL HX0 HX1 ⊢
  have HL0 := Lib.hid (HX0.out.lt (Nat.zero_lt_succ _))
  have HL1 := Lib.hid (HX1.out.lt (Nat.zero_lt_succ _))
  have HC : Hid (∀ wr, Below W.heap.size W wr → wr.cell? ⟨g, 0, none⟩ = some (.slice p.pa PL p.pc) ∧ wr.cell? ⟨g + 1, 0, none⟩ = some (.int .i64 7) ∧ wr.cell? ⟨g + 1, 1, none⟩ = some (.int .i64 f) ∧ wr.cell? ⟨g + 1, 2, none⟩ = some (.int .i64 b) ∧ wr.cell? ⟨g + 1, 5, none⟩ = some (.int .i64 pos) ∧ wr.rangeAt (g + 1) 0 [.int .i64 7, .int .i64 f, .int .i64 b, .int .i64 tob, .int .i64 other, .int .i64 pos, .int .i64 id, .int .i64 kind, .int .i64 dst, .int .i64 a, .int .i64 b2, .int .i64 c, .int .i64 f2, .int .i64 n, .int .i64 x0, .int .i64 x1, .int .i64 x2] ∧ True) := Lib.hid fun wr hb => ⟨((HX0.out.below hb HL0.out) 0 _ rfl).1, ((HX1.out.below hb HL1.out) 0 _ rfl).1, ((HX1.out.below hb HL1.out) 1 _ rfl).1, ((HX1.out.below hb HL1.out) 2 _ rfl).1, ((HX1.out.below hb HL1.out) 5 _ rfl).1, (HX1.out.below hb HL1.out).range, trivial⟩
  have HBN : Hid (Below W.heap.size W W) := Lib.hid (Below.refl _ _)
  obtain ⟨k0, k1, k2, k3, k4, -, -⟩ := HC.out _ HBN.out
  go_enter Tryz.func12, Tryz.ntmps12
  go_upto_region 4 with (first
    | (go_at_call 47; refine (HAW.out _ (HRP.out.on HBN.out)).mono ?_; rintro x wa ⟨rfl, hbn⟩; have hbx := HBN.out.trans (hbn.mono HBN.out.size); clear HBN hbn k0 k1 k2 k3 k4; have HBN := Lib.hid hbx; clear hbx; obtain ⟨k0, k1, k2, k3, k4, -, -⟩ := HC.out _ HBN.out)
    | (go_at_call 14; refine (HFE.out _ (HRP.out.on HBN.out)).mono ?_; rintro x wb ⟨rfl, hbn⟩; have hbx := HBN.out.trans (hbn.mono HBN.out.size); clear HBN hbn k0 k1 k2 k3 k4; have HBN := Lib.hid hbx; clear hbx; obtain ⟨k0, k1, k2, k3, k4, -, -⟩ := HC.out _ HBN.out))
  go_upto_region 5 with (first
    | (go_at_call 49; refine (HAP.out _ (HRP.out.on HBN.out)).mono ?_; rintro x we ⟨q, rfl, hqi, -, hqd, hbn⟩; have HQI := Lib.hid hqi; have HQD := Lib.hid hqd; clear hqi hqd; have hbx := HBN.out.trans (hbn.mono HBN.out.size); clear HBN hbn k0 k1 k2 k3 k4; have HBN := Lib.hid hbx; clear hbx; obtain ⟨k0, k1, k2, k3, k4, -, -⟩ := HC.out _ HBN.out)
    | ((with_reducible apply wpList_load_w (ty := 55) (b := g + 1) (o := 0) (cs := [.int .i64 7, .int .i64 f, .int .i64 b, .int .i64 tob, .int .i64 other, .int .i64 pos, .int .i64 id, .int .i64 kind, .int .i64 dst, .int .i64 a, .int .i64 b2, .int .i64 c, .int .i64 f2, .int .i64 n, .int .i64 x0, .int .i64 x1, .int .i64 x2])); rotate_left; rfl; rfl; exact (HC.out _ HBN.out).2.2.2.2.2.1; exact Tryz.underlying55; rfl; kernel_rfl; rotate_left; rfl; simp only [Act.put, List.setIfInBounds_toArray, List.set_cons_zero, List.set_cons_succ]))
  obtain ⟨QL, hQL⟩ : ∃ QL, q.funs.length = QL := ⟨_, rfl⟩
  have HQL := Lib.hid hQL
  simp only [hQL]
  clear hQL
  have hb_ := below1 we (.cells #[.slice q.pa QL q.pc] 24)
  have HXgq : Hid (BoxL (we.alloc (.cells #[.slice q.pa QL q.pc] 24)) we.heap.size [.slice q.pa QL q.pc]) := Lib.hid (BoxL.new we _ _)
  have HRQ := Lib.hid (show Rd (we.alloc (.cells #[.slice q.pa QL q.pc] 24)) q from (show Rd we q from ⟨HQI.out, (HRP.out.on HBN.out).2.1, (HRP.out.on HBN.out).2.2⟩).on hb_)
  have HBM := Lib.hid (HBN.out.trans (hb_.mono HBN.out.size))
  clear hb_ HBN k0 k1 k2 k3 k4
  generalize we.alloc (.cells #[.slice q.pa QL q.pc] 24) = W5 at *
  generalize we.heap.size = gq at *
  have HLgq := Lib.hid (HXgq.out.lt (Nat.zero_lt_succ _))
  replace HRP := Lib.hid (HRP.out.on HBM.out)
  have HBW1 := Lib.hid (HBb.out.trans (HBM.out.mono (by rw [← hg]; exact HBb.out.size)))
  have HC1 : Hid (∀ wr, Below W5.heap.size W5 wr → wr.cell? ⟨g, 0, none⟩ = some (.slice p.pa PL p.pc) ∧ wr.cell? ⟨g + 1, 0, none⟩ = some (.int .i64 7) ∧ wr.cell? ⟨g + 1, 1, none⟩ = some (.int .i64 f) ∧ wr.cell? ⟨g + 1, 2, none⟩ = some (.int .i64 b) ∧ wr.cell? ⟨g + 1, 5, none⟩ = some (.int .i64 pos) ∧ wr.rangeAt (g + 1) 0 [.int .i64 7, .int .i64 f, .int .i64 b, .int .i64 tob, .int .i64 other, .int .i64 pos, .int .i64 id, .int .i64 kind, .int .i64 dst, .int .i64 a, .int .i64 b2, .int .i64 c, .int .i64 f2, .int .i64 n, .int .i64 x0, .int .i64 x1, .int .i64 x2] ∧ wr.cell? ⟨gq, 0, none⟩ = some (.slice q.pa QL q.pc) ∧ True) := Lib.hid fun wr hb => have h := HC.out wr (HBM.out.trans (hb.mono HBM.out.size)); ⟨h.1, h.2.1, h.2.2.1, h.2.2.2.1, h.2.2.2.2.1, h.2.2.2.2.2.1, ((HXgq.out.below hb HLgq.out) 0 _ rfl).1, trivial⟩
  clear HC HBM
  have HBN : Hid (Below W5.heap.size W5 W5) := Lib.hid (Below.refl _ _)
  obtain ⟨k0, k1, k2, k3, k4, -, k6, -⟩ := HC1.out _ HBN.out
  have hqf := HQF.out q HQD.out
  have HAZ := Lib.hid (fun wr (h : Rd wr q) (z : Int) => At_some q f b z wr h hqf)
  unfold Pg.val at HAZ
  simp only [HQL.out] at HAZ
  have HQFW := Lib.hid hqf
  clear hqf
  go_upto_region 8 with (go_at_call 19; refine (HAZ.out _ (HRQ.out.on HBN.out) _).mono ?_; rintro x wi ⟨⟨ia0, ia1, ia2, ia3, ia4, ia5, ia6, ia7, ia8, ia9, ia10, rria, rfl⟩, hbn⟩; have hbx := HBN.out.trans (hbn.mono HBN.out.size); clear HBN hbn k0 k1 k2 k3 k4 k6; have HBN := Lib.hid hbx; clear hbx; obtain ⟨k0, k1, k2, k3, k4, -, k6, -⟩ := HC1.out _ HBN.out)
  have hb_ := below1 wi (.cells #[.int .i64 ia0, .int .i64 ia1, .int .i64 ia2, .int .i64 ia3, .int .i64 ia4, .int .i64 ia5, .int .i64 ia6, .int .i64 ia7, .int .i64 ia8, .int .i64 ia9, .int .i64 ia10] 40)
  have HXgi : Hid (BoxL (wi.alloc (.cells #[.int .i64 ia0, .int .i64 ia1, .int .i64 ia2, .int .i64 ia3, .int .i64 ia4, .int .i64 ia5, .int .i64 ia6, .int .i64 ia7, .int .i64 ia8, .int .i64 ia9, .int .i64 ia10] 40)) wi.heap.size [.int .i64 ia0, .int .i64 ia1, .int .i64 ia2, .int .i64 ia3, .int .i64 ia4, .int .i64 ia5, .int .i64 ia6, .int .i64 ia7, .int .i64 ia8, .int .i64 ia9, .int .i64 ia10]) := Lib.hid (BoxL.new wi _ _)
  have HBM := Lib.hid (HBN.out.trans (hb_.mono HBN.out.size))
  clear hb_ HBN k0 k1 k2 k3 k4 k6
  generalize wi.alloc (.cells #[.int .i64 ia0, .int .i64 ia1, .int .i64 ia2, .int .i64 ia3, .int .i64 ia4, .int .i64 ia5, .int .i64 ia6, .int .i64 ia7, .int .i64 ia8, .int .i64 ia9, .int .i64 ia10] 40) = W6 at *
  generalize wi.heap.size = gi at *
  have HLgi := Lib.hid (HXgi.out.lt (Nat.zero_lt_succ _))
  replace HRP := Lib.hid (HRP.out.on HBM.out)
  replace HRQ := Lib.hid (HRQ.out.on HBM.out)
  have HBW2 := Lib.hid (HBW1.out.trans (HBM.out.mono (by rw [← hg]; exact HBW1.out.size)))
  have HC2 : Hid (∀ wr, Below W6.heap.size W6 wr → wr.cell? ⟨g, 0, none⟩ = some (.slice p.pa PL p.pc) ∧ wr.cell? ⟨g + 1, 0, none⟩ = some (.int .i64 7) ∧ wr.cell? ⟨g + 1, 1, none⟩ = some (.int .i64 f) ∧ wr.cell? ⟨g + 1, 2, none⟩ = some (.int .i64 b) ∧ wr.cell? ⟨g + 1, 5, none⟩ = some (.int .i64 pos) ∧ wr.rangeAt (g + 1) 0 [.int .i64 7, .int .i64 f, .int .i64 b, .int .i64 tob, .int .i64 other, .int .i64 pos, .int .i64 id, .int .i64 kind, .int .i64 dst, .int .i64 a, .int .i64 b2, .int .i64 c, .int .i64 f2, .int .i64 n, .int .i64 x0, .int .i64 x1, .int .i64 x2] ∧ wr.cell? ⟨gq, 0, none⟩ = some (.slice q.pa QL q.pc) ∧ True) := Lib.hid fun wr hb => have h := HC1.out wr (HBM.out.trans (hb.mono HBM.out.size)); ⟨h.1, h.2.1, h.2.2.1, h.2.2.2.1, h.2.2.2.2.1, h.2.2.2.2.2.1, h.2.2.2.2.2.2.1, trivial⟩
  clear HC1 HBM
  have HBN : Hid (Below W6.heap.size W6 W6) := Lib.hid (Below.refl _ _)
  obtain ⟨k0, k1, k2, k3, k4, -, k6, -⟩ := HC2.out _ HBN.out
  go_upto_region 9 with (first | ((with_reducible apply wpList_load_w (ty := 40) (b := g + 1) (o := 6) (cs := [.int .i64 id, .int .i64 kind, .int .i64 dst, .int .i64 a, .int .i64 b2, .int .i64 c, .int .i64 f2, .int .i64 n, .int .i64 x0, .int .i64 x1, .int .i64 x2])); rotate_left; rfl; rfl; exact range_sub ((HC2.out _ HBN.out).2.2.2.2.2.1); exact Tryz.underlying40; rfl; kernel_rfl; rotate_left; rfl; simp only [Act.put, List.setIfInBounds_toArray, List.set_cons_zero, List.set_cons_succ]))
  have HRPs := HRP
  have HRQs := HRQ
  have HBWs := HBW2
  have HC3 : Hid (∀ wr, Below W6.heap.size W6 wr → wr.cell? ⟨g, 0, none⟩ = some (.slice p.pa PL p.pc) ∧ wr.cell? ⟨g + 1, 0, none⟩ = some (.int .i64 7) ∧ wr.cell? ⟨g + 1, 1, none⟩ = some (.int .i64 f) ∧ wr.cell? ⟨g + 1, 2, none⟩ = some (.int .i64 b) ∧ wr.cell? ⟨g + 1, 5, none⟩ = some (.int .i64 pos) ∧ wr.cell? ⟨gq, 0, none⟩ = some (.slice q.pa QL q.pc) ∧ True) := Lib.hid fun wr hb => have h := HC2.out wr hb; ⟨h.1, h.2.1, h.2.2.1, h.2.2.2.1, h.2.2.2.2.1, h.2.2.2.2.2.2.1, trivial⟩
  clear HC2 k0 k1 k2 k3 k4 k6
  obtain ⟨k0, k1, k2, k3, k4, k5, -⟩ := HC3.out _ HBN.out
  have hb_ := below1 W6 (.cells #[.int .i64 id, .int .i64 kind, .int .i64 dst, .int .i64 a, .int .i64 b2, .int .i64 c, .int .i64 f2, .int .i64 n, .int .i64 x0, .int .i64 x1, .int .i64 x2] 40)
  have HXgj : Hid (BoxL (W6.alloc (.cells #[.int .i64 id, .int .i64 kind, .int .i64 dst, .int .i64 a, .int .i64 b2, .int .i64 c, .int .i64 f2, .int .i64 n, .int .i64 x0, .int .i64 x1, .int .i64 x2] 40)) W6.heap.size [.int .i64 id, .int .i64 kind, .int .i64 dst, .int .i64 a, .int .i64 b2, .int .i64 c, .int .i64 f2, .int .i64 n, .int .i64 x0, .int .i64 x1, .int .i64 x2]) := Lib.hid (BoxL.new W6 _ _)
  have HBM := Lib.hid (HBN.out.trans (hb_.mono HBN.out.size))
  clear hb_ HBN k0 k1 k2 k3 k4 k5
  generalize W6.alloc (.cells #[.int .i64 id, .int .i64 kind, .int .i64 dst, .int .i64 a, .int .i64 b2, .int .i64 c, .int .i64 f2, .int .i64 n, .int .i64 x0, .int .i64 x1, .int .i64 x2] 40) = W7 at *
  generalize hsz : W6.heap.size = gj at *
  have HLgj := Lib.hid (HXgj.out.lt (Nat.zero_lt_succ _))
  replace HRP := Lib.hid (HRP.out.on (by rw [hsz]; exact HBM.out))
  replace HRQ := Lib.hid (HRQ.out.on (by rw [hsz]; exact HBM.out))
  have HBW4 := Lib.hid (HBW2.out.trans (HBM.out.mono (by rw [← hg, ← hsz]; exact HBW2.out.size)))
  have HC4 : Hid (∀ wr, Below W7.heap.size W7 wr → wr.cell? ⟨g, 0, none⟩ = some (.slice p.pa PL p.pc) ∧ wr.cell? ⟨g + 1, 0, none⟩ = some (.int .i64 7) ∧ wr.cell? ⟨g + 1, 1, none⟩ = some (.int .i64 f) ∧ wr.cell? ⟨g + 1, 2, none⟩ = some (.int .i64 b) ∧ wr.cell? ⟨g + 1, 5, none⟩ = some (.int .i64 pos) ∧ wr.cell? ⟨gq, 0, none⟩ = some (.slice q.pa QL q.pc) ∧ wr.cell? ⟨gj, 0, none⟩ = some (.int .i64 id) ∧ wr.frozen? ⟨gj, 0, none⟩ = false ∧ True) := Lib.hid fun wr hb => have h := HC3.out wr (HBM.out.trans (hb.mono (by rw [← hsz]; exact HBM.out.size))); ⟨h.1, h.2.1, h.2.2.1, h.2.2.2.1, h.2.2.2.2.1, h.2.2.2.2.2.1, ((HXgj.out.below hb HLgj.out) 0 _ rfl).1, ((HXgj.out.below hb HLgj.out) 0 _ rfl).2, trivial⟩
  have HBMs := HBM
  have HCs := HC3
  clear HC3 HBM
  have HBN : Hid (Below W7.heap.size W7 W7) := Lib.hid (Below.refl _ _)
  obtain ⟨k0, k1, k2, k3, k4, k5, k6, k7, -⟩ := HC4.out _ HBN.out
  go_upto_region 10 with (go_at_call 34; refine (HNI.out _ (HRP.out.on HBN.out)).mono ?_; rintro x wj ⟨rfl, hbn⟩; have hbx := HBN.out.trans (hbn.mono HBN.out.size); clear HBN hbn k0 k1 k2 k3 k4 k5 k6 k7; have HBN := Lib.hid hbx; clear hbx; obtain ⟨k0, k1, k2, k3, k4, k5, k6, k7, -⟩ := HC4.out _ HBN.out)
  have HXgj2 : Hid (BoxL (wj.setCell ⟨gj, 0, none⟩ (.int .i64 nid)) gj [.int .i64 nid, .int .i64 kind, .int .i64 dst, .int .i64 a, .int .i64 b2, .int .i64 c, .int .i64 f2, .int .i64 n, .int .i64 x0, .int .i64 x1, .int .i64 x2]) := Lib.hid ((HXgj.out.below HBN.out HLgj.out).put 0 (.int .i64 nid) (by simp))
  have HBM : Hid (Below gj W6 (wj.setCell ⟨gj, 0, none⟩ (.int .i64 nid))) := Lib.hid ((HBMs.out.trans (HBN.out.mono (by rw [← hsz]; exact HBMs.out.size))).setCell (p := ⟨gj, 0, none⟩) (Nat.le_refl _) _)
  clear HBN HBMs k0 k1 k2 k3 k4 k5 k6 k7
  generalize wj.setCell ⟨gj, 0, none⟩ (.int .i64 nid) = W8 at *
  have HBX8 := Lib.hid (HBWs.out.trans (HBM.out.mono (by rw [← hg, ← hsz]; exact HBWs.out.size)))
  have HLgj2 := Lib.hid (HXgj2.out.lt (Nat.zero_lt_succ _))
  replace HRP := Lib.hid (HRPs.out.on (by rw [hsz]; exact HBM.out))
  replace HRQ := Lib.hid (HRQs.out.on (by rw [hsz]; exact HBM.out))
  have HC5 : Hid (∀ wr, Below W8.heap.size W8 wr → wr.cell? ⟨g, 0, none⟩ = some (.slice p.pa PL p.pc) ∧ wr.cell? ⟨g + 1, 0, none⟩ = some (.int .i64 7) ∧ wr.cell? ⟨g + 1, 1, none⟩ = some (.int .i64 f) ∧ wr.cell? ⟨g + 1, 2, none⟩ = some (.int .i64 b) ∧ wr.cell? ⟨g + 1, 5, none⟩ = some (.int .i64 pos) ∧ wr.cell? ⟨gq, 0, none⟩ = some (.slice q.pa QL q.pc) ∧ True) := Lib.hid fun wr hb => have h := HCs.out wr (HBM.out.trans (hb.mono (by rw [← hsz]; exact HBM.out.size))); ⟨h.1, h.2.1, h.2.2.1, h.2.2.2.1, h.2.2.2.2.1, h.2.2.2.2.2.1, trivial⟩
  clear HC4 HCs
  have HBN : Hid (Below W8.heap.size W8 W8) := Lib.hid (Below.refl _ _)
  obtain ⟨k0, k1, k2, k3, k4, k5, -⟩ := HC5.out _ HBN.out
  clear HBM
  go_upto_region 12 with fail
  go_upto_region 13 with (go_at_call 19; refine (HPT.out _ (HRP.out.on HBN.out)).mono ?_; rintro x wx ⟨rfl, hbn⟩; have hbx := HBN.out.trans (hbn.mono HBN.out.size); clear HBN hbn k0 k1 k2 k3 k4 k5; have HBN := Lib.hid hbx; clear hbx; obtain ⟨k0, k1, k2, k3, k4, k5, -⟩ := HC5.out _ HBN.out)
  have hb_ := below1 wx (.cells #[.int .i64 x0_, .int .i64 x1_, .int .i64 x2_, .int .i64 x3_, .int .i64 x4_, .int .i64 x5_, .int .i64 x6_, .int .i64 x7_, .int .i64 x8_, .int .i64 x9_, .int .i64 x10_] 40)
  have HXgx : Hid (BoxL (wx.alloc (.cells #[.int .i64 x0_, .int .i64 x1_, .int .i64 x2_, .int .i64 x3_, .int .i64 x4_, .int .i64 x5_, .int .i64 x6_, .int .i64 x7_, .int .i64 x8_, .int .i64 x9_, .int .i64 x10_] 40)) wx.heap.size [.int .i64 x0_, .int .i64 x1_, .int .i64 x2_, .int .i64 x3_, .int .i64 x4_, .int .i64 x5_, .int .i64 x6_, .int .i64 x7_, .int .i64 x8_, .int .i64 x9_, .int .i64 x10_]) := Lib.hid (BoxL.new wx _ _)
  have HBM := Lib.hid (HBN.out.trans (hb_.mono HBN.out.size))
  clear hb_ HBN k0 k1 k2 k3 k4 k5
  generalize wx.alloc (.cells #[.int .i64 x0_, .int .i64 x1_, .int .i64 x2_, .int .i64 x3_, .int .i64 x4_, .int .i64 x5_, .int .i64 x6_, .int .i64 x7_, .int .i64 x8_, .int .i64 x9_, .int .i64 x10_] 40) = W9 at *
  generalize wx.heap.size = gx at *
  have HLgx := Lib.hid (HXgx.out.lt (Nat.zero_lt_succ _))
  replace HRP := Lib.hid (HRP.out.on HBM.out)
  replace HRQ := Lib.hid (HRQ.out.on HBM.out)
  have HBW6 := Lib.hid (HBX8.out.trans (HBM.out.mono (by rw [← hg]; exact HBX8.out.size)))
  have HC6 : Hid (∀ wr, Below W9.heap.size W9 wr → wr.cell? ⟨g, 0, none⟩ = some (.slice p.pa PL p.pc) ∧ wr.cell? ⟨g + 1, 0, none⟩ = some (.int .i64 7) ∧ wr.cell? ⟨g + 1, 1, none⟩ = some (.int .i64 f) ∧ wr.cell? ⟨g + 1, 2, none⟩ = some (.int .i64 b) ∧ wr.cell? ⟨g + 1, 5, none⟩ = some (.int .i64 pos) ∧ wr.cell? ⟨gq, 0, none⟩ = some (.slice q.pa QL q.pc) ∧ wr.cell? ⟨gx, 0, none⟩ = some (.int .i64 x0_) ∧ wr.cell? ⟨gx, 1, none⟩ = some (.int .i64 x1_) ∧ wr.cell? ⟨gx, 2, none⟩ = some (.int .i64 x2_) ∧ wr.cell? ⟨gx, 3, none⟩ = some (.int .i64 x3_) ∧ wr.cell? ⟨gx, 4, none⟩ = some (.int .i64 x4_) ∧ wr.cell? ⟨gx, 5, none⟩ = some (.int .i64 x5_) ∧ wr.cell? ⟨gx, 6, none⟩ = some (.int .i64 x6_) ∧ wr.cell? ⟨gx, 7, none⟩ = some (.int .i64 x7_) ∧ wr.cell? ⟨gx, 8, none⟩ = some (.int .i64 x8_) ∧ wr.cell? ⟨gx, 9, none⟩ = some (.int .i64 x9_) ∧ wr.cell? ⟨gx, 10, none⟩ = some (.int .i64 x10_) ∧ True) := Lib.hid fun wr hb => have h := HC5.out wr (HBM.out.trans (hb.mono HBM.out.size)); ⟨h.1, h.2.1, h.2.2.1, h.2.2.2.1, h.2.2.2.2.1, h.2.2.2.2.2.1, ((HXgx.out.below hb HLgx.out) 0 _ rfl).1, ((HXgx.out.below hb HLgx.out) 1 _ rfl).1, ((HXgx.out.below hb HLgx.out) 2 _ rfl).1, ((HXgx.out.below hb HLgx.out) 3 _ rfl).1, ((HXgx.out.below hb HLgx.out) 4 _ rfl).1, ((HXgx.out.below hb HLgx.out) 5 _ rfl).1, ((HXgx.out.below hb HLgx.out) 6 _ rfl).1, ((HXgx.out.below hb HLgx.out) 7 _ rfl).1, ((HXgx.out.below hb HLgx.out) 8 _ rfl).1, ((HXgx.out.below hb HLgx.out) 9 _ rfl).1, ((HXgx.out.below hb HLgx.out) 10 _ rfl).1, trivial⟩
  clear HC5 HBM
  have HBN : Hid (Below W9.heap.size W9 W9) := Lib.hid (Below.refl _ _)
  obtain ⟨k0, k1, k2, k3, k4, k5, k6, k7, k8, k9, k10, k11, k12, k13, k14, k15, k16, -⟩ := HC6.out _ HBN.out
  clear HAW HFE HAP HNI HPT HRPs HRQs HBWs HRD0
  by_cases heq : pos = k
  · obtain rfl := HTR.out heq
    subst heq
    have hle : pos ≤ pos := Int.le_refl _
    have hld := hle
    go_upto_region 19 with (go_at_call 19; refine (HAZ.out _ (HRQ.out.on HBN.out) _).mono ?_; rintro x wy ⟨⟨ya0, ya1, ya2, ya3, ya4, ya5, ya6, ya7, ya8, ya9, ya10, rrya, rfl⟩, hbn⟩; have hbx := HBN.out.trans (hbn.mono HBN.out.size); clear HBN hbn k0 k1 k2 k3 k4 k5 k6 k7 k8 k9 k10 k11 k12 k13 k14 k15 k16; have HBN := Lib.hid hbx; clear hbx; obtain ⟨k0, k1, k2, k3, k4, k5, k6, k7, k8, k9, k10, k11, k12, k13, k14, k15, k16, -⟩ := HC6.out _ HBN.out)
    have hb_ := below1 wy (.cells #[.int .i64 ya0, .int .i64 ya1, .int .i64 ya2, .int .i64 ya3, .int .i64 ya4, .int .i64 ya5, .int .i64 ya6, .int .i64 ya7, .int .i64 ya8, .int .i64 ya9, .int .i64 ya10] 40)
    have HXgy : Hid (BoxL (wy.alloc (.cells #[.int .i64 ya0, .int .i64 ya1, .int .i64 ya2, .int .i64 ya3, .int .i64 ya4, .int .i64 ya5, .int .i64 ya6, .int .i64 ya7, .int .i64 ya8, .int .i64 ya9, .int .i64 ya10] 40)) wy.heap.size [.int .i64 ya0, .int .i64 ya1, .int .i64 ya2, .int .i64 ya3, .int .i64 ya4, .int .i64 ya5, .int .i64 ya6, .int .i64 ya7, .int .i64 ya8, .int .i64 ya9, .int .i64 ya10]) := Lib.hid (BoxL.new wy _ _)
    have HBM := Lib.hid (HBN.out.trans (hb_.mono HBN.out.size))
    clear hb_ HBN k0 k1 k2 k3 k4 k5 k6 k7 k8 k9 k10 k11 k12 k13 k14 k15 k16
    generalize wy.alloc (.cells #[.int .i64 ya0, .int .i64 ya1, .int .i64 ya2, .int .i64 ya3, .int .i64 ya4, .int .i64 ya5, .int .i64 ya6, .int .i64 ya7, .int .i64 ya8, .int .i64 ya9, .int .i64 ya10] 40) = W10 at *
    generalize wy.heap.size = gy at *
    have HLgy := Lib.hid (HXgy.out.lt (Nat.zero_lt_succ _))
    replace HRP := Lib.hid (HRP.out.on HBM.out)
    replace HRQ := Lib.hid (HRQ.out.on HBM.out)
    have HBW7 := Lib.hid (HBW6.out.trans (HBM.out.mono (by rw [← hg]; exact HBW6.out.size)))
    have HC7 : Hid (∀ wr, Below W10.heap.size W10 wr → wr.cell? ⟨g, 0, none⟩ = some (.slice p.pa PL p.pc) ∧ wr.cell? ⟨g + 1, 0, none⟩ = some (.int .i64 7) ∧ wr.cell? ⟨g + 1, 1, none⟩ = some (.int .i64 f) ∧ wr.cell? ⟨g + 1, 2, none⟩ = some (.int .i64 b) ∧ wr.cell? ⟨g + 1, 5, none⟩ = some (.int .i64 pos) ∧ wr.cell? ⟨gq, 0, none⟩ = some (.slice q.pa QL q.pc) ∧ wr.cell? ⟨gx, 0, none⟩ = some (.int .i64 x0_) ∧ wr.cell? ⟨gx, 1, none⟩ = some (.int .i64 x1_) ∧ wr.cell? ⟨gx, 2, none⟩ = some (.int .i64 x2_) ∧ wr.cell? ⟨gx, 3, none⟩ = some (.int .i64 x3_) ∧ wr.cell? ⟨gx, 4, none⟩ = some (.int .i64 x4_) ∧ wr.cell? ⟨gx, 5, none⟩ = some (.int .i64 x5_) ∧ wr.cell? ⟨gx, 6, none⟩ = some (.int .i64 x6_) ∧ wr.cell? ⟨gx, 7, none⟩ = some (.int .i64 x7_) ∧ wr.cell? ⟨gx, 8, none⟩ = some (.int .i64 x8_) ∧ wr.cell? ⟨gx, 9, none⟩ = some (.int .i64 x9_) ∧ wr.cell? ⟨gx, 10, none⟩ = some (.int .i64 x10_) ∧ True) := Lib.hid fun wr hb => have h := HC6.out wr (HBM.out.trans (hb.mono HBM.out.size)); ⟨h.1, h.2.1, h.2.2.1, h.2.2.2.1, h.2.2.2.2.1, h.2.2.2.2.2.1, h.2.2.2.2.2.2.1, h.2.2.2.2.2.2.2.1, h.2.2.2.2.2.2.2.2.1, h.2.2.2.2.2.2.2.2.2.1, h.2.2.2.2.2.2.2.2.2.2.1, h.2.2.2.2.2.2.2.2.2.2.2.1, h.2.2.2.2.2.2.2.2.2.2.2.2.1, h.2.2.2.2.2.2.2.2.2.2.2.2.2.1, h.2.2.2.2.2.2.2.2.2.2.2.2.2.2.1, h.2.2.2.2.2.2.2.2.2.2.2.2.2.2.2.1, h.2.2.2.2.2.2.2.2.2.2.2.2.2.2.2.2.1, trivial⟩
    clear HC6 HBM
    have HBN : Hid (Below W10.heap.size W10 W10) := Lib.hid (Below.refl _ _)
    obtain ⟨k0, k1, k2, k3, k4, k5, k6, k7, k8, k9, k10, k11, k12, k13, k14, k15, k16, -⟩ := HC7.out _ HBN.out
    go_wp2_with fail
    go_ret
    exact ⟨rfl, HBW7.out.trans (HBN.out.mono (by rw [← hg]; exact HBW7.out.size))⟩
  have hne : k ≠ pos := fun h => heq h.symm
  cases th with
  | true =>
    by_cases hle : pos ≤ k
    ·
        have hld := hle
        have hkb := HKR.out rfl
        have hk2 := HL.out rfl (by omega) (by omega)
        have HYQ := Lib.hid (fun wr (h : Rd wr q) => At_any q f b (k - 1) wr h.1 h.2.1 h.2.2 HQFW.out ⟨x0_, x1_, x2_, x3_, x4_, x5_, x6_, x7_, x8_, x9_, x10_⟩ (by rw [HQR.out q HQD.out]; exact hk2.2) true (by rw [HQB.out q HQD.out]; exact hk2.1))
        unfold Pg.val Ins.val at HYQ
        dsimp only at HYQ
        simp only [HQL.out] at HYQ
        clear hk2
        go_upto_region 19 with (go_at_call 19; refine (HYQ.out _ (HRQ.out.on HBN.out)).mono ?_; rintro x wy ⟨rfl, hbn⟩; have hbx := HBN.out.trans (hbn.mono HBN.out.size); clear HBN hbn k0 k1 k2 k3 k4 k5 k6 k7 k8 k9 k10 k11 k12 k13 k14 k15 k16; have HBN := Lib.hid hbx; clear hbx; obtain ⟨k0, k1, k2, k3, k4, k5, k6, k7, k8, k9, k10, k11, k12, k13, k14, k15, k16, -⟩ := HC6.out _ HBN.out)
        have hb_ := below1 wy (.cells #[.int .i64 x0_, .int .i64 x1_, .int .i64 x2_, .int .i64 x3_, .int .i64 x4_, .int .i64 x5_, .int .i64 x6_, .int .i64 x7_, .int .i64 x8_, .int .i64 x9_, .int .i64 x10_] 40)
        have HXgy : Hid (BoxL (wy.alloc (.cells #[.int .i64 x0_, .int .i64 x1_, .int .i64 x2_, .int .i64 x3_, .int .i64 x4_, .int .i64 x5_, .int .i64 x6_, .int .i64 x7_, .int .i64 x8_, .int .i64 x9_, .int .i64 x10_] 40)) wy.heap.size [.int .i64 x0_, .int .i64 x1_, .int .i64 x2_, .int .i64 x3_, .int .i64 x4_, .int .i64 x5_, .int .i64 x6_, .int .i64 x7_, .int .i64 x8_, .int .i64 x9_, .int .i64 x10_]) := Lib.hid (BoxL.new wy _ _)
        have HBM := Lib.hid (HBN.out.trans (hb_.mono HBN.out.size))
        clear hb_ HBN k0 k1 k2 k3 k4 k5 k6 k7 k8 k9 k10 k11 k12 k13 k14 k15 k16
        generalize wy.alloc (.cells #[.int .i64 x0_, .int .i64 x1_, .int .i64 x2_, .int .i64 x3_, .int .i64 x4_, .int .i64 x5_, .int .i64 x6_, .int .i64 x7_, .int .i64 x8_, .int .i64 x9_, .int .i64 x10_] 40) = W10 at *
        generalize wy.heap.size = gy at *
        have HLgy := Lib.hid (HXgy.out.lt (Nat.zero_lt_succ _))
        replace HRP := Lib.hid (HRP.out.on HBM.out)
        replace HRQ := Lib.hid (HRQ.out.on HBM.out)
        have HBW7 := Lib.hid (HBW6.out.trans (HBM.out.mono (by rw [← hg]; exact HBW6.out.size)))
        have HC7 : Hid (∀ wr, Below W10.heap.size W10 wr → wr.cell? ⟨g, 0, none⟩ = some (.slice p.pa PL p.pc) ∧ wr.cell? ⟨g + 1, 0, none⟩ = some (.int .i64 7) ∧ wr.cell? ⟨g + 1, 1, none⟩ = some (.int .i64 f) ∧ wr.cell? ⟨g + 1, 2, none⟩ = some (.int .i64 b) ∧ wr.cell? ⟨g + 1, 5, none⟩ = some (.int .i64 pos) ∧ wr.cell? ⟨gq, 0, none⟩ = some (.slice q.pa QL q.pc) ∧ wr.cell? ⟨gx, 0, none⟩ = some (.int .i64 x0_) ∧ wr.cell? ⟨gx, 1, none⟩ = some (.int .i64 x1_) ∧ wr.cell? ⟨gx, 2, none⟩ = some (.int .i64 x2_) ∧ wr.cell? ⟨gx, 3, none⟩ = some (.int .i64 x3_) ∧ wr.cell? ⟨gx, 4, none⟩ = some (.int .i64 x4_) ∧ wr.cell? ⟨gx, 5, none⟩ = some (.int .i64 x5_) ∧ wr.cell? ⟨gx, 6, none⟩ = some (.int .i64 x6_) ∧ wr.cell? ⟨gx, 7, none⟩ = some (.int .i64 x7_) ∧ wr.cell? ⟨gx, 8, none⟩ = some (.int .i64 x8_) ∧ wr.cell? ⟨gx, 9, none⟩ = some (.int .i64 x9_) ∧ wr.cell? ⟨gx, 10, none⟩ = some (.int .i64 x10_) ∧ wr.cell? ⟨gy, 0, none⟩ = some (.int .i64 x0_) ∧ wr.cell? ⟨gy, 1, none⟩ = some (.int .i64 x1_) ∧ wr.cell? ⟨gy, 2, none⟩ = some (.int .i64 x2_) ∧ wr.cell? ⟨gy, 3, none⟩ = some (.int .i64 x3_) ∧ wr.cell? ⟨gy, 4, none⟩ = some (.int .i64 x4_) ∧ wr.cell? ⟨gy, 5, none⟩ = some (.int .i64 x5_) ∧ wr.cell? ⟨gy, 6, none⟩ = some (.int .i64 x6_) ∧ wr.cell? ⟨gy, 7, none⟩ = some (.int .i64 x7_) ∧ wr.cell? ⟨gy, 8, none⟩ = some (.int .i64 x8_) ∧ wr.cell? ⟨gy, 9, none⟩ = some (.int .i64 x9_) ∧ wr.cell? ⟨gy, 10, none⟩ = some (.int .i64 x10_) ∧ True) := Lib.hid fun wr hb => have h := HC6.out wr (HBM.out.trans (hb.mono HBM.out.size)); ⟨h.1, h.2.1, h.2.2.1, h.2.2.2.1, h.2.2.2.2.1, h.2.2.2.2.2.1, h.2.2.2.2.2.2.1, h.2.2.2.2.2.2.2.1, h.2.2.2.2.2.2.2.2.1, h.2.2.2.2.2.2.2.2.2.1, h.2.2.2.2.2.2.2.2.2.2.1, h.2.2.2.2.2.2.2.2.2.2.2.1, h.2.2.2.2.2.2.2.2.2.2.2.2.1, h.2.2.2.2.2.2.2.2.2.2.2.2.2.1, h.2.2.2.2.2.2.2.2.2.2.2.2.2.2.1, h.2.2.2.2.2.2.2.2.2.2.2.2.2.2.2.1, h.2.2.2.2.2.2.2.2.2.2.2.2.2.2.2.2.1, ((HXgy.out.below hb HLgy.out) 0 _ rfl).1, ((HXgy.out.below hb HLgy.out) 1 _ rfl).1, ((HXgy.out.below hb HLgy.out) 2 _ rfl).1, ((HXgy.out.below hb HLgy.out) 3 _ rfl).1, ((HXgy.out.below hb HLgy.out) 4 _ rfl).1, ((HXgy.out.below hb HLgy.out) 5 _ rfl).1, ((HXgy.out.below hb HLgy.out) 6 _ rfl).1, ((HXgy.out.below hb HLgy.out) 7 _ rfl).1, ((HXgy.out.below hb HLgy.out) 8 _ rfl).1, ((HXgy.out.below hb HLgy.out) 9 _ rfl).1, ((HXgy.out.below hb HLgy.out) 10 _ rfl).1, trivial⟩
        clear HC6 HBM
        have HBN : Hid (Below W10.heap.size W10 W10) := Lib.hid (Below.refl _ _)
        obtain ⟨k0, k1, k2, k3, k4, k5, k6, k7, k8, k9, k10, k11, k12, k13, k14, k15, k16, k17, k18, k19, k20, k21, k22, k23, k24, k25, k26, k27, -⟩ := HC7.out _ HBN.out
        have heqy : ∀ w, (Op.equalIn 10000 40 (.agg #[.int .i64 x0_, .int .i64 x1_, .int .i64 x2_, .int .i64 x3_, .int .i64 x4_, .int .i64 x5_, .int .i64 x6_, .int .i64 x7_, .int .i64 x8_, .int .i64 x9_, .int .i64 x10_]) (.agg #[.int .i64 x0_, .int .i64 x1_, .int .i64 x2_, .int .i64 x3_, .int .i64 x4_, .int .i64 x5_, .int .i64 x6_, .int .i64 x7_, .int .i64 x8_, .int .i64 x9_, .int .i64 x10_])).run Tryz.prog w = .ok true w := fun w => by rw [eqInsTwo]; simp
        go_wp2_with fail
        go_ret
        exact ⟨rfl, HBW7.out.trans (HBN.out.mono (by rw [← hg]; exact HBW7.out.size))⟩
    ·
        have hld : k < pos := by omega
        have hkb := HKR.out rfl
        have hk2 := HG.out rfl (by omega) (by omega)
        have HYQ := Lib.hid (fun wr (h : Rd wr q) => At_any q f b (k) wr h.1 h.2.1 h.2.2 HQFW.out ⟨x0_, x1_, x2_, x3_, x4_, x5_, x6_, x7_, x8_, x9_, x10_⟩ (by rw [HQR.out q HQD.out]; exact hk2.2) true (by rw [HQB.out q HQD.out]; exact hk2.1))
        unfold Pg.val Ins.val at HYQ
        dsimp only at HYQ
        simp only [HQL.out] at HYQ
        clear hk2
        go_upto_region 19 with (go_at_call 19; refine (HYQ.out _ (HRQ.out.on HBN.out)).mono ?_; rintro x wy ⟨rfl, hbn⟩; have hbx := HBN.out.trans (hbn.mono HBN.out.size); clear HBN hbn k0 k1 k2 k3 k4 k5 k6 k7 k8 k9 k10 k11 k12 k13 k14 k15 k16; have HBN := Lib.hid hbx; clear hbx; obtain ⟨k0, k1, k2, k3, k4, k5, k6, k7, k8, k9, k10, k11, k12, k13, k14, k15, k16, -⟩ := HC6.out _ HBN.out)
        have hb_ := below1 wy (.cells #[.int .i64 x0_, .int .i64 x1_, .int .i64 x2_, .int .i64 x3_, .int .i64 x4_, .int .i64 x5_, .int .i64 x6_, .int .i64 x7_, .int .i64 x8_, .int .i64 x9_, .int .i64 x10_] 40)
        have HXgy : Hid (BoxL (wy.alloc (.cells #[.int .i64 x0_, .int .i64 x1_, .int .i64 x2_, .int .i64 x3_, .int .i64 x4_, .int .i64 x5_, .int .i64 x6_, .int .i64 x7_, .int .i64 x8_, .int .i64 x9_, .int .i64 x10_] 40)) wy.heap.size [.int .i64 x0_, .int .i64 x1_, .int .i64 x2_, .int .i64 x3_, .int .i64 x4_, .int .i64 x5_, .int .i64 x6_, .int .i64 x7_, .int .i64 x8_, .int .i64 x9_, .int .i64 x10_]) := Lib.hid (BoxL.new wy _ _)
        have HBM := Lib.hid (HBN.out.trans (hb_.mono HBN.out.size))
        clear hb_ HBN k0 k1 k2 k3 k4 k5 k6 k7 k8 k9 k10 k11 k12 k13 k14 k15 k16
        generalize wy.alloc (.cells #[.int .i64 x0_, .int .i64 x1_, .int .i64 x2_, .int .i64 x3_, .int .i64 x4_, .int .i64 x5_, .int .i64 x6_, .int .i64 x7_, .int .i64 x8_, .int .i64 x9_, .int .i64 x10_] 40) = W10 at *
        generalize wy.heap.size = gy at *
        have HLgy := Lib.hid (HXgy.out.lt (Nat.zero_lt_succ _))
        replace HRP := Lib.hid (HRP.out.on HBM.out)
        replace HRQ := Lib.hid (HRQ.out.on HBM.out)
        have HBW7 := Lib.hid (HBW6.out.trans (HBM.out.mono (by rw [← hg]; exact HBW6.out.size)))
        have HC7 : Hid (∀ wr, Below W10.heap.size W10 wr → wr.cell? ⟨g, 0, none⟩ = some (.slice p.pa PL p.pc) ∧ wr.cell? ⟨g + 1, 0, none⟩ = some (.int .i64 7) ∧ wr.cell? ⟨g + 1, 1, none⟩ = some (.int .i64 f) ∧ wr.cell? ⟨g + 1, 2, none⟩ = some (.int .i64 b) ∧ wr.cell? ⟨g + 1, 5, none⟩ = some (.int .i64 pos) ∧ wr.cell? ⟨gq, 0, none⟩ = some (.slice q.pa QL q.pc) ∧ wr.cell? ⟨gx, 0, none⟩ = some (.int .i64 x0_) ∧ wr.cell? ⟨gx, 1, none⟩ = some (.int .i64 x1_) ∧ wr.cell? ⟨gx, 2, none⟩ = some (.int .i64 x2_) ∧ wr.cell? ⟨gx, 3, none⟩ = some (.int .i64 x3_) ∧ wr.cell? ⟨gx, 4, none⟩ = some (.int .i64 x4_) ∧ wr.cell? ⟨gx, 5, none⟩ = some (.int .i64 x5_) ∧ wr.cell? ⟨gx, 6, none⟩ = some (.int .i64 x6_) ∧ wr.cell? ⟨gx, 7, none⟩ = some (.int .i64 x7_) ∧ wr.cell? ⟨gx, 8, none⟩ = some (.int .i64 x8_) ∧ wr.cell? ⟨gx, 9, none⟩ = some (.int .i64 x9_) ∧ wr.cell? ⟨gx, 10, none⟩ = some (.int .i64 x10_) ∧ wr.cell? ⟨gy, 0, none⟩ = some (.int .i64 x0_) ∧ wr.cell? ⟨gy, 1, none⟩ = some (.int .i64 x1_) ∧ wr.cell? ⟨gy, 2, none⟩ = some (.int .i64 x2_) ∧ wr.cell? ⟨gy, 3, none⟩ = some (.int .i64 x3_) ∧ wr.cell? ⟨gy, 4, none⟩ = some (.int .i64 x4_) ∧ wr.cell? ⟨gy, 5, none⟩ = some (.int .i64 x5_) ∧ wr.cell? ⟨gy, 6, none⟩ = some (.int .i64 x6_) ∧ wr.cell? ⟨gy, 7, none⟩ = some (.int .i64 x7_) ∧ wr.cell? ⟨gy, 8, none⟩ = some (.int .i64 x8_) ∧ wr.cell? ⟨gy, 9, none⟩ = some (.int .i64 x9_) ∧ wr.cell? ⟨gy, 10, none⟩ = some (.int .i64 x10_) ∧ True) := Lib.hid fun wr hb => have h := HC6.out wr (HBM.out.trans (hb.mono HBM.out.size)); ⟨h.1, h.2.1, h.2.2.1, h.2.2.2.1, h.2.2.2.2.1, h.2.2.2.2.2.1, h.2.2.2.2.2.2.1, h.2.2.2.2.2.2.2.1, h.2.2.2.2.2.2.2.2.1, h.2.2.2.2.2.2.2.2.2.1, h.2.2.2.2.2.2.2.2.2.2.1, h.2.2.2.2.2.2.2.2.2.2.2.1, h.2.2.2.2.2.2.2.2.2.2.2.2.1, h.2.2.2.2.2.2.2.2.2.2.2.2.2.1, h.2.2.2.2.2.2.2.2.2.2.2.2.2.2.1, h.2.2.2.2.2.2.2.2.2.2.2.2.2.2.2.1, h.2.2.2.2.2.2.2.2.2.2.2.2.2.2.2.2.1, ((HXgy.out.below hb HLgy.out) 0 _ rfl).1, ((HXgy.out.below hb HLgy.out) 1 _ rfl).1, ((HXgy.out.below hb HLgy.out) 2 _ rfl).1, ((HXgy.out.below hb HLgy.out) 3 _ rfl).1, ((HXgy.out.below hb HLgy.out) 4 _ rfl).1, ((HXgy.out.below hb HLgy.out) 5 _ rfl).1, ((HXgy.out.below hb HLgy.out) 6 _ rfl).1, ((HXgy.out.below hb HLgy.out) 7 _ rfl).1, ((HXgy.out.below hb HLgy.out) 8 _ rfl).1, ((HXgy.out.below hb HLgy.out) 9 _ rfl).1, ((HXgy.out.below hb HLgy.out) 10 _ rfl).1, trivial⟩
        clear HC6 HBM
        have HBN : Hid (Below W10.heap.size W10 W10) := Lib.hid (Below.refl _ _)
        obtain ⟨k0, k1, k2, k3, k4, k5, k6, k7, k8, k9, k10, k11, k12, k13, k14, k15, k16, k17, k18, k19, k20, k21, k22, k23, k24, k25, k26, k27, -⟩ := HC7.out _ HBN.out
        have heqy : ∀ w, (Op.equalIn 10000 40 (.agg #[.int .i64 x0_, .int .i64 x1_, .int .i64 x2_, .int .i64 x3_, .int .i64 x4_, .int .i64 x5_, .int .i64 x6_, .int .i64 x7_, .int .i64 x8_, .int .i64 x9_, .int .i64 x10_]) (.agg #[.int .i64 x0_, .int .i64 x1_, .int .i64 x2_, .int .i64 x3_, .int .i64 x4_, .int .i64 x5_, .int .i64 x6_, .int .i64 x7_, .int .i64 x8_, .int .i64 x9_, .int .i64 x10_])).run Tryz.prog w = .ok true w := fun w => by rw [eqInsTwo]; simp
        go_wp2_with fail
        go_ret
        exact ⟨rfl, HBW7.out.trans (HBN.out.mono (by rw [← hg]; exact HBW7.out.size))⟩
  | false =>
    by_cases hle : pos ≤ k
    ·
        have hld := hle
        go_upto_region 19 with (go_at_call 19; refine (HAZ.out _ (HRQ.out.on HBN.out) _).mono ?_; rintro x wy ⟨⟨ya0, ya1, ya2, ya3, ya4, ya5, ya6, ya7, ya8, ya9, ya10, rrya, rfl⟩, hbn⟩; have hbx := HBN.out.trans (hbn.mono HBN.out.size); clear HBN hbn k0 k1 k2 k3 k4 k5 k6 k7 k8 k9 k10 k11 k12 k13 k14 k15 k16; have HBN := Lib.hid hbx; clear hbx; obtain ⟨k0, k1, k2, k3, k4, k5, k6, k7, k8, k9, k10, k11, k12, k13, k14, k15, k16, -⟩ := HC6.out _ HBN.out)
        have hb_ := below1 wy (.cells #[.int .i64 ya0, .int .i64 ya1, .int .i64 ya2, .int .i64 ya3, .int .i64 ya4, .int .i64 ya5, .int .i64 ya6, .int .i64 ya7, .int .i64 ya8, .int .i64 ya9, .int .i64 ya10] 40)
        have HXgy : Hid (BoxL (wy.alloc (.cells #[.int .i64 ya0, .int .i64 ya1, .int .i64 ya2, .int .i64 ya3, .int .i64 ya4, .int .i64 ya5, .int .i64 ya6, .int .i64 ya7, .int .i64 ya8, .int .i64 ya9, .int .i64 ya10] 40)) wy.heap.size [.int .i64 ya0, .int .i64 ya1, .int .i64 ya2, .int .i64 ya3, .int .i64 ya4, .int .i64 ya5, .int .i64 ya6, .int .i64 ya7, .int .i64 ya8, .int .i64 ya9, .int .i64 ya10]) := Lib.hid (BoxL.new wy _ _)
        have HBM := Lib.hid (HBN.out.trans (hb_.mono HBN.out.size))
        clear hb_ HBN k0 k1 k2 k3 k4 k5 k6 k7 k8 k9 k10 k11 k12 k13 k14 k15 k16
        generalize wy.alloc (.cells #[.int .i64 ya0, .int .i64 ya1, .int .i64 ya2, .int .i64 ya3, .int .i64 ya4, .int .i64 ya5, .int .i64 ya6, .int .i64 ya7, .int .i64 ya8, .int .i64 ya9, .int .i64 ya10] 40) = W10 at *
        generalize wy.heap.size = gy at *
        have HLgy := Lib.hid (HXgy.out.lt (Nat.zero_lt_succ _))
        replace HRP := Lib.hid (HRP.out.on HBM.out)
        replace HRQ := Lib.hid (HRQ.out.on HBM.out)
        have HBW7 := Lib.hid (HBW6.out.trans (HBM.out.mono (by rw [← hg]; exact HBW6.out.size)))
        have HC7 : Hid (∀ wr, Below W10.heap.size W10 wr → wr.cell? ⟨g, 0, none⟩ = some (.slice p.pa PL p.pc) ∧ wr.cell? ⟨g + 1, 0, none⟩ = some (.int .i64 7) ∧ wr.cell? ⟨g + 1, 1, none⟩ = some (.int .i64 f) ∧ wr.cell? ⟨g + 1, 2, none⟩ = some (.int .i64 b) ∧ wr.cell? ⟨g + 1, 5, none⟩ = some (.int .i64 pos) ∧ wr.cell? ⟨gq, 0, none⟩ = some (.slice q.pa QL q.pc) ∧ wr.cell? ⟨gx, 0, none⟩ = some (.int .i64 x0_) ∧ wr.cell? ⟨gx, 1, none⟩ = some (.int .i64 x1_) ∧ wr.cell? ⟨gx, 2, none⟩ = some (.int .i64 x2_) ∧ wr.cell? ⟨gx, 3, none⟩ = some (.int .i64 x3_) ∧ wr.cell? ⟨gx, 4, none⟩ = some (.int .i64 x4_) ∧ wr.cell? ⟨gx, 5, none⟩ = some (.int .i64 x5_) ∧ wr.cell? ⟨gx, 6, none⟩ = some (.int .i64 x6_) ∧ wr.cell? ⟨gx, 7, none⟩ = some (.int .i64 x7_) ∧ wr.cell? ⟨gx, 8, none⟩ = some (.int .i64 x8_) ∧ wr.cell? ⟨gx, 9, none⟩ = some (.int .i64 x9_) ∧ wr.cell? ⟨gx, 10, none⟩ = some (.int .i64 x10_) ∧ True) := Lib.hid fun wr hb => have h := HC6.out wr (HBM.out.trans (hb.mono HBM.out.size)); ⟨h.1, h.2.1, h.2.2.1, h.2.2.2.1, h.2.2.2.2.1, h.2.2.2.2.2.1, h.2.2.2.2.2.2.1, h.2.2.2.2.2.2.2.1, h.2.2.2.2.2.2.2.2.1, h.2.2.2.2.2.2.2.2.2.1, h.2.2.2.2.2.2.2.2.2.2.1, h.2.2.2.2.2.2.2.2.2.2.2.1, h.2.2.2.2.2.2.2.2.2.2.2.2.1, h.2.2.2.2.2.2.2.2.2.2.2.2.2.1, h.2.2.2.2.2.2.2.2.2.2.2.2.2.2.1, h.2.2.2.2.2.2.2.2.2.2.2.2.2.2.2.1, h.2.2.2.2.2.2.2.2.2.2.2.2.2.2.2.2.1, trivial⟩
        clear HC6 HBM
        have HBN : Hid (Below W10.heap.size W10 W10) := Lib.hid (Below.refl _ _)
        obtain ⟨k0, k1, k2, k3, k4, k5, k6, k7, k8, k9, k10, k11, k12, k13, k14, k15, k16, -⟩ := HC7.out _ HBN.out
        go_wp2_with fail
        go_ret
        exact ⟨rfl, HBW7.out.trans (HBN.out.mono (by rw [← hg]; exact HBW7.out.size))⟩
    ·
        have hld : k < pos := by omega
        go_upto_region 19 with (go_at_call 19; refine (HAZ.out _ (HRQ.out.on HBN.out) _).mono ?_; rintro x wy ⟨⟨ya0, ya1, ya2, ya3, ya4, ya5, ya6, ya7, ya8, ya9, ya10, rrya, rfl⟩, hbn⟩; have hbx := HBN.out.trans (hbn.mono HBN.out.size); clear HBN hbn k0 k1 k2 k3 k4 k5 k6 k7 k8 k9 k10 k11 k12 k13 k14 k15 k16; have HBN := Lib.hid hbx; clear hbx; obtain ⟨k0, k1, k2, k3, k4, k5, k6, k7, k8, k9, k10, k11, k12, k13, k14, k15, k16, -⟩ := HC6.out _ HBN.out)
        have hb_ := below1 wy (.cells #[.int .i64 ya0, .int .i64 ya1, .int .i64 ya2, .int .i64 ya3, .int .i64 ya4, .int .i64 ya5, .int .i64 ya6, .int .i64 ya7, .int .i64 ya8, .int .i64 ya9, .int .i64 ya10] 40)
        have HXgy : Hid (BoxL (wy.alloc (.cells #[.int .i64 ya0, .int .i64 ya1, .int .i64 ya2, .int .i64 ya3, .int .i64 ya4, .int .i64 ya5, .int .i64 ya6, .int .i64 ya7, .int .i64 ya8, .int .i64 ya9, .int .i64 ya10] 40)) wy.heap.size [.int .i64 ya0, .int .i64 ya1, .int .i64 ya2, .int .i64 ya3, .int .i64 ya4, .int .i64 ya5, .int .i64 ya6, .int .i64 ya7, .int .i64 ya8, .int .i64 ya9, .int .i64 ya10]) := Lib.hid (BoxL.new wy _ _)
        have HBM := Lib.hid (HBN.out.trans (hb_.mono HBN.out.size))
        clear hb_ HBN k0 k1 k2 k3 k4 k5 k6 k7 k8 k9 k10 k11 k12 k13 k14 k15 k16
        generalize wy.alloc (.cells #[.int .i64 ya0, .int .i64 ya1, .int .i64 ya2, .int .i64 ya3, .int .i64 ya4, .int .i64 ya5, .int .i64 ya6, .int .i64 ya7, .int .i64 ya8, .int .i64 ya9, .int .i64 ya10] 40) = W10 at *
        generalize wy.heap.size = gy at *
        have HLgy := Lib.hid (HXgy.out.lt (Nat.zero_lt_succ _))
        replace HRP := Lib.hid (HRP.out.on HBM.out)
        replace HRQ := Lib.hid (HRQ.out.on HBM.out)
        have HBW7 := Lib.hid (HBW6.out.trans (HBM.out.mono (by rw [← hg]; exact HBW6.out.size)))
        have HC7 : Hid (∀ wr, Below W10.heap.size W10 wr → wr.cell? ⟨g, 0, none⟩ = some (.slice p.pa PL p.pc) ∧ wr.cell? ⟨g + 1, 0, none⟩ = some (.int .i64 7) ∧ wr.cell? ⟨g + 1, 1, none⟩ = some (.int .i64 f) ∧ wr.cell? ⟨g + 1, 2, none⟩ = some (.int .i64 b) ∧ wr.cell? ⟨g + 1, 5, none⟩ = some (.int .i64 pos) ∧ wr.cell? ⟨gq, 0, none⟩ = some (.slice q.pa QL q.pc) ∧ wr.cell? ⟨gx, 0, none⟩ = some (.int .i64 x0_) ∧ wr.cell? ⟨gx, 1, none⟩ = some (.int .i64 x1_) ∧ wr.cell? ⟨gx, 2, none⟩ = some (.int .i64 x2_) ∧ wr.cell? ⟨gx, 3, none⟩ = some (.int .i64 x3_) ∧ wr.cell? ⟨gx, 4, none⟩ = some (.int .i64 x4_) ∧ wr.cell? ⟨gx, 5, none⟩ = some (.int .i64 x5_) ∧ wr.cell? ⟨gx, 6, none⟩ = some (.int .i64 x6_) ∧ wr.cell? ⟨gx, 7, none⟩ = some (.int .i64 x7_) ∧ wr.cell? ⟨gx, 8, none⟩ = some (.int .i64 x8_) ∧ wr.cell? ⟨gx, 9, none⟩ = some (.int .i64 x9_) ∧ wr.cell? ⟨gx, 10, none⟩ = some (.int .i64 x10_) ∧ True) := Lib.hid fun wr hb => have h := HC6.out wr (HBM.out.trans (hb.mono HBM.out.size)); ⟨h.1, h.2.1, h.2.2.1, h.2.2.2.1, h.2.2.2.2.1, h.2.2.2.2.2.1, h.2.2.2.2.2.2.1, h.2.2.2.2.2.2.2.1, h.2.2.2.2.2.2.2.2.1, h.2.2.2.2.2.2.2.2.2.1, h.2.2.2.2.2.2.2.2.2.2.1, h.2.2.2.2.2.2.2.2.2.2.2.1, h.2.2.2.2.2.2.2.2.2.2.2.2.1, h.2.2.2.2.2.2.2.2.2.2.2.2.2.1, h.2.2.2.2.2.2.2.2.2.2.2.2.2.2.1, h.2.2.2.2.2.2.2.2.2.2.2.2.2.2.2.1, h.2.2.2.2.2.2.2.2.2.2.2.2.2.2.2.2.1, trivial⟩
        clear HC6 HBM
        have HBN : Hid (Below W10.heap.size W10 W10) := Lib.hid (Below.refl _ _)
        obtain ⟨k0, k1, k2, k3, k4, k5, k6, k7, k8, k9, k10, k11, k12, k13, k14, k15, k16, -⟩ := HC7.out _ HBN.out
        go_wp2_with fail
        go_ret
        exact ⟨rfl, HBW7.out.trans (HBN.out.mono (by rw [← hg]; exact HBW7.out.size))⟩
end Go.Proofs.YtbddjneinfkmpaaGreatDoor

namespace Go.Proofs.YtbddjneinfkmpaaGreatDoor
open Go Go.RowKit Go.Sort

theorem applyCode_any (p : Pg) (e : Ed) (k : Int) (w : World) (h : Rd w p) (hwf : p.wf) :
    Calls Tryz.prog 12 #[p.val, e.val, .int .i64 k] w fun x w' => x = .returned (.bool true) ∧ Below w.heap.size w w' := by
  by_cases hfew : p.few
  rotate_left
  · exact codeN p e k w h hfew
  by_cases h6 : e.op = 6
  · by_cases hc : chk p e = 0
    · exact code6 p e k w h hwf hfew h6 hc
    · exact codeE6 p e k w h hwf hfew h6 hc
  by_cases h7 : e.op = 7
  · by_cases hc : chk p e = 0
    · exact code7 p e k w h hwf hfew h7 hc
    · exact codeE7 p e k w h hwf hfew h7 hc
  exact codeO p e k w h hfew ⟨h6, h7⟩
end Go.Proofs.YtbddjneinfkmpaaGreatDoor
