/- ApplyUndone: its walk. -/
import Derived.Test.YtbddjneinfkmpaaGreatDoorUndG
import Derived.Test.YtbddjneinfkmpaaGreatDoorSmG
import Derived.Test.YtbddjneinfkmpaaGreatDoorAwA
namespace Go.Proofs.YtbddjneinfkmpaaGreatDoor
open Go Go.RowKit Go.Sort

set_option maxRecDepth 100000 in
set_option maxHeartbeats 16000000 in
theorem undoneN (p : Pg) (e : Ed) (w : World) (h : Rd w p) (hfew : ¬ p.few) :
    Calls Tryz.prog 8 #[p.val, e.val] w fun x w' => x = .returned (.bool true) ∧ Below w.heap.size w w' := by
  have HAW := Lib.hid (fun wr (h : Rd wr p) => awake8_any wr h.2.1 h.2.2)
  have HFE := Lib.hid (fun wr (h : Rd wr p) => Few_any p wr h.1 false (by simp [hfew]))
  have HRD0 := Lib.hid h
  clear h hfew
  obtain ⟨op, f, b, tob, other, pos, ⟨id, kind, dst, a, b2, c, f2, n, x0, x1, x2⟩⟩ := e
  try dsimp only at *
  unfold Pg.val at HFE
  unfold Pg.val Ed.val
  try dsimp only at *
  obtain ⟨PL, hPL⟩ : ∃ PL, p.funs.length = PL := ⟨_, rfl⟩
  simp only [hPL] at HFE ⊢
  clear hPL
  have HBb := Lib.hid (below2 w (.cells #[.slice p.pa PL p.pc] 24) (.cells #[.int .i64 op, .int .i64 f, .int .i64 b, .int .i64 tob, .int .i64 other, .int .i64 pos, .int .i64 id, .int .i64 kind, .int .i64 dst, .int .i64 a, .int .i64 b2, .int .i64 c, .int .i64 f2, .int .i64 n, .int .i64 x0, .int .i64 x1, .int .i64 x2] 55))
  have hx0 := BoxL.new w [.slice p.pa PL p.pc] 24
  have HX0 := Lib.hid (show BoxL ((w.alloc (.cells #[.slice p.pa PL p.pc] 24)).alloc (.cells #[.int .i64 op, .int .i64 f, .int .i64 b, .int .i64 tob, .int .i64 other, .int .i64 pos, .int .i64 id, .int .i64 kind, .int .i64 dst, .int .i64 a, .int .i64 b2, .int .i64 c, .int .i64 f2, .int .i64 n, .int .i64 x0, .int .i64 x1, .int .i64 x2] 55)) (w.heap.size) [.slice p.pa PL p.pc] from (hx0).alloc (Nat.zero_lt_succ _) (.cells #[.int .i64 op, .int .i64 f, .int .i64 b, .int .i64 tob, .int .i64 other, .int .i64 pos, .int .i64 id, .int .i64 kind, .int .i64 dst, .int .i64 a, .int .i64 b2, .int .i64 c, .int .i64 f2, .int .i64 n, .int .i64 x0, .int .i64 x1, .int .i64 x2] 55))
  have hx1 := BoxL.new (w.alloc (.cells #[.slice p.pa PL p.pc] 24)) [.int .i64 op, .int .i64 f, .int .i64 b, .int .i64 tob, .int .i64 other, .int .i64 pos, .int .i64 id, .int .i64 kind, .int .i64 dst, .int .i64 a, .int .i64 b2, .int .i64 c, .int .i64 f2, .int .i64 n, .int .i64 x0, .int .i64 x1, .int .i64 x2] 55
  rw [World.size_alloc] at hx1
  have HX1 := Lib.hid (show BoxL ((w.alloc (.cells #[.slice p.pa PL p.pc] 24)).alloc (.cells #[.int .i64 op, .int .i64 f, .int .i64 b, .int .i64 tob, .int .i64 other, .int .i64 pos, .int .i64 id, .int .i64 kind, .int .i64 dst, .int .i64 a, .int .i64 b2, .int .i64 c, .int .i64 f2, .int .i64 n, .int .i64 x0, .int .i64 x1, .int .i64 x2] 55)) (w.heap.size + 1) [.int .i64 op, .int .i64 f, .int .i64 b, .int .i64 tob, .int .i64 other, .int .i64 pos, .int .i64 id, .int .i64 kind, .int .i64 dst, .int .i64 a, .int .i64 b2, .int .i64 c, .int .i64 f2, .int .i64 n, .int .i64 x0, .int .i64 x1, .int .i64 x2] from hx1)
  clear hx0 hx1
  have HRW := Lib.hid (HRD0.out.on HBb.out)
  generalize hW : ((w.alloc (.cells #[.slice p.pa PL p.pc] 24)).alloc (.cells #[.int .i64 op, .int .i64 f, .int .i64 b, .int .i64 tob, .int .i64 other, .int .i64 pos, .int .i64 id, .int .i64 kind, .int .i64 dst, .int .i64 a, .int .i64 b2, .int .i64 c, .int .i64 f2, .int .i64 n, .int .i64 x0, .int .i64 x1, .int .i64 x2] 55)) = W at HBb HX0 HX1 HRW
  obtain ⟨g, hg⟩ : ∃ g, w.heap.size = g := ⟨_, rfl⟩
  have HGL := Lib.hid HBb.out.size
  rw [hg] at HBb HGL HX0 HX1 ⊢
  have HL0 := Lib.hid (HX0.out.lt (Nat.zero_lt_succ _))
  have HL1 := Lib.hid (HX1.out.lt (Nat.zero_lt_succ _))
  have HC : Hid (∀ wr, Below W.heap.size W wr → wr.cell? ⟨g, 0, none⟩ = some (.slice p.pa PL p.pc) ∧ wr.cell? ⟨g + 1, 0, none⟩ = some (.int .i64 op) ∧ wr.rangeAt (g + 1) 0 [.int .i64 op, .int .i64 f, .int .i64 b, .int .i64 tob, .int .i64 other, .int .i64 pos, .int .i64 id, .int .i64 kind, .int .i64 dst, .int .i64 a, .int .i64 b2, .int .i64 c, .int .i64 f2, .int .i64 n, .int .i64 x0, .int .i64 x1, .int .i64 x2]) := Lib.hid fun wr hb => ⟨((HX0.out.below hb HL0.out) 0 _ rfl).1, ((HX1.out.below hb HL1.out) 0 _ rfl).1, (HX1.out.below hb HL1.out).range⟩
  have HBN : Hid (Below W.heap.size W W) := Lib.hid (Below.refl _ _)
  obtain ⟨k0, k1, -⟩ := HC.out _ HBN.out
  go_enter Tryz.func8, Tryz.ntmps8
  go_wp2_with (first
    | (go_at_call 47; refine (HAW.out _ (HRW.out.on HBN.out)).mono ?_; rintro x wa ⟨rfl, hbn⟩; have hbx := HBN.out.trans (hbn.mono HBN.out.size); clear HBN hbn k0 k1; have HBN := Lib.hid hbx; clear hbx; obtain ⟨k0, k1, -⟩ := HC.out _ HBN.out)
    | (go_at_call 14; refine (HFE.out _ (HRW.out.on HBN.out)).mono ?_; rintro x wb ⟨rfl, hbn⟩; have hbx := HBN.out.trans (hbn.mono HBN.out.size); clear HBN hbn k0 k1; have HBN := Lib.hid hbx; clear hbx; obtain ⟨k0, k1, -⟩ := HC.out _ HBN.out))
  go_ret
  exact ⟨rfl, HBb.out.trans (HBN.out.mono HGL.out)⟩

set_option maxRecDepth 100000 in
set_option maxHeartbeats 16000000 in
theorem undoneE (p : Pg) (e : Ed) (w : World) (h : Rd w p) (hwf : p.wf) (hfew : p.few) (hc : ¬ chk p e = 0) :
    Calls Tryz.prog 8 #[p.val, e.val] w fun x w' => x = .returned (.bool true) ∧ Below w.heap.size w w' := by
  have HAW := Lib.hid (fun wr (h : Rd wr p) => awake8_any wr h.2.1 h.2.2)
  have HFE := Lib.hid (fun wr (h : Rd wr p) => Few_any p wr h.1 true (by simp [hfew]))
  obtain ⟨er, her⟩ : ∃ er, chk p e = er := ⟨_, rfl⟩
  have hrb : (er != 0) = true := by simp only [bne, beq_false_of_ne (show er ≠ 0 from fun h => hc (her.trans h)), Bool.not_false]
  have hok : undoB p e = false := undoB_no hc
  obtain ⟨u, hu⟩ : ∃ u, undoE p e = u := ⟨_, rfl⟩
  have HAP := Lib.hid (fun wr (h : Rd wr p) => Apply_any p e wr h hfew hwf)
  simp only [AppRes, her] at HAP
  have HUN := Lib.hid (fun wr (h : Rd wr p) => Undo_any p e wr h hfew hwf)
  simp only [UndRes, hu, hok] at HUN
  have HQF := Lib.hid (fun (q : Pg) (hq : q.d = (appP p e).d) => (Pg.few_of_d hq).2 (few_app hfew e))
  have HAQ := Lib.hid (fun (q : Pg) (hq : q.d = (appP p e).d) (hqw : q.wf) wr (h : Rd wr q) => (Apply_any q u wr h ((Pg.few_of_d hq).2 (few_app hfew e)) hqw).mono (R' := fun x w' => ∃ (r : Pg) (bk : Int), x = .returned (.tuple #[r.val, .int .i64 bk]) ∧ PgIs w'.heap.size w' r ∧ Below wr.heap.size wr w') fun x w' ⟨r, hx, h1, _, _, h4⟩ => ⟨r, _, hx, h1, h4⟩)
  have HSM := Lib.hid (fun wr (h : Rd wr p) (q : Pg) (hr : PgIs wr.heap.size wr q) (hd : q.d = (appP p e).d) => Same_any p q wr h.1 hr hfew true (iff_of_true rfl (by rw [hd, app_same hc])))
  obtain ⟨u0, u1, u2, u3, u4, u5, ⟨u6, u7, u8, u9, u10, u11, u12, u13, u14, u15, u16⟩⟩ := u
  have hlen10 := hfew.1
  clear hu her hok hwf hfew
  have HRD0 := Lib.hid h
  clear h
  obtain ⟨op, f, b, tob, other, pos, ⟨id, kind, dst, a, b2, c, f2, n, x0, x1, x2⟩⟩ := e
  try dsimp only at *
  unfold Pg.val at HFE HAP HUN HSM
  unfold Ed.val at HAP HUN HAQ
  unfold Pg.val Ed.val
  try dsimp only at *
  obtain ⟨PL, hPL⟩ : ∃ PL, p.funs.length = PL := ⟨_, rfl⟩
  simp only [hPL] at HFE HAP HUN HSM ⊢
  clear hPL
  have HBb := Lib.hid (below2 w (.cells #[.slice p.pa PL p.pc] 24) (.cells #[.int .i64 op, .int .i64 f, .int .i64 b, .int .i64 tob, .int .i64 other, .int .i64 pos, .int .i64 id, .int .i64 kind, .int .i64 dst, .int .i64 a, .int .i64 b2, .int .i64 c, .int .i64 f2, .int .i64 n, .int .i64 x0, .int .i64 x1, .int .i64 x2] 55))
  have hx0 := BoxL.new w [.slice p.pa PL p.pc] 24
  have HX0 := Lib.hid (show BoxL ((w.alloc (.cells #[.slice p.pa PL p.pc] 24)).alloc (.cells #[.int .i64 op, .int .i64 f, .int .i64 b, .int .i64 tob, .int .i64 other, .int .i64 pos, .int .i64 id, .int .i64 kind, .int .i64 dst, .int .i64 a, .int .i64 b2, .int .i64 c, .int .i64 f2, .int .i64 n, .int .i64 x0, .int .i64 x1, .int .i64 x2] 55)) (w.heap.size) [.slice p.pa PL p.pc] from (hx0).alloc (Nat.zero_lt_succ _) (.cells #[.int .i64 op, .int .i64 f, .int .i64 b, .int .i64 tob, .int .i64 other, .int .i64 pos, .int .i64 id, .int .i64 kind, .int .i64 dst, .int .i64 a, .int .i64 b2, .int .i64 c, .int .i64 f2, .int .i64 n, .int .i64 x0, .int .i64 x1, .int .i64 x2] 55))
  have hx1 := BoxL.new (w.alloc (.cells #[.slice p.pa PL p.pc] 24)) [.int .i64 op, .int .i64 f, .int .i64 b, .int .i64 tob, .int .i64 other, .int .i64 pos, .int .i64 id, .int .i64 kind, .int .i64 dst, .int .i64 a, .int .i64 b2, .int .i64 c, .int .i64 f2, .int .i64 n, .int .i64 x0, .int .i64 x1, .int .i64 x2] 55
  rw [World.size_alloc] at hx1
  have HX1 := Lib.hid (show BoxL ((w.alloc (.cells #[.slice p.pa PL p.pc] 24)).alloc (.cells #[.int .i64 op, .int .i64 f, .int .i64 b, .int .i64 tob, .int .i64 other, .int .i64 pos, .int .i64 id, .int .i64 kind, .int .i64 dst, .int .i64 a, .int .i64 b2, .int .i64 c, .int .i64 f2, .int .i64 n, .int .i64 x0, .int .i64 x1, .int .i64 x2] 55)) (w.heap.size + 1) [.int .i64 op, .int .i64 f, .int .i64 b, .int .i64 tob, .int .i64 other, .int .i64 pos, .int .i64 id, .int .i64 kind, .int .i64 dst, .int .i64 a, .int .i64 b2, .int .i64 c, .int .i64 f2, .int .i64 n, .int .i64 x0, .int .i64 x1, .int .i64 x2] from hx1)
  clear hx0 hx1
  have HRW := Lib.hid (HRD0.out.on HBb.out)
  generalize hW : ((w.alloc (.cells #[.slice p.pa PL p.pc] 24)).alloc (.cells #[.int .i64 op, .int .i64 f, .int .i64 b, .int .i64 tob, .int .i64 other, .int .i64 pos, .int .i64 id, .int .i64 kind, .int .i64 dst, .int .i64 a, .int .i64 b2, .int .i64 c, .int .i64 f2, .int .i64 n, .int .i64 x0, .int .i64 x1, .int .i64 x2] 55)) = W at HBb HX0 HX1 HRW
  obtain ⟨g, hg⟩ : ∃ g, w.heap.size = g := ⟨_, rfl⟩
  have HGL := Lib.hid HBb.out.size
  rw [hg] at HBb HGL HX0 HX1 ⊢
  have HL0 := Lib.hid (HX0.out.lt (Nat.zero_lt_succ _))
  have HL1 := Lib.hid (HX1.out.lt (Nat.zero_lt_succ _))
  have HC : Hid (∀ wr, Below W.heap.size W wr → wr.cell? ⟨g, 0, none⟩ = some (.slice p.pa PL p.pc) ∧ wr.cell? ⟨g + 1, 0, none⟩ = some (.int .i64 op) ∧ wr.rangeAt (g + 1) 0 [.int .i64 op, .int .i64 f, .int .i64 b, .int .i64 tob, .int .i64 other, .int .i64 pos, .int .i64 id, .int .i64 kind, .int .i64 dst, .int .i64 a, .int .i64 b2, .int .i64 c, .int .i64 f2, .int .i64 n, .int .i64 x0, .int .i64 x1, .int .i64 x2]) := Lib.hid fun wr hb => ⟨((HX0.out.below hb HL0.out) 0 _ rfl).1, ((HX1.out.below hb HL1.out) 0 _ rfl).1, (HX1.out.below hb HL1.out).range⟩
  have HBN : Hid (Below W.heap.size W W) := Lib.hid (Below.refl _ _)
  obtain ⟨k0, k1, -⟩ := HC.out _ HBN.out
  go_enter Tryz.func8, Tryz.ntmps8
  go_upto_region 4 with (first
    | (go_at_call 47; refine (HAW.out _ (HRW.out.on HBN.out)).mono ?_; rintro x wa ⟨rfl, hbn⟩; have hbx := HBN.out.trans (hbn.mono HBN.out.size); clear HBN hbn k0 k1; have HBN := Lib.hid hbx; clear hbx; obtain ⟨k0, k1, -⟩ := HC.out _ HBN.out)
    | (go_at_call 14; refine (HFE.out _ (HRW.out.on HBN.out)).mono ?_; rintro x wb ⟨rfl, hbn⟩; have hbx := HBN.out.trans (hbn.mono HBN.out.size); clear HBN hbn k0 k1; have HBN := Lib.hid hbx; clear hbx; obtain ⟨k0, k1, -⟩ := HC.out _ HBN.out))
  go_upto_region 5 with (first
    | (go_at_call 49; refine (HAP.out _ (HRW.out.on HBN.out)).mono ?_; rintro x we ⟨q, rfl, hqi, hqw, hqd, hbn⟩; have HQI := Lib.hid hqi; have HQD := Lib.hid hqd; have HQW := Lib.hid hqw; clear hqi hqd hqw; have hbx := HBN.out.trans (hbn.mono HBN.out.size); clear HBN hbn k0 k1; have HBN := Lib.hid hbx; clear hbx; obtain ⟨k0, k1, -⟩ := HC.out _ HBN.out)
    | ((with_reducible apply wpList_load_w (ty := 55) (b := g + 1) (o := 0) (cs := [.int .i64 op, .int .i64 f, .int .i64 b, .int .i64 tob, .int .i64 other, .int .i64 pos, .int .i64 id, .int .i64 kind, .int .i64 dst, .int .i64 a, .int .i64 b2, .int .i64 c, .int .i64 f2, .int .i64 n, .int .i64 x0, .int .i64 x1, .int .i64 x2])); rotate_left; rfl; rfl; exact (HC.out _ HBN.out).2.2; exact Tryz.underlying55; rfl; kernel_rfl; rotate_left; rfl; simp only [Act.put, List.setIfInBounds_toArray, List.set_cons_zero, List.set_cons_succ]))
  have HAR := Lib.hid (HAQ.out q HQD.out HQW.out)
  unfold Pg.val at HAR
  obtain ⟨QL, hQL⟩ : ∃ QL, q.funs.length = QL := ⟨_, rfl⟩
  have HQL := Lib.hid hQL
  simp only [hQL] at HAR ⊢
  clear hQL HAQ
  have hb5 := below1 we (.cells #[.slice q.pa QL q.pc] 24)
  have HXQ : Hid (BoxL (we.alloc (.cells #[.slice q.pa QL q.pc] 24)) we.heap.size [.slice q.pa QL q.pc]) := Lib.hid (BoxL.new we [.slice q.pa QL q.pc] 24)
  have HRQ := Lib.hid (show Rd (we.alloc (.cells #[.slice q.pa QL q.pc] 24)) q from (show Rd we q from ⟨HQI.out, (HRW.out.on HBN.out).2.1, (HRW.out.on HBN.out).2.2⟩).on hb5)
  have HBM := Lib.hid (HBN.out.trans (hb5.mono HBN.out.size))
  clear hb5 HBN HQI k0 k1
  generalize we.alloc (.cells #[.slice q.pa QL q.pc] 24) = W5 at *
  generalize we.heap.size = gq at *
  have HLQ := Lib.hid (HXQ.out.lt (Nat.zero_lt_succ _))
  have HRP := Lib.hid (HRW.out.on HBM.out)
  have HB5 := Lib.hid (HBb.out.trans (HBM.out.mono HGL.out))
  have HC5 : Hid (∀ wr, Below W5.heap.size W5 wr → wr.cell? ⟨g, 0, none⟩ = some (.slice p.pa PL p.pc) ∧ wr.cell? ⟨g + 1, 0, none⟩ = some (.int .i64 op) ∧ wr.cell? ⟨gq, 0, none⟩ = some (.slice q.pa QL q.pc) ∧ wr.rangeAt (g + 1) 0 [.int .i64 op, .int .i64 f, .int .i64 b, .int .i64 tob, .int .i64 other, .int .i64 pos, .int .i64 id, .int .i64 kind, .int .i64 dst, .int .i64 a, .int .i64 b2, .int .i64 c, .int .i64 f2, .int .i64 n, .int .i64 x0, .int .i64 x1, .int .i64 x2]) := Lib.hid fun wr hb => have h := HC.out wr (HBM.out.trans (hb.mono HBM.out.size)); ⟨h.1, h.2.1, ((HXQ.out.below hb HLQ.out) 0 _ rfl).1, h.2.2⟩
  have HBN : Hid (Below W5.heap.size W5 W5) := Lib.hid (Below.refl _ _)
  obtain ⟨k0, k1, k2, -⟩ := HC5.out _ HBN.out
  clear HC HXQ HBM HAP HRW
  go_upto_region 6 with (first
    | (go_at_call 51; refine (HUN.out _ (HRP.out.on HBN.out)).mono ?_; rintro x wu ⟨rfl, hbn⟩; have hbx := HBN.out.trans (hbn.mono HBN.out.size); clear HBN hbn k0 k1 k2; have HBN := Lib.hid hbx; clear hbx; obtain ⟨k0, k1, k2, -⟩ := HC5.out _ HBN.out)
    | ((with_reducible apply wpList_load_w (ty := 55) (b := g + 1) (o := 0) (cs := [.int .i64 op, .int .i64 f, .int .i64 b, .int .i64 tob, .int .i64 other, .int .i64 pos, .int .i64 id, .int .i64 kind, .int .i64 dst, .int .i64 a, .int .i64 b2, .int .i64 c, .int .i64 f2, .int .i64 n, .int .i64 x0, .int .i64 x1, .int .i64 x2])); rotate_left; rfl; rfl; exact (HC5.out _ HBN.out).2.2.2; exact Tryz.underlying55; rfl; kernel_rfl; rotate_left; rfl; simp only [Act.put, List.setIfInBounds_toArray, List.set_cons_zero, List.set_cons_succ])
    | ((with_reducible apply wpList_store_new (ty := 55) (c := #[.int .i64 0, .int .i64 0, .int .i64 0, .int .i64 0, .int .i64 0, .int .i64 0, .int .i64 0, .int .i64 0, .int .i64 0, .int .i64 0, .int .i64 0, .int .i64 0, .int .i64 0, .int .i64 0, .int .i64 0, .int .i64 0, .int .i64 0]) (c' := #[.int .i64 u0, .int .i64 u1, .int .i64 u2, .int .i64 u3, .int .i64 u4, .int .i64 u5, .int .i64 u6, .int .i64 u7, .int .i64 u8, .int .i64 u9, .int .i64 u10, .int .i64 u11, .int .i64 u12, .int .i64 u13, .int .i64 u14, .int .i64 u15, .int .i64 u16])); rfl; rfl; rfl; rfl; kernel_rfl; rfl; simp [Value.oneCell']; simp only [Act.put]))
  have hb6 := below1 wu (.cells #[.int .i64 u0, .int .i64 u1, .int .i64 u2, .int .i64 u3, .int .i64 u4, .int .i64 u5, .int .i64 u6, .int .i64 u7, .int .i64 u8, .int .i64 u9, .int .i64 u10, .int .i64 u11, .int .i64 u12, .int .i64 u13, .int .i64 u14, .int .i64 u15, .int .i64 u16] 55)
  have HXU : Hid (BoxL (wu.alloc (.cells #[.int .i64 u0, .int .i64 u1, .int .i64 u2, .int .i64 u3, .int .i64 u4, .int .i64 u5, .int .i64 u6, .int .i64 u7, .int .i64 u8, .int .i64 u9, .int .i64 u10, .int .i64 u11, .int .i64 u12, .int .i64 u13, .int .i64 u14, .int .i64 u15, .int .i64 u16] 55)) wu.heap.size [.int .i64 u0, .int .i64 u1, .int .i64 u2, .int .i64 u3, .int .i64 u4, .int .i64 u5, .int .i64 u6, .int .i64 u7, .int .i64 u8, .int .i64 u9, .int .i64 u10, .int .i64 u11, .int .i64 u12, .int .i64 u13, .int .i64 u14, .int .i64 u15, .int .i64 u16]) := Lib.hid (BoxL.new wu _ _)
  have HBM := Lib.hid (HBN.out.trans (hb6.mono HBN.out.size))
  clear hb6 HBN k0 k1 k2
  generalize wu.alloc (.cells #[.int .i64 u0, .int .i64 u1, .int .i64 u2, .int .i64 u3, .int .i64 u4, .int .i64 u5, .int .i64 u6, .int .i64 u7, .int .i64 u8, .int .i64 u9, .int .i64 u10, .int .i64 u11, .int .i64 u12, .int .i64 u13, .int .i64 u14, .int .i64 u15, .int .i64 u16] 55) = W6 at *
  generalize wu.heap.size = gu at *
  have HLU := Lib.hid (HXU.out.lt (Nat.zero_lt_succ _))
  have HRP6 := Lib.hid (HRP.out.on HBM.out)
  have HRQ6 := Lib.hid (HRQ.out.on HBM.out)
  have HB6 := Lib.hid (HB5.out.trans (HBM.out.mono (by rw [← hg]; exact HB5.out.size)))
  have HC6 : Hid (∀ wr, Below W6.heap.size W6 wr → wr.cell? ⟨g, 0, none⟩ = some (.slice p.pa PL p.pc) ∧ wr.cell? ⟨g + 1, 0, none⟩ = some (.int .i64 op) ∧ wr.cell? ⟨gq, 0, none⟩ = some (.slice q.pa QL q.pc) ∧ wr.rangeAt gu 0 [.int .i64 u0, .int .i64 u1, .int .i64 u2, .int .i64 u3, .int .i64 u4, .int .i64 u5, .int .i64 u6, .int .i64 u7, .int .i64 u8, .int .i64 u9, .int .i64 u10, .int .i64 u11, .int .i64 u12, .int .i64 u13, .int .i64 u14, .int .i64 u15, .int .i64 u16]) := Lib.hid fun wr hb => have h := HC5.out wr (HBM.out.trans (hb.mono HBM.out.size)); ⟨h.1, h.2.1, h.2.2.1, (HXU.out.below hb HLU.out).range⟩
  have HBN : Hid (Below W6.heap.size W6 W6) := Lib.hid (Below.refl _ _)
  obtain ⟨k0, k1, k2, -⟩ := HC6.out _ HBN.out
  clear HC5 HBM HRP HRQ HUN
  go_upto_region 7 with (first
    | (go_at_call 49; refine (HAR.out _ (HRQ6.out.on HBN.out)).mono ?_; rintro x wv ⟨r, bk, rfl, hri,  hbn⟩; have HRI := Lib.hid hri;  clear hri; have hbx := HBN.out.trans (hbn.mono HBN.out.size); clear HBN hbn k0 k1 k2; have HBN := Lib.hid hbx; clear hbx; obtain ⟨k0, k1, k2, -⟩ := HC6.out _ HBN.out)
    | ((with_reducible apply wpList_load_w (ty := 55) (b := gu) (o := 0) (cs := [.int .i64 u0, .int .i64 u1, .int .i64 u2, .int .i64 u3, .int .i64 u4, .int .i64 u5, .int .i64 u6, .int .i64 u7, .int .i64 u8, .int .i64 u9, .int .i64 u10, .int .i64 u11, .int .i64 u12, .int .i64 u13, .int .i64 u14, .int .i64 u15, .int .i64 u16])); rotate_left; rfl; rfl; exact (HC6.out _ HBN.out).2.2.2; exact Tryz.underlying55; rfl; kernel_rfl; rotate_left; rfl; simp only [Act.put, List.setIfInBounds_toArray, List.set_cons_zero, List.set_cons_succ]))
  obtain ⟨RL, hRL⟩ : ∃ RL, r.funs.length = RL := ⟨_, rfl⟩
  have HRL := Lib.hid hRL
  simp only [hRL]
  clear hRL
  have hb7 := below1 wv (.cells #[.slice r.pa RL r.pc] 24)
  have HXR : Hid (BoxL (wv.alloc (.cells #[.slice r.pa RL r.pc] 24)) wv.heap.size [.slice r.pa RL r.pc]) := Lib.hid (BoxL.new wv _ _)
  have HRR7 := Lib.hid (HRI.out.on hb7)
  have HBM := Lib.hid (HBN.out.trans (hb7.mono HBN.out.size))
  clear hb7 HBN HRI k0 k1 k2
  generalize wv.alloc (.cells #[.slice r.pa RL r.pc] 24) = W7 at *
  generalize wv.heap.size = gr at *
  have HLR := Lib.hid (HXR.out.lt (Nat.zero_lt_succ _))
  have HRP7 := Lib.hid (HRP6.out.on HBM.out)
  have HRQ7 := Lib.hid (HRQ6.out.on HBM.out)
  have HB7 := Lib.hid (HB6.out.trans (HBM.out.mono (by rw [← hg]; exact HB6.out.size)))
  have HC7 : Hid (∀ wr, Below W7.heap.size W7 wr → wr.cell? ⟨g, 0, none⟩ = some (.slice p.pa PL p.pc) ∧ wr.cell? ⟨g + 1, 0, none⟩ = some (.int .i64 op) ∧ wr.cell? ⟨gq, 0, none⟩ = some (.slice q.pa QL q.pc) ∧ wr.cell? ⟨gr, 0, none⟩ = some (.slice r.pa RL r.pc) ∧ True) := Lib.hid fun wr hb => have h := HC6.out wr (HBM.out.trans (hb.mono HBM.out.size)); ⟨h.1, h.2.1, h.2.2.1, ((HXR.out.below hb HLR.out) 0 _ rfl).1, trivial⟩
  have HBN : Hid (Below W7.heap.size W7 W7) := Lib.hid (Below.refl _ _)
  obtain ⟨k0, k1, k2, k3, -⟩ := HC7.out _ HBN.out
  clear HC6 HBM HRP6 HRQ6 HAR
  have HSM7 := Lib.hid (fun wr (hb : Below W7.heap.size W7 wr) => HSM.out wr (HRP7.out.on hb) q (HRQ7.out.on hb).1 HQD.out)
  unfold Pg.val at HSM7
  simp only [HQL.out] at HSM7
  go_wp2_with (first
    | (go_at_call 57; refine (HSM7.out _ HBN.out).mono ?_; rintro x ws ⟨rfl, hbn⟩; have hbx := HBN.out.trans (hbn.mono HBN.out.size); clear HBN hbn k0 k1 k2 k3; have HBN := Lib.hid hbx; clear hbx; obtain ⟨k0, k1, k2, k3, -⟩ := HC7.out _ HBN.out))
  go_ret
  exact ⟨rfl, HB7.out.trans (HBN.out.mono (by rw [← hg]; exact HB7.out.size))⟩

set_option maxRecDepth 100000 in
set_option maxHeartbeats 16000000 in
theorem undoneT (p : Pg) (e : Ed) (w : World) (h : Rd w p) (hwf : p.wf) (hfew : p.few) (hc : chk p e = 0) (hok : undoB p e = true) :
    Calls Tryz.prog 8 #[p.val, e.val] w fun x w' => x = .returned (.bool true) ∧ Below w.heap.size w w' := by
  have HAW := Lib.hid (fun wr (h : Rd wr p) => awake8_any wr h.2.1 h.2.2)
  have HFE := Lib.hid (fun wr (h : Rd wr p) => Few_any p wr h.1 true (by simp [hfew]))
  have her := hc
  obtain ⟨u, hu⟩ : ∃ u, undoE p e = u := ⟨_, rfl⟩
  have HAP := Lib.hid (fun wr (h : Rd wr p) => Apply_any p e wr h hfew hwf)
  simp only [AppRes, her] at HAP
  have HUN := Lib.hid (fun wr (h : Rd wr p) => Undo_any p e wr h hfew hwf)
  simp only [UndRes, hu, hok] at HUN
  have HQF := Lib.hid (fun (q : Pg) (hq : q.d = (appP p e).d) => (Pg.few_of_d hq).2 (few_app hfew e))
  have hua := undo_all hok
  rw [hu] at hua
  have HAQ := Lib.hid (fun (q : Pg) (hq : q.d = (appP p e).d) (hqw : q.wf) wr (h : Rd wr q) => (Apply_any q u wr h ((Pg.few_of_d hq).2 (few_app hfew e)) hqw).mono (R' := fun x w' => ∃ r : Pg, x = .returned (.tuple #[r.val, .int .i64 0]) ∧ PgIs w'.heap.size w' r ∧ r.d = p.d ∧ Below wr.heap.size wr w') fun x w' ⟨r, hx, h1, _, h3, h4⟩ => ⟨r, by rw [hx, chk_of_d hq, hua.1], h1, h3.trans ((app_of_d hq u).trans hua.2), h4⟩)
  have HSM := Lib.hid (fun wr (h : Rd wr p) (r : Pg) (hr : PgIs wr.heap.size wr r) (hd : r.d = p.d) => Same_any r p wr hr h.1 ((Pg.few_of_d hd).2 hfew) true (iff_of_true rfl hd))
  clear hua
  have HSQ := Lib.hid (fun wr (q : Pg) (h : Rd wr q) (hd : q.d = (appP p e).d) => Sane_any q wr h.1 h.2.1 h.2.2 ((Pg.few_of_d hd).2 (few_app hfew e)) true (iff_of_true rfl ((Pg.sane_of_d hd).2 (sane_app hc))))
  obtain ⟨u0, u1, u2, u3, u4, u5, ⟨u6, u7, u8, u9, u10, u11, u12, u13, u14, u15, u16⟩⟩ := u
  have hlen10 := hfew.1
  clear hu her hok hwf hfew
  clear hc
  have HRD0 := Lib.hid h
  clear h
  obtain ⟨op, f, b, tob, other, pos, ⟨id, kind, dst, a, b2, c, f2, n, x0, x1, x2⟩⟩ := e
  try dsimp only at *
  unfold Pg.val at HFE HAP HUN HSM
  unfold Ed.val at HAP HUN HAQ
  unfold Pg.val Ed.val
  try dsimp only at *
  obtain ⟨PL, hPL⟩ : ∃ PL, p.funs.length = PL := ⟨_, rfl⟩
  simp only [hPL] at HFE HAP HUN HSM ⊢
  clear hPL
  have HBb := Lib.hid (below2 w (.cells #[.slice p.pa PL p.pc] 24) (.cells #[.int .i64 op, .int .i64 f, .int .i64 b, .int .i64 tob, .int .i64 other, .int .i64 pos, .int .i64 id, .int .i64 kind, .int .i64 dst, .int .i64 a, .int .i64 b2, .int .i64 c, .int .i64 f2, .int .i64 n, .int .i64 x0, .int .i64 x1, .int .i64 x2] 55))
  have hx0 := BoxL.new w [.slice p.pa PL p.pc] 24
  have HX0 := Lib.hid (show BoxL ((w.alloc (.cells #[.slice p.pa PL p.pc] 24)).alloc (.cells #[.int .i64 op, .int .i64 f, .int .i64 b, .int .i64 tob, .int .i64 other, .int .i64 pos, .int .i64 id, .int .i64 kind, .int .i64 dst, .int .i64 a, .int .i64 b2, .int .i64 c, .int .i64 f2, .int .i64 n, .int .i64 x0, .int .i64 x1, .int .i64 x2] 55)) (w.heap.size) [.slice p.pa PL p.pc] from (hx0).alloc (Nat.zero_lt_succ _) (.cells #[.int .i64 op, .int .i64 f, .int .i64 b, .int .i64 tob, .int .i64 other, .int .i64 pos, .int .i64 id, .int .i64 kind, .int .i64 dst, .int .i64 a, .int .i64 b2, .int .i64 c, .int .i64 f2, .int .i64 n, .int .i64 x0, .int .i64 x1, .int .i64 x2] 55))
  have hx1 := BoxL.new (w.alloc (.cells #[.slice p.pa PL p.pc] 24)) [.int .i64 op, .int .i64 f, .int .i64 b, .int .i64 tob, .int .i64 other, .int .i64 pos, .int .i64 id, .int .i64 kind, .int .i64 dst, .int .i64 a, .int .i64 b2, .int .i64 c, .int .i64 f2, .int .i64 n, .int .i64 x0, .int .i64 x1, .int .i64 x2] 55
  rw [World.size_alloc] at hx1
  have HX1 := Lib.hid (show BoxL ((w.alloc (.cells #[.slice p.pa PL p.pc] 24)).alloc (.cells #[.int .i64 op, .int .i64 f, .int .i64 b, .int .i64 tob, .int .i64 other, .int .i64 pos, .int .i64 id, .int .i64 kind, .int .i64 dst, .int .i64 a, .int .i64 b2, .int .i64 c, .int .i64 f2, .int .i64 n, .int .i64 x0, .int .i64 x1, .int .i64 x2] 55)) (w.heap.size + 1) [.int .i64 op, .int .i64 f, .int .i64 b, .int .i64 tob, .int .i64 other, .int .i64 pos, .int .i64 id, .int .i64 kind, .int .i64 dst, .int .i64 a, .int .i64 b2, .int .i64 c, .int .i64 f2, .int .i64 n, .int .i64 x0, .int .i64 x1, .int .i64 x2] from hx1)
  clear hx0 hx1
  have HRW := Lib.hid (HRD0.out.on HBb.out)
  generalize hW : ((w.alloc (.cells #[.slice p.pa PL p.pc] 24)).alloc (.cells #[.int .i64 op, .int .i64 f, .int .i64 b, .int .i64 tob, .int .i64 other, .int .i64 pos, .int .i64 id, .int .i64 kind, .int .i64 dst, .int .i64 a, .int .i64 b2, .int .i64 c, .int .i64 f2, .int .i64 n, .int .i64 x0, .int .i64 x1, .int .i64 x2] 55)) = W at HBb HX0 HX1 HRW
  obtain ⟨g, hg⟩ : ∃ g, w.heap.size = g := ⟨_, rfl⟩
  have HGL := Lib.hid HBb.out.size
  rw [hg] at HBb HGL HX0 HX1 ⊢
  have HL0 := Lib.hid (HX0.out.lt (Nat.zero_lt_succ _))
  have HL1 := Lib.hid (HX1.out.lt (Nat.zero_lt_succ _))
  have HC : Hid (∀ wr, Below W.heap.size W wr → wr.cell? ⟨g, 0, none⟩ = some (.slice p.pa PL p.pc) ∧ wr.cell? ⟨g + 1, 0, none⟩ = some (.int .i64 op) ∧ wr.rangeAt (g + 1) 0 [.int .i64 op, .int .i64 f, .int .i64 b, .int .i64 tob, .int .i64 other, .int .i64 pos, .int .i64 id, .int .i64 kind, .int .i64 dst, .int .i64 a, .int .i64 b2, .int .i64 c, .int .i64 f2, .int .i64 n, .int .i64 x0, .int .i64 x1, .int .i64 x2]) := Lib.hid fun wr hb => ⟨((HX0.out.below hb HL0.out) 0 _ rfl).1, ((HX1.out.below hb HL1.out) 0 _ rfl).1, (HX1.out.below hb HL1.out).range⟩
  have HBN : Hid (Below W.heap.size W W) := Lib.hid (Below.refl _ _)
  obtain ⟨k0, k1, -⟩ := HC.out _ HBN.out
  go_enter Tryz.func8, Tryz.ntmps8
  go_upto_region 4 with (first
    | (go_at_call 47; refine (HAW.out _ (HRW.out.on HBN.out)).mono ?_; rintro x wa ⟨rfl, hbn⟩; have hbx := HBN.out.trans (hbn.mono HBN.out.size); clear HBN hbn k0 k1; have HBN := Lib.hid hbx; clear hbx; obtain ⟨k0, k1, -⟩ := HC.out _ HBN.out)
    | (go_at_call 14; refine (HFE.out _ (HRW.out.on HBN.out)).mono ?_; rintro x wb ⟨rfl, hbn⟩; have hbx := HBN.out.trans (hbn.mono HBN.out.size); clear HBN hbn k0 k1; have HBN := Lib.hid hbx; clear hbx; obtain ⟨k0, k1, -⟩ := HC.out _ HBN.out))
  go_upto_region 5 with (first
    | (go_at_call 49; refine (HAP.out _ (HRW.out.on HBN.out)).mono ?_; rintro x we ⟨q, rfl, hqi, hqw, hqd, hbn⟩; have HQI := Lib.hid hqi; have HQD := Lib.hid hqd; have HQW := Lib.hid hqw; clear hqi hqd hqw; have hbx := HBN.out.trans (hbn.mono HBN.out.size); clear HBN hbn k0 k1; have HBN := Lib.hid hbx; clear hbx; obtain ⟨k0, k1, -⟩ := HC.out _ HBN.out)
    | ((with_reducible apply wpList_load_w (ty := 55) (b := g + 1) (o := 0) (cs := [.int .i64 op, .int .i64 f, .int .i64 b, .int .i64 tob, .int .i64 other, .int .i64 pos, .int .i64 id, .int .i64 kind, .int .i64 dst, .int .i64 a, .int .i64 b2, .int .i64 c, .int .i64 f2, .int .i64 n, .int .i64 x0, .int .i64 x1, .int .i64 x2])); rotate_left; rfl; rfl; exact (HC.out _ HBN.out).2.2; exact Tryz.underlying55; rfl; kernel_rfl; rotate_left; rfl; simp only [Act.put, List.setIfInBounds_toArray, List.set_cons_zero, List.set_cons_succ]))
  have HAR := Lib.hid (HAQ.out q HQD.out HQW.out)
  unfold Pg.val at HAR
  obtain ⟨QL, hQL⟩ : ∃ QL, q.funs.length = QL := ⟨_, rfl⟩
  have HQL := Lib.hid hQL
  simp only [hQL] at HAR ⊢
  clear hQL HAQ
  have hb5 := below1 we (.cells #[.slice q.pa QL q.pc] 24)
  have HXQ : Hid (BoxL (we.alloc (.cells #[.slice q.pa QL q.pc] 24)) we.heap.size [.slice q.pa QL q.pc]) := Lib.hid (BoxL.new we [.slice q.pa QL q.pc] 24)
  have HRQ := Lib.hid (show Rd (we.alloc (.cells #[.slice q.pa QL q.pc] 24)) q from (show Rd we q from ⟨HQI.out, (HRW.out.on HBN.out).2.1, (HRW.out.on HBN.out).2.2⟩).on hb5)
  have HBM := Lib.hid (HBN.out.trans (hb5.mono HBN.out.size))
  clear hb5 HBN HQI k0 k1
  generalize we.alloc (.cells #[.slice q.pa QL q.pc] 24) = W5 at *
  generalize we.heap.size = gq at *
  have HLQ := Lib.hid (HXQ.out.lt (Nat.zero_lt_succ _))
  have HRP := Lib.hid (HRW.out.on HBM.out)
  have HB5 := Lib.hid (HBb.out.trans (HBM.out.mono HGL.out))
  have HC5 : Hid (∀ wr, Below W5.heap.size W5 wr → wr.cell? ⟨g, 0, none⟩ = some (.slice p.pa PL p.pc) ∧ wr.cell? ⟨g + 1, 0, none⟩ = some (.int .i64 op) ∧ wr.cell? ⟨gq, 0, none⟩ = some (.slice q.pa QL q.pc) ∧ wr.rangeAt (g + 1) 0 [.int .i64 op, .int .i64 f, .int .i64 b, .int .i64 tob, .int .i64 other, .int .i64 pos, .int .i64 id, .int .i64 kind, .int .i64 dst, .int .i64 a, .int .i64 b2, .int .i64 c, .int .i64 f2, .int .i64 n, .int .i64 x0, .int .i64 x1, .int .i64 x2]) := Lib.hid fun wr hb => have h := HC.out wr (HBM.out.trans (hb.mono HBM.out.size)); ⟨h.1, h.2.1, ((HXQ.out.below hb HLQ.out) 0 _ rfl).1, h.2.2⟩
  have HBN : Hid (Below W5.heap.size W5 W5) := Lib.hid (Below.refl _ _)
  obtain ⟨k0, k1, k2, -⟩ := HC5.out _ HBN.out
  clear HC HXQ HBM HAP HRW
  go_upto_region 6 with (first
    | (go_at_call 51; refine (HUN.out _ (HRP.out.on HBN.out)).mono ?_; rintro x wu ⟨rfl, hbn⟩; have hbx := HBN.out.trans (hbn.mono HBN.out.size); clear HBN hbn k0 k1 k2; have HBN := Lib.hid hbx; clear hbx; obtain ⟨k0, k1, k2, -⟩ := HC5.out _ HBN.out)
    | ((with_reducible apply wpList_load_w (ty := 55) (b := g + 1) (o := 0) (cs := [.int .i64 op, .int .i64 f, .int .i64 b, .int .i64 tob, .int .i64 other, .int .i64 pos, .int .i64 id, .int .i64 kind, .int .i64 dst, .int .i64 a, .int .i64 b2, .int .i64 c, .int .i64 f2, .int .i64 n, .int .i64 x0, .int .i64 x1, .int .i64 x2])); rotate_left; rfl; rfl; exact (HC5.out _ HBN.out).2.2.2; exact Tryz.underlying55; rfl; kernel_rfl; rotate_left; rfl; simp only [Act.put, List.setIfInBounds_toArray, List.set_cons_zero, List.set_cons_succ])
    | ((with_reducible apply wpList_store_new (ty := 55) (c := #[.int .i64 0, .int .i64 0, .int .i64 0, .int .i64 0, .int .i64 0, .int .i64 0, .int .i64 0, .int .i64 0, .int .i64 0, .int .i64 0, .int .i64 0, .int .i64 0, .int .i64 0, .int .i64 0, .int .i64 0, .int .i64 0, .int .i64 0]) (c' := #[.int .i64 u0, .int .i64 u1, .int .i64 u2, .int .i64 u3, .int .i64 u4, .int .i64 u5, .int .i64 u6, .int .i64 u7, .int .i64 u8, .int .i64 u9, .int .i64 u10, .int .i64 u11, .int .i64 u12, .int .i64 u13, .int .i64 u14, .int .i64 u15, .int .i64 u16])); rfl; rfl; rfl; rfl; kernel_rfl; rfl; simp [Value.oneCell']; simp only [Act.put]))
  have hb6 := below1 wu (.cells #[.int .i64 u0, .int .i64 u1, .int .i64 u2, .int .i64 u3, .int .i64 u4, .int .i64 u5, .int .i64 u6, .int .i64 u7, .int .i64 u8, .int .i64 u9, .int .i64 u10, .int .i64 u11, .int .i64 u12, .int .i64 u13, .int .i64 u14, .int .i64 u15, .int .i64 u16] 55)
  have HXU : Hid (BoxL (wu.alloc (.cells #[.int .i64 u0, .int .i64 u1, .int .i64 u2, .int .i64 u3, .int .i64 u4, .int .i64 u5, .int .i64 u6, .int .i64 u7, .int .i64 u8, .int .i64 u9, .int .i64 u10, .int .i64 u11, .int .i64 u12, .int .i64 u13, .int .i64 u14, .int .i64 u15, .int .i64 u16] 55)) wu.heap.size [.int .i64 u0, .int .i64 u1, .int .i64 u2, .int .i64 u3, .int .i64 u4, .int .i64 u5, .int .i64 u6, .int .i64 u7, .int .i64 u8, .int .i64 u9, .int .i64 u10, .int .i64 u11, .int .i64 u12, .int .i64 u13, .int .i64 u14, .int .i64 u15, .int .i64 u16]) := Lib.hid (BoxL.new wu _ _)
  have HBM := Lib.hid (HBN.out.trans (hb6.mono HBN.out.size))
  clear hb6 HBN k0 k1 k2
  generalize wu.alloc (.cells #[.int .i64 u0, .int .i64 u1, .int .i64 u2, .int .i64 u3, .int .i64 u4, .int .i64 u5, .int .i64 u6, .int .i64 u7, .int .i64 u8, .int .i64 u9, .int .i64 u10, .int .i64 u11, .int .i64 u12, .int .i64 u13, .int .i64 u14, .int .i64 u15, .int .i64 u16] 55) = W6 at *
  generalize wu.heap.size = gu at *
  have HLU := Lib.hid (HXU.out.lt (Nat.zero_lt_succ _))
  have HRP6 := Lib.hid (HRP.out.on HBM.out)
  have HRQ6 := Lib.hid (HRQ.out.on HBM.out)
  have HB6 := Lib.hid (HB5.out.trans (HBM.out.mono (by rw [← hg]; exact HB5.out.size)))
  have HC6 : Hid (∀ wr, Below W6.heap.size W6 wr → wr.cell? ⟨g, 0, none⟩ = some (.slice p.pa PL p.pc) ∧ wr.cell? ⟨g + 1, 0, none⟩ = some (.int .i64 op) ∧ wr.cell? ⟨gq, 0, none⟩ = some (.slice q.pa QL q.pc) ∧ wr.rangeAt gu 0 [.int .i64 u0, .int .i64 u1, .int .i64 u2, .int .i64 u3, .int .i64 u4, .int .i64 u5, .int .i64 u6, .int .i64 u7, .int .i64 u8, .int .i64 u9, .int .i64 u10, .int .i64 u11, .int .i64 u12, .int .i64 u13, .int .i64 u14, .int .i64 u15, .int .i64 u16]) := Lib.hid fun wr hb => have h := HC5.out wr (HBM.out.trans (hb.mono HBM.out.size)); ⟨h.1, h.2.1, h.2.2.1, (HXU.out.below hb HLU.out).range⟩
  have HBN : Hid (Below W6.heap.size W6 W6) := Lib.hid (Below.refl _ _)
  obtain ⟨k0, k1, k2, -⟩ := HC6.out _ HBN.out
  clear HC5 HBM HRP HRQ HUN
  go_upto_region 7 with (first
    | (go_at_call 49; refine (HAR.out _ (HRQ6.out.on HBN.out)).mono ?_; rintro x wv ⟨r, rfl, hri, hrd, hbn⟩; have HRI := Lib.hid hri; have HRR := Lib.hid hrd; clear hrd; clear hri; have hbx := HBN.out.trans (hbn.mono HBN.out.size); clear HBN hbn k0 k1 k2; have HBN := Lib.hid hbx; clear hbx; obtain ⟨k0, k1, k2, -⟩ := HC6.out _ HBN.out)
    | ((with_reducible apply wpList_load_w (ty := 55) (b := gu) (o := 0) (cs := [.int .i64 u0, .int .i64 u1, .int .i64 u2, .int .i64 u3, .int .i64 u4, .int .i64 u5, .int .i64 u6, .int .i64 u7, .int .i64 u8, .int .i64 u9, .int .i64 u10, .int .i64 u11, .int .i64 u12, .int .i64 u13, .int .i64 u14, .int .i64 u15, .int .i64 u16])); rotate_left; rfl; rfl; exact (HC6.out _ HBN.out).2.2.2; exact Tryz.underlying55; rfl; kernel_rfl; rotate_left; rfl; simp only [Act.put, List.setIfInBounds_toArray, List.set_cons_zero, List.set_cons_succ]))
  obtain ⟨RL, hRL⟩ : ∃ RL, r.funs.length = RL := ⟨_, rfl⟩
  have HRL := Lib.hid hRL
  simp only [hRL]
  clear hRL
  have hb7 := below1 wv (.cells #[.slice r.pa RL r.pc] 24)
  have HXR : Hid (BoxL (wv.alloc (.cells #[.slice r.pa RL r.pc] 24)) wv.heap.size [.slice r.pa RL r.pc]) := Lib.hid (BoxL.new wv _ _)
  have HRR7 := Lib.hid (HRI.out.on hb7)
  have HBM := Lib.hid (HBN.out.trans (hb7.mono HBN.out.size))
  clear hb7 HBN HRI k0 k1 k2
  generalize wv.alloc (.cells #[.slice r.pa RL r.pc] 24) = W7 at *
  generalize wv.heap.size = gr at *
  have HLR := Lib.hid (HXR.out.lt (Nat.zero_lt_succ _))
  have HRP7 := Lib.hid (HRP6.out.on HBM.out)
  have HRQ7 := Lib.hid (HRQ6.out.on HBM.out)
  have HB7 := Lib.hid (HB6.out.trans (HBM.out.mono (by rw [← hg]; exact HB6.out.size)))
  have HC7 : Hid (∀ wr, Below W7.heap.size W7 wr → wr.cell? ⟨g, 0, none⟩ = some (.slice p.pa PL p.pc) ∧ wr.cell? ⟨g + 1, 0, none⟩ = some (.int .i64 op) ∧ wr.cell? ⟨gq, 0, none⟩ = some (.slice q.pa QL q.pc) ∧ wr.cell? ⟨gr, 0, none⟩ = some (.slice r.pa RL r.pc) ∧ True) := Lib.hid fun wr hb => have h := HC6.out wr (HBM.out.trans (hb.mono HBM.out.size)); ⟨h.1, h.2.1, h.2.2.1, ((HXR.out.below hb HLR.out) 0 _ rfl).1, trivial⟩
  have HBN : Hid (Below W7.heap.size W7 W7) := Lib.hid (Below.refl _ _)
  obtain ⟨k0, k1, k2, k3, -⟩ := HC7.out _ HBN.out
  clear HC6 HBM HRP6 HRQ6 HAR
  have HSQ7 := Lib.hid (fun wr (hb : Below W7.heap.size W7 wr) => HSQ.out wr q (HRQ7.out.on hb) HQD.out)
  unfold Pg.val at HSQ7
  simp only [HQL.out] at HSQ7
  have HSM7 := Lib.hid (fun wr (hb : Below W7.heap.size W7 wr) => HSM.out wr (HRP7.out.on hb) r (HRR7.out.on hb) HRR.out)
  unfold Pg.val at HSM7
  simp only [HRL.out] at HSM7
  go_wp2_with (first
    | (go_at_call 23; refine (HSQ7.out _ HBN.out).mono ?_; rintro x ws ⟨rfl, hbn⟩; have hbx := HBN.out.trans (hbn.mono HBN.out.size); clear HBN hbn k0 k1 k2 k3; have HBN := Lib.hid hbx; clear hbx; obtain ⟨k0, k1, k2, k3, -⟩ := HC7.out _ HBN.out)
    | (go_at_call 57; refine (HSM7.out _ HBN.out).mono ?_; rintro x wt ⟨rfl, hbn⟩; have hbx := HBN.out.trans (hbn.mono HBN.out.size); clear HBN hbn k0 k1 k2 k3; have HBN := Lib.hid hbx; clear hbx; obtain ⟨k0, k1, k2, k3, -⟩ := HC7.out _ HBN.out))
  go_ret
  exact ⟨rfl, HB7.out.trans (HBN.out.mono (by rw [← hg]; exact HB7.out.size))⟩

set_option maxRecDepth 100000 in
set_option maxHeartbeats 16000000 in
theorem undoneF0 (p : Pg) (e : Ed) (w : World) (h : Rd w p) (hwf : p.wf) (hfew : p.few) (hc : chk p e = 0) (hok : undoB p e = false) (hop : e.op = 0) :
    Calls Tryz.prog 8 #[p.val, e.val] w fun x w' => x = .returned (.bool true) ∧ Below w.heap.size w w' := by
  have HAW := Lib.hid (fun wr (h : Rd wr p) => awake8_any wr h.2.1 h.2.2)
  have HFE := Lib.hid (fun wr (h : Rd wr p) => Few_any p wr h.1 true (by simp [hfew]))
  have her := hc
  obtain ⟨u, hu⟩ : ∃ u, undoE p e = u := ⟨_, rfl⟩
  have HAP := Lib.hid (fun wr (h : Rd wr p) => Apply_any p e wr h hfew hwf)
  simp only [AppRes, her] at HAP
  have HUN := Lib.hid (fun wr (h : Rd wr p) => Undo_any p e wr h hfew hwf)
  simp only [UndRes, hu, hok] at HUN
  have HQF := Lib.hid (fun (q : Pg) (hq : q.d = (appP p e).d) => (Pg.few_of_d hq).2 (few_app hfew e))
  have HAQ := Lib.hid (fun (q : Pg) (hq : q.d = (appP p e).d) (hqw : q.wf) wr (h : Rd wr q) => (Apply_any q u wr h ((Pg.few_of_d hq).2 (few_app hfew e)) hqw).mono (R' := fun x w' => ∃ (r : Pg) (bk : Int), x = .returned (.tuple #[r.val, .int .i64 bk]) ∧ PgIs w'.heap.size w' r ∧ Below wr.heap.size wr w') fun x w' ⟨r, hx, h1, _, _, h4⟩ => ⟨r, _, hx, h1, h4⟩)
  have HSQ := Lib.hid (fun wr (q : Pg) (h : Rd wr q) (hd : q.d = (appP p e).d) => Sane_any q wr h.1 h.2.1 h.2.2 ((Pg.few_of_d hd).2 (few_app hfew e)) true (iff_of_true rfl ((Pg.sane_of_d hd).2 (sane_app hc))))
  obtain ⟨u0, u1, u2, u3, u4, u5, ⟨u6, u7, u8, u9, u10, u11, u12, u13, u14, u15, u16⟩⟩ := u
  have hlen10 := hfew.1
  clear hu her hok hwf hfew
  clear hc
  have HRD0 := Lib.hid h
  clear h
  obtain ⟨op, f, b, tob, other, pos, ⟨id, kind, dst, a, b2, c, f2, n, x0, x1, x2⟩⟩ := e
  try dsimp only at *
  subst hop
  unfold Pg.val at HFE HAP HUN
  unfold Ed.val at HAP HUN HAQ
  unfold Pg.val Ed.val
  try dsimp only at *
  obtain ⟨PL, hPL⟩ : ∃ PL, p.funs.length = PL := ⟨_, rfl⟩
  simp only [hPL] at HFE HAP HUN ⊢
  clear hPL
  have HBb := Lib.hid (below2 w (.cells #[.slice p.pa PL p.pc] 24) (.cells #[.int .i64 0, .int .i64 f, .int .i64 b, .int .i64 tob, .int .i64 other, .int .i64 pos, .int .i64 id, .int .i64 kind, .int .i64 dst, .int .i64 a, .int .i64 b2, .int .i64 c, .int .i64 f2, .int .i64 n, .int .i64 x0, .int .i64 x1, .int .i64 x2] 55))
  have hx0 := BoxL.new w [.slice p.pa PL p.pc] 24
  have HX0 := Lib.hid (show BoxL ((w.alloc (.cells #[.slice p.pa PL p.pc] 24)).alloc (.cells #[.int .i64 0, .int .i64 f, .int .i64 b, .int .i64 tob, .int .i64 other, .int .i64 pos, .int .i64 id, .int .i64 kind, .int .i64 dst, .int .i64 a, .int .i64 b2, .int .i64 c, .int .i64 f2, .int .i64 n, .int .i64 x0, .int .i64 x1, .int .i64 x2] 55)) (w.heap.size) [.slice p.pa PL p.pc] from (hx0).alloc (Nat.zero_lt_succ _) (.cells #[.int .i64 0, .int .i64 f, .int .i64 b, .int .i64 tob, .int .i64 other, .int .i64 pos, .int .i64 id, .int .i64 kind, .int .i64 dst, .int .i64 a, .int .i64 b2, .int .i64 c, .int .i64 f2, .int .i64 n, .int .i64 x0, .int .i64 x1, .int .i64 x2] 55))
  have hx1 := BoxL.new (w.alloc (.cells #[.slice p.pa PL p.pc] 24)) [.int .i64 0, .int .i64 f, .int .i64 b, .int .i64 tob, .int .i64 other, .int .i64 pos, .int .i64 id, .int .i64 kind, .int .i64 dst, .int .i64 a, .int .i64 b2, .int .i64 c, .int .i64 f2, .int .i64 n, .int .i64 x0, .int .i64 x1, .int .i64 x2] 55
  rw [World.size_alloc] at hx1
  have HX1 := Lib.hid (show BoxL ((w.alloc (.cells #[.slice p.pa PL p.pc] 24)).alloc (.cells #[.int .i64 0, .int .i64 f, .int .i64 b, .int .i64 tob, .int .i64 other, .int .i64 pos, .int .i64 id, .int .i64 kind, .int .i64 dst, .int .i64 a, .int .i64 b2, .int .i64 c, .int .i64 f2, .int .i64 n, .int .i64 x0, .int .i64 x1, .int .i64 x2] 55)) (w.heap.size + 1) [.int .i64 0, .int .i64 f, .int .i64 b, .int .i64 tob, .int .i64 other, .int .i64 pos, .int .i64 id, .int .i64 kind, .int .i64 dst, .int .i64 a, .int .i64 b2, .int .i64 c, .int .i64 f2, .int .i64 n, .int .i64 x0, .int .i64 x1, .int .i64 x2] from hx1)
  clear hx0 hx1
  have HRW := Lib.hid (HRD0.out.on HBb.out)
  generalize hW : ((w.alloc (.cells #[.slice p.pa PL p.pc] 24)).alloc (.cells #[.int .i64 0, .int .i64 f, .int .i64 b, .int .i64 tob, .int .i64 other, .int .i64 pos, .int .i64 id, .int .i64 kind, .int .i64 dst, .int .i64 a, .int .i64 b2, .int .i64 c, .int .i64 f2, .int .i64 n, .int .i64 x0, .int .i64 x1, .int .i64 x2] 55)) = W at HBb HX0 HX1 HRW
  obtain ⟨g, hg⟩ : ∃ g, w.heap.size = g := ⟨_, rfl⟩
  have HGL := Lib.hid HBb.out.size
  rw [hg] at HBb HGL HX0 HX1 ⊢
  have HL0 := Lib.hid (HX0.out.lt (Nat.zero_lt_succ _))
  have HL1 := Lib.hid (HX1.out.lt (Nat.zero_lt_succ _))
  have HC : Hid (∀ wr, Below W.heap.size W wr → wr.cell? ⟨g, 0, none⟩ = some (.slice p.pa PL p.pc) ∧ wr.cell? ⟨g + 1, 0, none⟩ = some (.int .i64 0) ∧ wr.rangeAt (g + 1) 0 [.int .i64 0, .int .i64 f, .int .i64 b, .int .i64 tob, .int .i64 other, .int .i64 pos, .int .i64 id, .int .i64 kind, .int .i64 dst, .int .i64 a, .int .i64 b2, .int .i64 c, .int .i64 f2, .int .i64 n, .int .i64 x0, .int .i64 x1, .int .i64 x2]) := Lib.hid fun wr hb => ⟨((HX0.out.below hb HL0.out) 0 _ rfl).1, ((HX1.out.below hb HL1.out) 0 _ rfl).1, (HX1.out.below hb HL1.out).range⟩
  have HBN : Hid (Below W.heap.size W W) := Lib.hid (Below.refl _ _)
  obtain ⟨k0, k1, -⟩ := HC.out _ HBN.out
  go_enter Tryz.func8, Tryz.ntmps8
  go_upto_region 4 with (first
    | (go_at_call 47; refine (HAW.out _ (HRW.out.on HBN.out)).mono ?_; rintro x wa ⟨rfl, hbn⟩; have hbx := HBN.out.trans (hbn.mono HBN.out.size); clear HBN hbn k0 k1; have HBN := Lib.hid hbx; clear hbx; obtain ⟨k0, k1, -⟩ := HC.out _ HBN.out)
    | (go_at_call 14; refine (HFE.out _ (HRW.out.on HBN.out)).mono ?_; rintro x wb ⟨rfl, hbn⟩; have hbx := HBN.out.trans (hbn.mono HBN.out.size); clear HBN hbn k0 k1; have HBN := Lib.hid hbx; clear hbx; obtain ⟨k0, k1, -⟩ := HC.out _ HBN.out))
  go_upto_region 5 with (first
    | (go_at_call 49; refine (HAP.out _ (HRW.out.on HBN.out)).mono ?_; rintro x we ⟨q, rfl, hqi, hqw, hqd, hbn⟩; have HQI := Lib.hid hqi; have HQD := Lib.hid hqd; have HQW := Lib.hid hqw; clear hqi hqd hqw; have hbx := HBN.out.trans (hbn.mono HBN.out.size); clear HBN hbn k0 k1; have HBN := Lib.hid hbx; clear hbx; obtain ⟨k0, k1, -⟩ := HC.out _ HBN.out)
    | ((with_reducible apply wpList_load_w (ty := 55) (b := g + 1) (o := 0) (cs := [.int .i64 0, .int .i64 f, .int .i64 b, .int .i64 tob, .int .i64 other, .int .i64 pos, .int .i64 id, .int .i64 kind, .int .i64 dst, .int .i64 a, .int .i64 b2, .int .i64 c, .int .i64 f2, .int .i64 n, .int .i64 x0, .int .i64 x1, .int .i64 x2])); rotate_left; rfl; rfl; exact (HC.out _ HBN.out).2.2; exact Tryz.underlying55; rfl; kernel_rfl; rotate_left; rfl; simp only [Act.put, List.setIfInBounds_toArray, List.set_cons_zero, List.set_cons_succ]))
  have HAR := Lib.hid (HAQ.out q HQD.out HQW.out)
  unfold Pg.val at HAR
  obtain ⟨QL, hQL⟩ : ∃ QL, q.funs.length = QL := ⟨_, rfl⟩
  have HQL := Lib.hid hQL
  simp only [hQL] at HAR ⊢
  clear hQL HAQ
  have hb5 := below1 we (.cells #[.slice q.pa QL q.pc] 24)
  have HXQ : Hid (BoxL (we.alloc (.cells #[.slice q.pa QL q.pc] 24)) we.heap.size [.slice q.pa QL q.pc]) := Lib.hid (BoxL.new we [.slice q.pa QL q.pc] 24)
  have HRQ := Lib.hid (show Rd (we.alloc (.cells #[.slice q.pa QL q.pc] 24)) q from (show Rd we q from ⟨HQI.out, (HRW.out.on HBN.out).2.1, (HRW.out.on HBN.out).2.2⟩).on hb5)
  have HBM := Lib.hid (HBN.out.trans (hb5.mono HBN.out.size))
  clear hb5 HBN HQI k0 k1
  generalize we.alloc (.cells #[.slice q.pa QL q.pc] 24) = W5 at *
  generalize we.heap.size = gq at *
  have HLQ := Lib.hid (HXQ.out.lt (Nat.zero_lt_succ _))
  have HRP := Lib.hid (HRW.out.on HBM.out)
  have HB5 := Lib.hid (HBb.out.trans (HBM.out.mono HGL.out))
  have HC5 : Hid (∀ wr, Below W5.heap.size W5 wr → wr.cell? ⟨g, 0, none⟩ = some (.slice p.pa PL p.pc) ∧ wr.cell? ⟨g + 1, 0, none⟩ = some (.int .i64 0) ∧ wr.cell? ⟨gq, 0, none⟩ = some (.slice q.pa QL q.pc) ∧ wr.rangeAt (g + 1) 0 [.int .i64 0, .int .i64 f, .int .i64 b, .int .i64 tob, .int .i64 other, .int .i64 pos, .int .i64 id, .int .i64 kind, .int .i64 dst, .int .i64 a, .int .i64 b2, .int .i64 c, .int .i64 f2, .int .i64 n, .int .i64 x0, .int .i64 x1, .int .i64 x2]) := Lib.hid fun wr hb => have h := HC.out wr (HBM.out.trans (hb.mono HBM.out.size)); ⟨h.1, h.2.1, ((HXQ.out.below hb HLQ.out) 0 _ rfl).1, h.2.2⟩
  have HBN : Hid (Below W5.heap.size W5 W5) := Lib.hid (Below.refl _ _)
  obtain ⟨k0, k1, k2, -⟩ := HC5.out _ HBN.out
  clear HC HXQ HBM HAP HRW
  go_upto_region 6 with (first
    | (go_at_call 51; refine (HUN.out _ (HRP.out.on HBN.out)).mono ?_; rintro x wu ⟨rfl, hbn⟩; have hbx := HBN.out.trans (hbn.mono HBN.out.size); clear HBN hbn k0 k1 k2; have HBN := Lib.hid hbx; clear hbx; obtain ⟨k0, k1, k2, -⟩ := HC5.out _ HBN.out)
    | ((with_reducible apply wpList_load_w (ty := 55) (b := g + 1) (o := 0) (cs := [.int .i64 0, .int .i64 f, .int .i64 b, .int .i64 tob, .int .i64 other, .int .i64 pos, .int .i64 id, .int .i64 kind, .int .i64 dst, .int .i64 a, .int .i64 b2, .int .i64 c, .int .i64 f2, .int .i64 n, .int .i64 x0, .int .i64 x1, .int .i64 x2])); rotate_left; rfl; rfl; exact (HC5.out _ HBN.out).2.2.2; exact Tryz.underlying55; rfl; kernel_rfl; rotate_left; rfl; simp only [Act.put, List.setIfInBounds_toArray, List.set_cons_zero, List.set_cons_succ])
    | ((with_reducible apply wpList_store_new (ty := 55) (c := #[.int .i64 0, .int .i64 0, .int .i64 0, .int .i64 0, .int .i64 0, .int .i64 0, .int .i64 0, .int .i64 0, .int .i64 0, .int .i64 0, .int .i64 0, .int .i64 0, .int .i64 0, .int .i64 0, .int .i64 0, .int .i64 0, .int .i64 0]) (c' := #[.int .i64 u0, .int .i64 u1, .int .i64 u2, .int .i64 u3, .int .i64 u4, .int .i64 u5, .int .i64 u6, .int .i64 u7, .int .i64 u8, .int .i64 u9, .int .i64 u10, .int .i64 u11, .int .i64 u12, .int .i64 u13, .int .i64 u14, .int .i64 u15, .int .i64 u16])); rfl; rfl; rfl; rfl; kernel_rfl; rfl; simp [Value.oneCell']; simp only [Act.put]))
  have hb6 := below1 wu (.cells #[.int .i64 u0, .int .i64 u1, .int .i64 u2, .int .i64 u3, .int .i64 u4, .int .i64 u5, .int .i64 u6, .int .i64 u7, .int .i64 u8, .int .i64 u9, .int .i64 u10, .int .i64 u11, .int .i64 u12, .int .i64 u13, .int .i64 u14, .int .i64 u15, .int .i64 u16] 55)
  have HXU : Hid (BoxL (wu.alloc (.cells #[.int .i64 u0, .int .i64 u1, .int .i64 u2, .int .i64 u3, .int .i64 u4, .int .i64 u5, .int .i64 u6, .int .i64 u7, .int .i64 u8, .int .i64 u9, .int .i64 u10, .int .i64 u11, .int .i64 u12, .int .i64 u13, .int .i64 u14, .int .i64 u15, .int .i64 u16] 55)) wu.heap.size [.int .i64 u0, .int .i64 u1, .int .i64 u2, .int .i64 u3, .int .i64 u4, .int .i64 u5, .int .i64 u6, .int .i64 u7, .int .i64 u8, .int .i64 u9, .int .i64 u10, .int .i64 u11, .int .i64 u12, .int .i64 u13, .int .i64 u14, .int .i64 u15, .int .i64 u16]) := Lib.hid (BoxL.new wu _ _)
  have HBM := Lib.hid (HBN.out.trans (hb6.mono HBN.out.size))
  clear hb6 HBN k0 k1 k2
  generalize wu.alloc (.cells #[.int .i64 u0, .int .i64 u1, .int .i64 u2, .int .i64 u3, .int .i64 u4, .int .i64 u5, .int .i64 u6, .int .i64 u7, .int .i64 u8, .int .i64 u9, .int .i64 u10, .int .i64 u11, .int .i64 u12, .int .i64 u13, .int .i64 u14, .int .i64 u15, .int .i64 u16] 55) = W6 at *
  generalize wu.heap.size = gu at *
  have HLU := Lib.hid (HXU.out.lt (Nat.zero_lt_succ _))
  have HRP6 := Lib.hid (HRP.out.on HBM.out)
  have HRQ6 := Lib.hid (HRQ.out.on HBM.out)
  have HB6 := Lib.hid (HB5.out.trans (HBM.out.mono (by rw [← hg]; exact HB5.out.size)))
  have HC6 : Hid (∀ wr, Below W6.heap.size W6 wr → wr.cell? ⟨g, 0, none⟩ = some (.slice p.pa PL p.pc) ∧ wr.cell? ⟨g + 1, 0, none⟩ = some (.int .i64 0) ∧ wr.cell? ⟨gq, 0, none⟩ = some (.slice q.pa QL q.pc) ∧ wr.rangeAt gu 0 [.int .i64 u0, .int .i64 u1, .int .i64 u2, .int .i64 u3, .int .i64 u4, .int .i64 u5, .int .i64 u6, .int .i64 u7, .int .i64 u8, .int .i64 u9, .int .i64 u10, .int .i64 u11, .int .i64 u12, .int .i64 u13, .int .i64 u14, .int .i64 u15, .int .i64 u16]) := Lib.hid fun wr hb => have h := HC5.out wr (HBM.out.trans (hb.mono HBM.out.size)); ⟨h.1, h.2.1, h.2.2.1, (HXU.out.below hb HLU.out).range⟩
  have HBN : Hid (Below W6.heap.size W6 W6) := Lib.hid (Below.refl _ _)
  obtain ⟨k0, k1, k2, -⟩ := HC6.out _ HBN.out
  clear HC5 HBM HRP HRQ HUN
  go_upto_region 7 with (first
    | (go_at_call 49; refine (HAR.out _ (HRQ6.out.on HBN.out)).mono ?_; rintro x wv ⟨r, bk, rfl, hri,  hbn⟩; have HRI := Lib.hid hri;  clear hri; have hbx := HBN.out.trans (hbn.mono HBN.out.size); clear HBN hbn k0 k1 k2; have HBN := Lib.hid hbx; clear hbx; obtain ⟨k0, k1, k2, -⟩ := HC6.out _ HBN.out)
    | ((with_reducible apply wpList_load_w (ty := 55) (b := gu) (o := 0) (cs := [.int .i64 u0, .int .i64 u1, .int .i64 u2, .int .i64 u3, .int .i64 u4, .int .i64 u5, .int .i64 u6, .int .i64 u7, .int .i64 u8, .int .i64 u9, .int .i64 u10, .int .i64 u11, .int .i64 u12, .int .i64 u13, .int .i64 u14, .int .i64 u15, .int .i64 u16])); rotate_left; rfl; rfl; exact (HC6.out _ HBN.out).2.2.2; exact Tryz.underlying55; rfl; kernel_rfl; rotate_left; rfl; simp only [Act.put, List.setIfInBounds_toArray, List.set_cons_zero, List.set_cons_succ]))
  obtain ⟨RL, hRL⟩ : ∃ RL, r.funs.length = RL := ⟨_, rfl⟩
  have HRL := Lib.hid hRL
  simp only [hRL]
  clear hRL
  have hb7 := below1 wv (.cells #[.slice r.pa RL r.pc] 24)
  have HXR : Hid (BoxL (wv.alloc (.cells #[.slice r.pa RL r.pc] 24)) wv.heap.size [.slice r.pa RL r.pc]) := Lib.hid (BoxL.new wv _ _)
  have HRR7 := Lib.hid (HRI.out.on hb7)
  have HBM := Lib.hid (HBN.out.trans (hb7.mono HBN.out.size))
  clear hb7 HBN HRI k0 k1 k2
  generalize wv.alloc (.cells #[.slice r.pa RL r.pc] 24) = W7 at *
  generalize wv.heap.size = gr at *
  have HLR := Lib.hid (HXR.out.lt (Nat.zero_lt_succ _))
  have HRP7 := Lib.hid (HRP6.out.on HBM.out)
  have HRQ7 := Lib.hid (HRQ6.out.on HBM.out)
  have HB7 := Lib.hid (HB6.out.trans (HBM.out.mono (by rw [← hg]; exact HB6.out.size)))
  have HC7 : Hid (∀ wr, Below W7.heap.size W7 wr → wr.cell? ⟨g, 0, none⟩ = some (.slice p.pa PL p.pc) ∧ wr.cell? ⟨g + 1, 0, none⟩ = some (.int .i64 0) ∧ wr.cell? ⟨gq, 0, none⟩ = some (.slice q.pa QL q.pc) ∧ wr.cell? ⟨gr, 0, none⟩ = some (.slice r.pa RL r.pc) ∧ True) := Lib.hid fun wr hb => have h := HC6.out wr (HBM.out.trans (hb.mono HBM.out.size)); ⟨h.1, h.2.1, h.2.2.1, ((HXR.out.below hb HLR.out) 0 _ rfl).1, trivial⟩
  have HBN : Hid (Below W7.heap.size W7 W7) := Lib.hid (Below.refl _ _)
  obtain ⟨k0, k1, k2, k3, -⟩ := HC7.out _ HBN.out
  clear HC6 HBM HRP6 HRQ6 HAR
  have HSQ7 := Lib.hid (fun wr (hb : Below W7.heap.size W7 wr) => HSQ.out wr q (HRQ7.out.on hb) HQD.out)
  unfold Pg.val at HSQ7
  simp only [HQL.out] at HSQ7
  go_wp2_with (first
    | (go_at_call 23; refine (HSQ7.out _ HBN.out).mono ?_; rintro x ws ⟨rfl, hbn⟩; have hbx := HBN.out.trans (hbn.mono HBN.out.size); clear HBN hbn k0 k1 k2 k3; have HBN := Lib.hid hbx; clear hbx; obtain ⟨k0, k1, k2, k3, -⟩ := HC7.out _ HBN.out))
  go_ret
  exact ⟨rfl, HB7.out.trans (HBN.out.mono (by rw [← hg]; exact HB7.out.size))⟩

set_option maxRecDepth 100000 in
set_option maxHeartbeats 16000000 in
theorem undoneF2 (p : Pg) (e : Ed) (w : World) (h : Rd w p) (hwf : p.wf) (hfew : p.few) (hc : chk p e = 0) (hok : undoB p e = false) (hop : e.op = 2) :
    Calls Tryz.prog 8 #[p.val, e.val] w fun x w' => x = .returned (.bool true) ∧ Below w.heap.size w w' := by
  have HAW := Lib.hid (fun wr (h : Rd wr p) => awake8_any wr h.2.1 h.2.2)
  have HFE := Lib.hid (fun wr (h : Rd wr p) => Few_any p wr h.1 true (by simp [hfew]))
  have her := hc
  obtain ⟨u, hu⟩ : ∃ u, undoE p e = u := ⟨_, rfl⟩
  have HAP := Lib.hid (fun wr (h : Rd wr p) => Apply_any p e wr h hfew hwf)
  simp only [AppRes, her] at HAP
  have HUN := Lib.hid (fun wr (h : Rd wr p) => Undo_any p e wr h hfew hwf)
  simp only [UndRes, hu, hok] at HUN
  have HQF := Lib.hid (fun (q : Pg) (hq : q.d = (appP p e).d) => (Pg.few_of_d hq).2 (few_app hfew e))
  have HAQ := Lib.hid (fun (q : Pg) (hq : q.d = (appP p e).d) (hqw : q.wf) wr (h : Rd wr q) => (Apply_any q u wr h ((Pg.few_of_d hq).2 (few_app hfew e)) hqw).mono (R' := fun x w' => ∃ (r : Pg) (bk : Int), x = .returned (.tuple #[r.val, .int .i64 bk]) ∧ PgIs w'.heap.size w' r ∧ Below wr.heap.size wr w') fun x w' ⟨r, hx, h1, _, _, h4⟩ => ⟨r, _, hx, h1, h4⟩)
  have HSQ := Lib.hid (fun wr (q : Pg) (h : Rd wr q) (hd : q.d = (appP p e).d) => Sane_any q wr h.1 h.2.1 h.2.2 ((Pg.few_of_d hd).2 (few_app hfew e)) true (iff_of_true rfl ((Pg.sane_of_d hd).2 (sane_app hc))))
  obtain ⟨u0, u1, u2, u3, u4, u5, ⟨u6, u7, u8, u9, u10, u11, u12, u13, u14, u15, u16⟩⟩ := u
  have hlen10 := hfew.1
  clear hu her hok hwf hfew
  clear hc
  have HRD0 := Lib.hid h
  clear h
  obtain ⟨op, f, b, tob, other, pos, ⟨id, kind, dst, a, b2, c, f2, n, x0, x1, x2⟩⟩ := e
  try dsimp only at *
  subst hop
  unfold Pg.val at HFE HAP HUN
  unfold Ed.val at HAP HUN HAQ
  unfold Pg.val Ed.val
  try dsimp only at *
  obtain ⟨PL, hPL⟩ : ∃ PL, p.funs.length = PL := ⟨_, rfl⟩
  simp only [hPL] at HFE HAP HUN ⊢
  clear hPL
  have HBb := Lib.hid (below2 w (.cells #[.slice p.pa PL p.pc] 24) (.cells #[.int .i64 2, .int .i64 f, .int .i64 b, .int .i64 tob, .int .i64 other, .int .i64 pos, .int .i64 id, .int .i64 kind, .int .i64 dst, .int .i64 a, .int .i64 b2, .int .i64 c, .int .i64 f2, .int .i64 n, .int .i64 x0, .int .i64 x1, .int .i64 x2] 55))
  have hx0 := BoxL.new w [.slice p.pa PL p.pc] 24
  have HX0 := Lib.hid (show BoxL ((w.alloc (.cells #[.slice p.pa PL p.pc] 24)).alloc (.cells #[.int .i64 2, .int .i64 f, .int .i64 b, .int .i64 tob, .int .i64 other, .int .i64 pos, .int .i64 id, .int .i64 kind, .int .i64 dst, .int .i64 a, .int .i64 b2, .int .i64 c, .int .i64 f2, .int .i64 n, .int .i64 x0, .int .i64 x1, .int .i64 x2] 55)) (w.heap.size) [.slice p.pa PL p.pc] from (hx0).alloc (Nat.zero_lt_succ _) (.cells #[.int .i64 2, .int .i64 f, .int .i64 b, .int .i64 tob, .int .i64 other, .int .i64 pos, .int .i64 id, .int .i64 kind, .int .i64 dst, .int .i64 a, .int .i64 b2, .int .i64 c, .int .i64 f2, .int .i64 n, .int .i64 x0, .int .i64 x1, .int .i64 x2] 55))
  have hx1 := BoxL.new (w.alloc (.cells #[.slice p.pa PL p.pc] 24)) [.int .i64 2, .int .i64 f, .int .i64 b, .int .i64 tob, .int .i64 other, .int .i64 pos, .int .i64 id, .int .i64 kind, .int .i64 dst, .int .i64 a, .int .i64 b2, .int .i64 c, .int .i64 f2, .int .i64 n, .int .i64 x0, .int .i64 x1, .int .i64 x2] 55
  rw [World.size_alloc] at hx1
  have HX1 := Lib.hid (show BoxL ((w.alloc (.cells #[.slice p.pa PL p.pc] 24)).alloc (.cells #[.int .i64 2, .int .i64 f, .int .i64 b, .int .i64 tob, .int .i64 other, .int .i64 pos, .int .i64 id, .int .i64 kind, .int .i64 dst, .int .i64 a, .int .i64 b2, .int .i64 c, .int .i64 f2, .int .i64 n, .int .i64 x0, .int .i64 x1, .int .i64 x2] 55)) (w.heap.size + 1) [.int .i64 2, .int .i64 f, .int .i64 b, .int .i64 tob, .int .i64 other, .int .i64 pos, .int .i64 id, .int .i64 kind, .int .i64 dst, .int .i64 a, .int .i64 b2, .int .i64 c, .int .i64 f2, .int .i64 n, .int .i64 x0, .int .i64 x1, .int .i64 x2] from hx1)
  clear hx0 hx1
  have HRW := Lib.hid (HRD0.out.on HBb.out)
  generalize hW : ((w.alloc (.cells #[.slice p.pa PL p.pc] 24)).alloc (.cells #[.int .i64 2, .int .i64 f, .int .i64 b, .int .i64 tob, .int .i64 other, .int .i64 pos, .int .i64 id, .int .i64 kind, .int .i64 dst, .int .i64 a, .int .i64 b2, .int .i64 c, .int .i64 f2, .int .i64 n, .int .i64 x0, .int .i64 x1, .int .i64 x2] 55)) = W at HBb HX0 HX1 HRW
  obtain ⟨g, hg⟩ : ∃ g, w.heap.size = g := ⟨_, rfl⟩
  have HGL := Lib.hid HBb.out.size
  rw [hg] at HBb HGL HX0 HX1 ⊢
  have HL0 := Lib.hid (HX0.out.lt (Nat.zero_lt_succ _))
  have HL1 := Lib.hid (HX1.out.lt (Nat.zero_lt_succ _))
  have HC : Hid (∀ wr, Below W.heap.size W wr → wr.cell? ⟨g, 0, none⟩ = some (.slice p.pa PL p.pc) ∧ wr.cell? ⟨g + 1, 0, none⟩ = some (.int .i64 2) ∧ wr.rangeAt (g + 1) 0 [.int .i64 2, .int .i64 f, .int .i64 b, .int .i64 tob, .int .i64 other, .int .i64 pos, .int .i64 id, .int .i64 kind, .int .i64 dst, .int .i64 a, .int .i64 b2, .int .i64 c, .int .i64 f2, .int .i64 n, .int .i64 x0, .int .i64 x1, .int .i64 x2]) := Lib.hid fun wr hb => ⟨((HX0.out.below hb HL0.out) 0 _ rfl).1, ((HX1.out.below hb HL1.out) 0 _ rfl).1, (HX1.out.below hb HL1.out).range⟩
  have HBN : Hid (Below W.heap.size W W) := Lib.hid (Below.refl _ _)
  obtain ⟨k0, k1, -⟩ := HC.out _ HBN.out
  go_enter Tryz.func8, Tryz.ntmps8
  go_upto_region 4 with (first
    | (go_at_call 47; refine (HAW.out _ (HRW.out.on HBN.out)).mono ?_; rintro x wa ⟨rfl, hbn⟩; have hbx := HBN.out.trans (hbn.mono HBN.out.size); clear HBN hbn k0 k1; have HBN := Lib.hid hbx; clear hbx; obtain ⟨k0, k1, -⟩ := HC.out _ HBN.out)
    | (go_at_call 14; refine (HFE.out _ (HRW.out.on HBN.out)).mono ?_; rintro x wb ⟨rfl, hbn⟩; have hbx := HBN.out.trans (hbn.mono HBN.out.size); clear HBN hbn k0 k1; have HBN := Lib.hid hbx; clear hbx; obtain ⟨k0, k1, -⟩ := HC.out _ HBN.out))
  go_upto_region 5 with (first
    | (go_at_call 49; refine (HAP.out _ (HRW.out.on HBN.out)).mono ?_; rintro x we ⟨q, rfl, hqi, hqw, hqd, hbn⟩; have HQI := Lib.hid hqi; have HQD := Lib.hid hqd; have HQW := Lib.hid hqw; clear hqi hqd hqw; have hbx := HBN.out.trans (hbn.mono HBN.out.size); clear HBN hbn k0 k1; have HBN := Lib.hid hbx; clear hbx; obtain ⟨k0, k1, -⟩ := HC.out _ HBN.out)
    | ((with_reducible apply wpList_load_w (ty := 55) (b := g + 1) (o := 0) (cs := [.int .i64 2, .int .i64 f, .int .i64 b, .int .i64 tob, .int .i64 other, .int .i64 pos, .int .i64 id, .int .i64 kind, .int .i64 dst, .int .i64 a, .int .i64 b2, .int .i64 c, .int .i64 f2, .int .i64 n, .int .i64 x0, .int .i64 x1, .int .i64 x2])); rotate_left; rfl; rfl; exact (HC.out _ HBN.out).2.2; exact Tryz.underlying55; rfl; kernel_rfl; rotate_left; rfl; simp only [Act.put, List.setIfInBounds_toArray, List.set_cons_zero, List.set_cons_succ]))
  have HAR := Lib.hid (HAQ.out q HQD.out HQW.out)
  unfold Pg.val at HAR
  obtain ⟨QL, hQL⟩ : ∃ QL, q.funs.length = QL := ⟨_, rfl⟩
  have HQL := Lib.hid hQL
  simp only [hQL] at HAR ⊢
  clear hQL HAQ
  have hb5 := below1 we (.cells #[.slice q.pa QL q.pc] 24)
  have HXQ : Hid (BoxL (we.alloc (.cells #[.slice q.pa QL q.pc] 24)) we.heap.size [.slice q.pa QL q.pc]) := Lib.hid (BoxL.new we [.slice q.pa QL q.pc] 24)
  have HRQ := Lib.hid (show Rd (we.alloc (.cells #[.slice q.pa QL q.pc] 24)) q from (show Rd we q from ⟨HQI.out, (HRW.out.on HBN.out).2.1, (HRW.out.on HBN.out).2.2⟩).on hb5)
  have HBM := Lib.hid (HBN.out.trans (hb5.mono HBN.out.size))
  clear hb5 HBN HQI k0 k1
  generalize we.alloc (.cells #[.slice q.pa QL q.pc] 24) = W5 at *
  generalize we.heap.size = gq at *
  have HLQ := Lib.hid (HXQ.out.lt (Nat.zero_lt_succ _))
  have HRP := Lib.hid (HRW.out.on HBM.out)
  have HB5 := Lib.hid (HBb.out.trans (HBM.out.mono HGL.out))
  have HC5 : Hid (∀ wr, Below W5.heap.size W5 wr → wr.cell? ⟨g, 0, none⟩ = some (.slice p.pa PL p.pc) ∧ wr.cell? ⟨g + 1, 0, none⟩ = some (.int .i64 2) ∧ wr.cell? ⟨gq, 0, none⟩ = some (.slice q.pa QL q.pc) ∧ wr.rangeAt (g + 1) 0 [.int .i64 2, .int .i64 f, .int .i64 b, .int .i64 tob, .int .i64 other, .int .i64 pos, .int .i64 id, .int .i64 kind, .int .i64 dst, .int .i64 a, .int .i64 b2, .int .i64 c, .int .i64 f2, .int .i64 n, .int .i64 x0, .int .i64 x1, .int .i64 x2]) := Lib.hid fun wr hb => have h := HC.out wr (HBM.out.trans (hb.mono HBM.out.size)); ⟨h.1, h.2.1, ((HXQ.out.below hb HLQ.out) 0 _ rfl).1, h.2.2⟩
  have HBN : Hid (Below W5.heap.size W5 W5) := Lib.hid (Below.refl _ _)
  obtain ⟨k0, k1, k2, -⟩ := HC5.out _ HBN.out
  clear HC HXQ HBM HAP HRW
  go_upto_region 6 with (first
    | (go_at_call 51; refine (HUN.out _ (HRP.out.on HBN.out)).mono ?_; rintro x wu ⟨rfl, hbn⟩; have hbx := HBN.out.trans (hbn.mono HBN.out.size); clear HBN hbn k0 k1 k2; have HBN := Lib.hid hbx; clear hbx; obtain ⟨k0, k1, k2, -⟩ := HC5.out _ HBN.out)
    | ((with_reducible apply wpList_load_w (ty := 55) (b := g + 1) (o := 0) (cs := [.int .i64 2, .int .i64 f, .int .i64 b, .int .i64 tob, .int .i64 other, .int .i64 pos, .int .i64 id, .int .i64 kind, .int .i64 dst, .int .i64 a, .int .i64 b2, .int .i64 c, .int .i64 f2, .int .i64 n, .int .i64 x0, .int .i64 x1, .int .i64 x2])); rotate_left; rfl; rfl; exact (HC5.out _ HBN.out).2.2.2; exact Tryz.underlying55; rfl; kernel_rfl; rotate_left; rfl; simp only [Act.put, List.setIfInBounds_toArray, List.set_cons_zero, List.set_cons_succ])
    | ((with_reducible apply wpList_store_new (ty := 55) (c := #[.int .i64 0, .int .i64 0, .int .i64 0, .int .i64 0, .int .i64 0, .int .i64 0, .int .i64 0, .int .i64 0, .int .i64 0, .int .i64 0, .int .i64 0, .int .i64 0, .int .i64 0, .int .i64 0, .int .i64 0, .int .i64 0, .int .i64 0]) (c' := #[.int .i64 u0, .int .i64 u1, .int .i64 u2, .int .i64 u3, .int .i64 u4, .int .i64 u5, .int .i64 u6, .int .i64 u7, .int .i64 u8, .int .i64 u9, .int .i64 u10, .int .i64 u11, .int .i64 u12, .int .i64 u13, .int .i64 u14, .int .i64 u15, .int .i64 u16])); rfl; rfl; rfl; rfl; kernel_rfl; rfl; simp [Value.oneCell']; simp only [Act.put]))
  have hb6 := below1 wu (.cells #[.int .i64 u0, .int .i64 u1, .int .i64 u2, .int .i64 u3, .int .i64 u4, .int .i64 u5, .int .i64 u6, .int .i64 u7, .int .i64 u8, .int .i64 u9, .int .i64 u10, .int .i64 u11, .int .i64 u12, .int .i64 u13, .int .i64 u14, .int .i64 u15, .int .i64 u16] 55)
  have HXU : Hid (BoxL (wu.alloc (.cells #[.int .i64 u0, .int .i64 u1, .int .i64 u2, .int .i64 u3, .int .i64 u4, .int .i64 u5, .int .i64 u6, .int .i64 u7, .int .i64 u8, .int .i64 u9, .int .i64 u10, .int .i64 u11, .int .i64 u12, .int .i64 u13, .int .i64 u14, .int .i64 u15, .int .i64 u16] 55)) wu.heap.size [.int .i64 u0, .int .i64 u1, .int .i64 u2, .int .i64 u3, .int .i64 u4, .int .i64 u5, .int .i64 u6, .int .i64 u7, .int .i64 u8, .int .i64 u9, .int .i64 u10, .int .i64 u11, .int .i64 u12, .int .i64 u13, .int .i64 u14, .int .i64 u15, .int .i64 u16]) := Lib.hid (BoxL.new wu _ _)
  have HBM := Lib.hid (HBN.out.trans (hb6.mono HBN.out.size))
  clear hb6 HBN k0 k1 k2
  generalize wu.alloc (.cells #[.int .i64 u0, .int .i64 u1, .int .i64 u2, .int .i64 u3, .int .i64 u4, .int .i64 u5, .int .i64 u6, .int .i64 u7, .int .i64 u8, .int .i64 u9, .int .i64 u10, .int .i64 u11, .int .i64 u12, .int .i64 u13, .int .i64 u14, .int .i64 u15, .int .i64 u16] 55) = W6 at *
  generalize wu.heap.size = gu at *
  have HLU := Lib.hid (HXU.out.lt (Nat.zero_lt_succ _))
  have HRP6 := Lib.hid (HRP.out.on HBM.out)
  have HRQ6 := Lib.hid (HRQ.out.on HBM.out)
  have HB6 := Lib.hid (HB5.out.trans (HBM.out.mono (by rw [← hg]; exact HB5.out.size)))
  have HC6 : Hid (∀ wr, Below W6.heap.size W6 wr → wr.cell? ⟨g, 0, none⟩ = some (.slice p.pa PL p.pc) ∧ wr.cell? ⟨g + 1, 0, none⟩ = some (.int .i64 2) ∧ wr.cell? ⟨gq, 0, none⟩ = some (.slice q.pa QL q.pc) ∧ wr.rangeAt gu 0 [.int .i64 u0, .int .i64 u1, .int .i64 u2, .int .i64 u3, .int .i64 u4, .int .i64 u5, .int .i64 u6, .int .i64 u7, .int .i64 u8, .int .i64 u9, .int .i64 u10, .int .i64 u11, .int .i64 u12, .int .i64 u13, .int .i64 u14, .int .i64 u15, .int .i64 u16]) := Lib.hid fun wr hb => have h := HC5.out wr (HBM.out.trans (hb.mono HBM.out.size)); ⟨h.1, h.2.1, h.2.2.1, (HXU.out.below hb HLU.out).range⟩
  have HBN : Hid (Below W6.heap.size W6 W6) := Lib.hid (Below.refl _ _)
  obtain ⟨k0, k1, k2, -⟩ := HC6.out _ HBN.out
  clear HC5 HBM HRP HRQ HUN
  go_upto_region 7 with (first
    | (go_at_call 49; refine (HAR.out _ (HRQ6.out.on HBN.out)).mono ?_; rintro x wv ⟨r, bk, rfl, hri,  hbn⟩; have HRI := Lib.hid hri;  clear hri; have hbx := HBN.out.trans (hbn.mono HBN.out.size); clear HBN hbn k0 k1 k2; have HBN := Lib.hid hbx; clear hbx; obtain ⟨k0, k1, k2, -⟩ := HC6.out _ HBN.out)
    | ((with_reducible apply wpList_load_w (ty := 55) (b := gu) (o := 0) (cs := [.int .i64 u0, .int .i64 u1, .int .i64 u2, .int .i64 u3, .int .i64 u4, .int .i64 u5, .int .i64 u6, .int .i64 u7, .int .i64 u8, .int .i64 u9, .int .i64 u10, .int .i64 u11, .int .i64 u12, .int .i64 u13, .int .i64 u14, .int .i64 u15, .int .i64 u16])); rotate_left; rfl; rfl; exact (HC6.out _ HBN.out).2.2.2; exact Tryz.underlying55; rfl; kernel_rfl; rotate_left; rfl; simp only [Act.put, List.setIfInBounds_toArray, List.set_cons_zero, List.set_cons_succ]))
  obtain ⟨RL, hRL⟩ : ∃ RL, r.funs.length = RL := ⟨_, rfl⟩
  have HRL := Lib.hid hRL
  simp only [hRL]
  clear hRL
  have hb7 := below1 wv (.cells #[.slice r.pa RL r.pc] 24)
  have HXR : Hid (BoxL (wv.alloc (.cells #[.slice r.pa RL r.pc] 24)) wv.heap.size [.slice r.pa RL r.pc]) := Lib.hid (BoxL.new wv _ _)
  have HRR7 := Lib.hid (HRI.out.on hb7)
  have HBM := Lib.hid (HBN.out.trans (hb7.mono HBN.out.size))
  clear hb7 HBN HRI k0 k1 k2
  generalize wv.alloc (.cells #[.slice r.pa RL r.pc] 24) = W7 at *
  generalize wv.heap.size = gr at *
  have HLR := Lib.hid (HXR.out.lt (Nat.zero_lt_succ _))
  have HRP7 := Lib.hid (HRP6.out.on HBM.out)
  have HRQ7 := Lib.hid (HRQ6.out.on HBM.out)
  have HB7 := Lib.hid (HB6.out.trans (HBM.out.mono (by rw [← hg]; exact HB6.out.size)))
  have HC7 : Hid (∀ wr, Below W7.heap.size W7 wr → wr.cell? ⟨g, 0, none⟩ = some (.slice p.pa PL p.pc) ∧ wr.cell? ⟨g + 1, 0, none⟩ = some (.int .i64 2) ∧ wr.cell? ⟨gq, 0, none⟩ = some (.slice q.pa QL q.pc) ∧ wr.cell? ⟨gr, 0, none⟩ = some (.slice r.pa RL r.pc) ∧ True) := Lib.hid fun wr hb => have h := HC6.out wr (HBM.out.trans (hb.mono HBM.out.size)); ⟨h.1, h.2.1, h.2.2.1, ((HXR.out.below hb HLR.out) 0 _ rfl).1, trivial⟩
  have HBN : Hid (Below W7.heap.size W7 W7) := Lib.hid (Below.refl _ _)
  obtain ⟨k0, k1, k2, k3, -⟩ := HC7.out _ HBN.out
  clear HC6 HBM HRP6 HRQ6 HAR
  have HSQ7 := Lib.hid (fun wr (hb : Below W7.heap.size W7 wr) => HSQ.out wr q (HRQ7.out.on hb) HQD.out)
  unfold Pg.val at HSQ7
  simp only [HQL.out] at HSQ7
  go_wp2_with (first
    | (go_at_call 23; refine (HSQ7.out _ HBN.out).mono ?_; rintro x ws ⟨rfl, hbn⟩; have hbx := HBN.out.trans (hbn.mono HBN.out.size); clear HBN hbn k0 k1 k2 k3; have HBN := Lib.hid hbx; clear hbx; obtain ⟨k0, k1, k2, k3, -⟩ := HC7.out _ HBN.out))
  go_ret
  exact ⟨rfl, HB7.out.trans (HBN.out.mono (by rw [← hg]; exact HB7.out.size))⟩

set_option maxRecDepth 100000 in
set_option maxHeartbeats 16000000 in
theorem undoneF7 (p : Pg) (e : Ed) (w : World) (h : Rd w p) (hwf : p.wf) (hfew : p.few) (hc : chk p e = 0) (hok : undoB p e = false) (hop : e.op = 7) :
    Calls Tryz.prog 8 #[p.val, e.val] w fun x w' => x = .returned (.bool true) ∧ Below w.heap.size w w' := by
  have HAW := Lib.hid (fun wr (h : Rd wr p) => awake8_any wr h.2.1 h.2.2)
  have HFE := Lib.hid (fun wr (h : Rd wr p) => Few_any p wr h.1 true (by simp [hfew]))
  have her := hc
  obtain ⟨u, hu⟩ : ∃ u, undoE p e = u := ⟨_, rfl⟩
  have HAP := Lib.hid (fun wr (h : Rd wr p) => Apply_any p e wr h hfew hwf)
  simp only [AppRes, her] at HAP
  have HUN := Lib.hid (fun wr (h : Rd wr p) => Undo_any p e wr h hfew hwf)
  simp only [UndRes, hu, hok] at HUN
  have HQF := Lib.hid (fun (q : Pg) (hq : q.d = (appP p e).d) => (Pg.few_of_d hq).2 (few_app hfew e))
  have HAQ := Lib.hid (fun (q : Pg) (hq : q.d = (appP p e).d) (hqw : q.wf) wr (h : Rd wr q) => (Apply_any q u wr h ((Pg.few_of_d hq).2 (few_app hfew e)) hqw).mono (R' := fun x w' => ∃ (r : Pg) (bk : Int), x = .returned (.tuple #[r.val, .int .i64 bk]) ∧ PgIs w'.heap.size w' r ∧ Below wr.heap.size wr w') fun x w' ⟨r, hx, h1, _, _, h4⟩ => ⟨r, _, hx, h1, h4⟩)
  have HSQ := Lib.hid (fun wr (q : Pg) (h : Rd wr q) (hd : q.d = (appP p e).d) => Sane_any q wr h.1 h.2.1 h.2.2 ((Pg.few_of_d hd).2 (few_app hfew e)) true (iff_of_true rfl ((Pg.sane_of_d hd).2 (sane_app hc))))
  obtain ⟨u0, u1, u2, u3, u4, u5, ⟨u6, u7, u8, u9, u10, u11, u12, u13, u14, u15, u16⟩⟩ := u
  have hlen10 := hfew.1
  clear hu her hok hwf hfew
  clear hc
  have HRD0 := Lib.hid h
  clear h
  obtain ⟨op, f, b, tob, other, pos, ⟨id, kind, dst, a, b2, c, f2, n, x0, x1, x2⟩⟩ := e
  try dsimp only at *
  subst hop
  unfold Pg.val at HFE HAP HUN
  unfold Ed.val at HAP HUN HAQ
  unfold Pg.val Ed.val
  try dsimp only at *
  obtain ⟨PL, hPL⟩ : ∃ PL, p.funs.length = PL := ⟨_, rfl⟩
  simp only [hPL] at HFE HAP HUN ⊢
  clear hPL
  have HBb := Lib.hid (below2 w (.cells #[.slice p.pa PL p.pc] 24) (.cells #[.int .i64 7, .int .i64 f, .int .i64 b, .int .i64 tob, .int .i64 other, .int .i64 pos, .int .i64 id, .int .i64 kind, .int .i64 dst, .int .i64 a, .int .i64 b2, .int .i64 c, .int .i64 f2, .int .i64 n, .int .i64 x0, .int .i64 x1, .int .i64 x2] 55))
  have hx0 := BoxL.new w [.slice p.pa PL p.pc] 24
  have HX0 := Lib.hid (show BoxL ((w.alloc (.cells #[.slice p.pa PL p.pc] 24)).alloc (.cells #[.int .i64 7, .int .i64 f, .int .i64 b, .int .i64 tob, .int .i64 other, .int .i64 pos, .int .i64 id, .int .i64 kind, .int .i64 dst, .int .i64 a, .int .i64 b2, .int .i64 c, .int .i64 f2, .int .i64 n, .int .i64 x0, .int .i64 x1, .int .i64 x2] 55)) (w.heap.size) [.slice p.pa PL p.pc] from (hx0).alloc (Nat.zero_lt_succ _) (.cells #[.int .i64 7, .int .i64 f, .int .i64 b, .int .i64 tob, .int .i64 other, .int .i64 pos, .int .i64 id, .int .i64 kind, .int .i64 dst, .int .i64 a, .int .i64 b2, .int .i64 c, .int .i64 f2, .int .i64 n, .int .i64 x0, .int .i64 x1, .int .i64 x2] 55))
  have hx1 := BoxL.new (w.alloc (.cells #[.slice p.pa PL p.pc] 24)) [.int .i64 7, .int .i64 f, .int .i64 b, .int .i64 tob, .int .i64 other, .int .i64 pos, .int .i64 id, .int .i64 kind, .int .i64 dst, .int .i64 a, .int .i64 b2, .int .i64 c, .int .i64 f2, .int .i64 n, .int .i64 x0, .int .i64 x1, .int .i64 x2] 55
  rw [World.size_alloc] at hx1
  have HX1 := Lib.hid (show BoxL ((w.alloc (.cells #[.slice p.pa PL p.pc] 24)).alloc (.cells #[.int .i64 7, .int .i64 f, .int .i64 b, .int .i64 tob, .int .i64 other, .int .i64 pos, .int .i64 id, .int .i64 kind, .int .i64 dst, .int .i64 a, .int .i64 b2, .int .i64 c, .int .i64 f2, .int .i64 n, .int .i64 x0, .int .i64 x1, .int .i64 x2] 55)) (w.heap.size + 1) [.int .i64 7, .int .i64 f, .int .i64 b, .int .i64 tob, .int .i64 other, .int .i64 pos, .int .i64 id, .int .i64 kind, .int .i64 dst, .int .i64 a, .int .i64 b2, .int .i64 c, .int .i64 f2, .int .i64 n, .int .i64 x0, .int .i64 x1, .int .i64 x2] from hx1)
  clear hx0 hx1
  have HRW := Lib.hid (HRD0.out.on HBb.out)
  generalize hW : ((w.alloc (.cells #[.slice p.pa PL p.pc] 24)).alloc (.cells #[.int .i64 7, .int .i64 f, .int .i64 b, .int .i64 tob, .int .i64 other, .int .i64 pos, .int .i64 id, .int .i64 kind, .int .i64 dst, .int .i64 a, .int .i64 b2, .int .i64 c, .int .i64 f2, .int .i64 n, .int .i64 x0, .int .i64 x1, .int .i64 x2] 55)) = W at HBb HX0 HX1 HRW
  obtain ⟨g, hg⟩ : ∃ g, w.heap.size = g := ⟨_, rfl⟩
  have HGL := Lib.hid HBb.out.size
  rw [hg] at HBb HGL HX0 HX1 ⊢
  have HL0 := Lib.hid (HX0.out.lt (Nat.zero_lt_succ _))
  have HL1 := Lib.hid (HX1.out.lt (Nat.zero_lt_succ _))
  have HC : Hid (∀ wr, Below W.heap.size W wr → wr.cell? ⟨g, 0, none⟩ = some (.slice p.pa PL p.pc) ∧ wr.cell? ⟨g + 1, 0, none⟩ = some (.int .i64 7) ∧ wr.rangeAt (g + 1) 0 [.int .i64 7, .int .i64 f, .int .i64 b, .int .i64 tob, .int .i64 other, .int .i64 pos, .int .i64 id, .int .i64 kind, .int .i64 dst, .int .i64 a, .int .i64 b2, .int .i64 c, .int .i64 f2, .int .i64 n, .int .i64 x0, .int .i64 x1, .int .i64 x2]) := Lib.hid fun wr hb => ⟨((HX0.out.below hb HL0.out) 0 _ rfl).1, ((HX1.out.below hb HL1.out) 0 _ rfl).1, (HX1.out.below hb HL1.out).range⟩
  have HBN : Hid (Below W.heap.size W W) := Lib.hid (Below.refl _ _)
  obtain ⟨k0, k1, -⟩ := HC.out _ HBN.out
  go_enter Tryz.func8, Tryz.ntmps8
  go_upto_region 4 with (first
    | (go_at_call 47; refine (HAW.out _ (HRW.out.on HBN.out)).mono ?_; rintro x wa ⟨rfl, hbn⟩; have hbx := HBN.out.trans (hbn.mono HBN.out.size); clear HBN hbn k0 k1; have HBN := Lib.hid hbx; clear hbx; obtain ⟨k0, k1, -⟩ := HC.out _ HBN.out)
    | (go_at_call 14; refine (HFE.out _ (HRW.out.on HBN.out)).mono ?_; rintro x wb ⟨rfl, hbn⟩; have hbx := HBN.out.trans (hbn.mono HBN.out.size); clear HBN hbn k0 k1; have HBN := Lib.hid hbx; clear hbx; obtain ⟨k0, k1, -⟩ := HC.out _ HBN.out))
  go_upto_region 5 with (first
    | (go_at_call 49; refine (HAP.out _ (HRW.out.on HBN.out)).mono ?_; rintro x we ⟨q, rfl, hqi, hqw, hqd, hbn⟩; have HQI := Lib.hid hqi; have HQD := Lib.hid hqd; have HQW := Lib.hid hqw; clear hqi hqd hqw; have hbx := HBN.out.trans (hbn.mono HBN.out.size); clear HBN hbn k0 k1; have HBN := Lib.hid hbx; clear hbx; obtain ⟨k0, k1, -⟩ := HC.out _ HBN.out)
    | ((with_reducible apply wpList_load_w (ty := 55) (b := g + 1) (o := 0) (cs := [.int .i64 7, .int .i64 f, .int .i64 b, .int .i64 tob, .int .i64 other, .int .i64 pos, .int .i64 id, .int .i64 kind, .int .i64 dst, .int .i64 a, .int .i64 b2, .int .i64 c, .int .i64 f2, .int .i64 n, .int .i64 x0, .int .i64 x1, .int .i64 x2])); rotate_left; rfl; rfl; exact (HC.out _ HBN.out).2.2; exact Tryz.underlying55; rfl; kernel_rfl; rotate_left; rfl; simp only [Act.put, List.setIfInBounds_toArray, List.set_cons_zero, List.set_cons_succ]))
  have HAR := Lib.hid (HAQ.out q HQD.out HQW.out)
  unfold Pg.val at HAR
  obtain ⟨QL, hQL⟩ : ∃ QL, q.funs.length = QL := ⟨_, rfl⟩
  have HQL := Lib.hid hQL
  simp only [hQL] at HAR ⊢
  clear hQL HAQ
  have hb5 := below1 we (.cells #[.slice q.pa QL q.pc] 24)
  have HXQ : Hid (BoxL (we.alloc (.cells #[.slice q.pa QL q.pc] 24)) we.heap.size [.slice q.pa QL q.pc]) := Lib.hid (BoxL.new we [.slice q.pa QL q.pc] 24)
  have HRQ := Lib.hid (show Rd (we.alloc (.cells #[.slice q.pa QL q.pc] 24)) q from (show Rd we q from ⟨HQI.out, (HRW.out.on HBN.out).2.1, (HRW.out.on HBN.out).2.2⟩).on hb5)
  have HBM := Lib.hid (HBN.out.trans (hb5.mono HBN.out.size))
  clear hb5 HBN HQI k0 k1
  generalize we.alloc (.cells #[.slice q.pa QL q.pc] 24) = W5 at *
  generalize we.heap.size = gq at *
  have HLQ := Lib.hid (HXQ.out.lt (Nat.zero_lt_succ _))
  have HRP := Lib.hid (HRW.out.on HBM.out)
  have HB5 := Lib.hid (HBb.out.trans (HBM.out.mono HGL.out))
  have HC5 : Hid (∀ wr, Below W5.heap.size W5 wr → wr.cell? ⟨g, 0, none⟩ = some (.slice p.pa PL p.pc) ∧ wr.cell? ⟨g + 1, 0, none⟩ = some (.int .i64 7) ∧ wr.cell? ⟨gq, 0, none⟩ = some (.slice q.pa QL q.pc) ∧ wr.rangeAt (g + 1) 0 [.int .i64 7, .int .i64 f, .int .i64 b, .int .i64 tob, .int .i64 other, .int .i64 pos, .int .i64 id, .int .i64 kind, .int .i64 dst, .int .i64 a, .int .i64 b2, .int .i64 c, .int .i64 f2, .int .i64 n, .int .i64 x0, .int .i64 x1, .int .i64 x2]) := Lib.hid fun wr hb => have h := HC.out wr (HBM.out.trans (hb.mono HBM.out.size)); ⟨h.1, h.2.1, ((HXQ.out.below hb HLQ.out) 0 _ rfl).1, h.2.2⟩
  have HBN : Hid (Below W5.heap.size W5 W5) := Lib.hid (Below.refl _ _)
  obtain ⟨k0, k1, k2, -⟩ := HC5.out _ HBN.out
  clear HC HXQ HBM HAP HRW
  go_upto_region 6 with (first
    | (go_at_call 51; refine (HUN.out _ (HRP.out.on HBN.out)).mono ?_; rintro x wu ⟨rfl, hbn⟩; have hbx := HBN.out.trans (hbn.mono HBN.out.size); clear HBN hbn k0 k1 k2; have HBN := Lib.hid hbx; clear hbx; obtain ⟨k0, k1, k2, -⟩ := HC5.out _ HBN.out)
    | ((with_reducible apply wpList_load_w (ty := 55) (b := g + 1) (o := 0) (cs := [.int .i64 7, .int .i64 f, .int .i64 b, .int .i64 tob, .int .i64 other, .int .i64 pos, .int .i64 id, .int .i64 kind, .int .i64 dst, .int .i64 a, .int .i64 b2, .int .i64 c, .int .i64 f2, .int .i64 n, .int .i64 x0, .int .i64 x1, .int .i64 x2])); rotate_left; rfl; rfl; exact (HC5.out _ HBN.out).2.2.2; exact Tryz.underlying55; rfl; kernel_rfl; rotate_left; rfl; simp only [Act.put, List.setIfInBounds_toArray, List.set_cons_zero, List.set_cons_succ])
    | ((with_reducible apply wpList_store_new (ty := 55) (c := #[.int .i64 0, .int .i64 0, .int .i64 0, .int .i64 0, .int .i64 0, .int .i64 0, .int .i64 0, .int .i64 0, .int .i64 0, .int .i64 0, .int .i64 0, .int .i64 0, .int .i64 0, .int .i64 0, .int .i64 0, .int .i64 0, .int .i64 0]) (c' := #[.int .i64 u0, .int .i64 u1, .int .i64 u2, .int .i64 u3, .int .i64 u4, .int .i64 u5, .int .i64 u6, .int .i64 u7, .int .i64 u8, .int .i64 u9, .int .i64 u10, .int .i64 u11, .int .i64 u12, .int .i64 u13, .int .i64 u14, .int .i64 u15, .int .i64 u16])); rfl; rfl; rfl; rfl; kernel_rfl; rfl; simp [Value.oneCell']; simp only [Act.put]))
  have hb6 := below1 wu (.cells #[.int .i64 u0, .int .i64 u1, .int .i64 u2, .int .i64 u3, .int .i64 u4, .int .i64 u5, .int .i64 u6, .int .i64 u7, .int .i64 u8, .int .i64 u9, .int .i64 u10, .int .i64 u11, .int .i64 u12, .int .i64 u13, .int .i64 u14, .int .i64 u15, .int .i64 u16] 55)
  have HXU : Hid (BoxL (wu.alloc (.cells #[.int .i64 u0, .int .i64 u1, .int .i64 u2, .int .i64 u3, .int .i64 u4, .int .i64 u5, .int .i64 u6, .int .i64 u7, .int .i64 u8, .int .i64 u9, .int .i64 u10, .int .i64 u11, .int .i64 u12, .int .i64 u13, .int .i64 u14, .int .i64 u15, .int .i64 u16] 55)) wu.heap.size [.int .i64 u0, .int .i64 u1, .int .i64 u2, .int .i64 u3, .int .i64 u4, .int .i64 u5, .int .i64 u6, .int .i64 u7, .int .i64 u8, .int .i64 u9, .int .i64 u10, .int .i64 u11, .int .i64 u12, .int .i64 u13, .int .i64 u14, .int .i64 u15, .int .i64 u16]) := Lib.hid (BoxL.new wu _ _)
  have HBM := Lib.hid (HBN.out.trans (hb6.mono HBN.out.size))
  clear hb6 HBN k0 k1 k2
  generalize wu.alloc (.cells #[.int .i64 u0, .int .i64 u1, .int .i64 u2, .int .i64 u3, .int .i64 u4, .int .i64 u5, .int .i64 u6, .int .i64 u7, .int .i64 u8, .int .i64 u9, .int .i64 u10, .int .i64 u11, .int .i64 u12, .int .i64 u13, .int .i64 u14, .int .i64 u15, .int .i64 u16] 55) = W6 at *
  generalize wu.heap.size = gu at *
  have HLU := Lib.hid (HXU.out.lt (Nat.zero_lt_succ _))
  have HRP6 := Lib.hid (HRP.out.on HBM.out)
  have HRQ6 := Lib.hid (HRQ.out.on HBM.out)
  have HB6 := Lib.hid (HB5.out.trans (HBM.out.mono (by rw [← hg]; exact HB5.out.size)))
  have HC6 : Hid (∀ wr, Below W6.heap.size W6 wr → wr.cell? ⟨g, 0, none⟩ = some (.slice p.pa PL p.pc) ∧ wr.cell? ⟨g + 1, 0, none⟩ = some (.int .i64 7) ∧ wr.cell? ⟨gq, 0, none⟩ = some (.slice q.pa QL q.pc) ∧ wr.rangeAt gu 0 [.int .i64 u0, .int .i64 u1, .int .i64 u2, .int .i64 u3, .int .i64 u4, .int .i64 u5, .int .i64 u6, .int .i64 u7, .int .i64 u8, .int .i64 u9, .int .i64 u10, .int .i64 u11, .int .i64 u12, .int .i64 u13, .int .i64 u14, .int .i64 u15, .int .i64 u16]) := Lib.hid fun wr hb => have h := HC5.out wr (HBM.out.trans (hb.mono HBM.out.size)); ⟨h.1, h.2.1, h.2.2.1, (HXU.out.below hb HLU.out).range⟩
  have HBN : Hid (Below W6.heap.size W6 W6) := Lib.hid (Below.refl _ _)
  obtain ⟨k0, k1, k2, -⟩ := HC6.out _ HBN.out
  clear HC5 HBM HRP HRQ HUN
  go_upto_region 7 with (first
    | (go_at_call 49; refine (HAR.out _ (HRQ6.out.on HBN.out)).mono ?_; rintro x wv ⟨r, bk, rfl, hri,  hbn⟩; have HRI := Lib.hid hri;  clear hri; have hbx := HBN.out.trans (hbn.mono HBN.out.size); clear HBN hbn k0 k1 k2; have HBN := Lib.hid hbx; clear hbx; obtain ⟨k0, k1, k2, -⟩ := HC6.out _ HBN.out)
    | ((with_reducible apply wpList_load_w (ty := 55) (b := gu) (o := 0) (cs := [.int .i64 u0, .int .i64 u1, .int .i64 u2, .int .i64 u3, .int .i64 u4, .int .i64 u5, .int .i64 u6, .int .i64 u7, .int .i64 u8, .int .i64 u9, .int .i64 u10, .int .i64 u11, .int .i64 u12, .int .i64 u13, .int .i64 u14, .int .i64 u15, .int .i64 u16])); rotate_left; rfl; rfl; exact (HC6.out _ HBN.out).2.2.2; exact Tryz.underlying55; rfl; kernel_rfl; rotate_left; rfl; simp only [Act.put, List.setIfInBounds_toArray, List.set_cons_zero, List.set_cons_succ]))
  obtain ⟨RL, hRL⟩ : ∃ RL, r.funs.length = RL := ⟨_, rfl⟩
  have HRL := Lib.hid hRL
  simp only [hRL]
  clear hRL
  have hb7 := below1 wv (.cells #[.slice r.pa RL r.pc] 24)
  have HXR : Hid (BoxL (wv.alloc (.cells #[.slice r.pa RL r.pc] 24)) wv.heap.size [.slice r.pa RL r.pc]) := Lib.hid (BoxL.new wv _ _)
  have HRR7 := Lib.hid (HRI.out.on hb7)
  have HBM := Lib.hid (HBN.out.trans (hb7.mono HBN.out.size))
  clear hb7 HBN HRI k0 k1 k2
  generalize wv.alloc (.cells #[.slice r.pa RL r.pc] 24) = W7 at *
  generalize wv.heap.size = gr at *
  have HLR := Lib.hid (HXR.out.lt (Nat.zero_lt_succ _))
  have HRP7 := Lib.hid (HRP6.out.on HBM.out)
  have HRQ7 := Lib.hid (HRQ6.out.on HBM.out)
  have HB7 := Lib.hid (HB6.out.trans (HBM.out.mono (by rw [← hg]; exact HB6.out.size)))
  have HC7 : Hid (∀ wr, Below W7.heap.size W7 wr → wr.cell? ⟨g, 0, none⟩ = some (.slice p.pa PL p.pc) ∧ wr.cell? ⟨g + 1, 0, none⟩ = some (.int .i64 7) ∧ wr.cell? ⟨gq, 0, none⟩ = some (.slice q.pa QL q.pc) ∧ wr.cell? ⟨gr, 0, none⟩ = some (.slice r.pa RL r.pc) ∧ True) := Lib.hid fun wr hb => have h := HC6.out wr (HBM.out.trans (hb.mono HBM.out.size)); ⟨h.1, h.2.1, h.2.2.1, ((HXR.out.below hb HLR.out) 0 _ rfl).1, trivial⟩
  have HBN : Hid (Below W7.heap.size W7 W7) := Lib.hid (Below.refl _ _)
  obtain ⟨k0, k1, k2, k3, -⟩ := HC7.out _ HBN.out
  clear HC6 HBM HRP6 HRQ6 HAR
  have HSQ7 := Lib.hid (fun wr (hb : Below W7.heap.size W7 wr) => HSQ.out wr q (HRQ7.out.on hb) HQD.out)
  unfold Pg.val at HSQ7
  simp only [HQL.out] at HSQ7
  go_wp2_with (first
    | (go_at_call 23; refine (HSQ7.out _ HBN.out).mono ?_; rintro x ws ⟨rfl, hbn⟩; have hbx := HBN.out.trans (hbn.mono HBN.out.size); clear HBN hbn k0 k1 k2 k3; have HBN := Lib.hid hbx; clear hbx; obtain ⟨k0, k1, k2, k3, -⟩ := HC7.out _ HBN.out))
  go_ret
  exact ⟨rfl, HB7.out.trans (HBN.out.mono (by rw [← hg]; exact HB7.out.size))⟩

theorem applyUndone_any (p : Pg) (e : Ed) (w : World) (h : Rd w p) (hwf : p.wf) :
    Calls Tryz.prog 8 #[p.val, e.val] w fun x w' => x = .returned (.bool true) ∧ Below w.heap.size w w' := by
  by_cases hfew : p.few
  rotate_left
  · exact undoneN p e w h hfew
  by_cases hc : chk p e = 0
  rotate_left
  · exact undoneE p e w h hwf hfew hc
  cases hok : undoB p e with
  | true => exact undoneT p e w h hwf hfew hc hok
  | false =>
    have h7 := (chk_zero hc).2.1
    rcases (by omega : e.op = 0 ∨ e.op = 2 ∨ e.op = 7 ∨ (e.op = 1 ∨ e.op = 3 ∨ e.op = 4 ∨ e.op = 5 ∨ e.op = 6)) with ho | ho | ho | ho
    · exact undoneF0 p e w h hwf hfew hc hok ho
    · exact undoneF2 p e w h hwf hfew hc hok ho
    · exact undoneF7 p e w h hwf hfew hc hok ho
    · rw [undoB_of hc ho] at hok; cases hok
end Go.Proofs.YtbddjneinfkmpaaGreatDoor
