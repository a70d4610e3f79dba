/- Edits: checkInsert. -/
import Derived.Test.YtbddjneinfkmpaaGreatDoorEdB
namespace Go.Proofs.YtbddjneinfkmpaaGreatDoor
open Go Go.RowKit Go.Sort

set_option maxRecDepth 100000 in
set_option maxHeartbeats 16000000 in
theorem checkInsert_any (p : Pg) (e : Ed) (w : World) (h : Rd w p) (hfew : p.few) (r : Int) (hr : insertE p e.f e.b e.pos e.i = r) :
    Calls Tryz.prog 148 #[p.val, e.val] w fun e w' => e = .returned (.int .i64 r) ∧ Below w.heap.size w w' := by
  obtain ⟨op, f, b, tob, other, pos, ⟨id, kind, dst, a, b2, c, f2, n, x0, x1, x2⟩⟩ := e
  dsimp only at hr
  obtain ⟨x, hx⟩ : ∃ x, funR p f = x := ⟨_, rfl⟩
  obtain ⟨rf, hrf⟩ : ∃ rf, funB p f = rf := ⟨_, rfl⟩
  obtain ⟨y, hy⟩ : ∃ y, blkR p f b = y := ⟨_, rfl⟩
  obtain ⟨rb, hrb⟩ : ∃ rb, blkB p f b = rb := ⟨_, rfl⟩
  obtain ⟨fm, hfm⟩ : ∃ fm, decide (Ins.form ⟨id, kind, dst, a, b2, c, f2, n, x0, x1, x2⟩) = fm := ⟨_, rfl⟩
  obtain ⟨vE, hvE⟩ : ∃ vE, varsE x ⟨id, kind, dst, a, b2, c, f2, n, x0, x1, x2⟩ = vE := ⟨_, rfl⟩
  obtain ⟨cE, hcE⟩ : ∃ cE, callE p ⟨id, kind, dst, a, b2, c, f2, n, x0, x1, x2⟩ = cE := ⟨_, rfl⟩
  obtain ⟨ib, hib⟩ : ∃ ib, idB p = ib := ⟨_, rfl⟩
  have HFU := Lib.hid (fun wr (h : Rd wr p) => Fun_any p f wr h.1 h.2.1 h.2.2 hfew x hx rf hrf)
  have HBK := Lib.hid (fun wr (h : Rd wr p) => Block_any p f b wr h.1 h.2.1 h.2.2 hfew y hy rb hrb)
  have HFM := Lib.hid (fun wr (h : Rd wr p) => Form_any ⟨id, kind, dst, a, b2, c, f2, n, x0, x1, x2⟩ wr h.2.1 fm hfm)
  have HVR := Lib.hid (fun wr (h : Rd wr p) => checkVars_any x ⟨id, kind, dst, a, b2, c, f2, n, x0, x1, x2⟩ wr h.2.1 vE hvE)
  have HCL := Lib.hid (fun wr (h : Rd wr p) => checkCall_any p ⟨id, kind, dst, a, b2, c, f2, n, x0, x1, x2⟩ wr h hfew cE hcE)
  have HNI := Lib.hid (fun wr (h : Rd wr p) => NewId_any p wr h.1 h.2.1 h.2.2 hfew)
  have HID : Hid (∀ z, NewIdIs p z → decide (0 ≤ z) = ib) := Lib.hid fun z h => by rw [← hib]; exact newId_room h
  have hcl := (blkR_few hfew f b).1
  unfold insertE at hr
  rw [hy] at hcl
  rw [hrb, hy, hx, hfm, hvE, hcE, hib] at hr
  have HRD0 := Lib.hid h
  clear h hfew hx hrf hy hrb hfm hvE hcE hib
  obtain ⟨ar, vr, ba, bc, bl⟩ := x
  obtain ⟨lv, ca, cc, code, sa, sc, succ⟩ := y
  unfold Pg.val at HFU HBK HCL HNI
  unfold Fd.val at HFU HVR
  unfold Ins.val at HFM HVR HCL
  unfold Blk.val at HBK
  unfold Pg.val Ed.val
  dsimp only at *
  obtain ⟨PL, hPL⟩ : ∃ PL, p.funs.length = PL := ⟨_, rfl⟩
  obtain ⟨BL, hBL⟩ : ∃ BL, bl.length = BL := ⟨_, rfl⟩
  obtain ⟨CL, hCL⟩ : ∃ CL, code.length = CL := ⟨_, rfl⟩
  obtain ⟨SL, hSL⟩ : ∃ SL, succ.length = SL := ⟨_, rfl⟩
  simp only [hPL, hBL, hCL, hSL] at HFU HBK HVR HCL HNI hr hcl ⊢
  clear hPL hBL hCL hSL
  have HR := Lib.hid hr
  clear hr
  have HBb := Lib.hid (below2 w (.cells #[.slice p.pa PL p.pc] 24) (.cells #[.int .i64 op, .int .i64 f, .int .i64 b, .int .i64 tob, .int .i64 other, .int .i64 pos, .int .i64 id, .int .i64 kind, .int .i64 dst, .int .i64 a, .int .i64 b2, .int .i64 c, .int .i64 f2, .int .i64 n, .int .i64 x0, .int .i64 x1, .int .i64 x2] 55))
  have hx0 := BoxL.new w [.slice p.pa PL p.pc] 24
  have HX0 := Lib.hid (show BoxL ((w.alloc (.cells #[.slice p.pa PL p.pc] 24)).alloc (.cells #[.int .i64 op, .int .i64 f, .int .i64 b, .int .i64 tob, .int .i64 other, .int .i64 pos, .int .i64 id, .int .i64 kind, .int .i64 dst, .int .i64 a, .int .i64 b2, .int .i64 c, .int .i64 f2, .int .i64 n, .int .i64 x0, .int .i64 x1, .int .i64 x2] 55)) (w.heap.size) [.slice p.pa PL p.pc] from (hx0).alloc (Nat.zero_lt_succ _) (.cells #[.int .i64 op, .int .i64 f, .int .i64 b, .int .i64 tob, .int .i64 other, .int .i64 pos, .int .i64 id, .int .i64 kind, .int .i64 dst, .int .i64 a, .int .i64 b2, .int .i64 c, .int .i64 f2, .int .i64 n, .int .i64 x0, .int .i64 x1, .int .i64 x2] 55))
  have hx1 := BoxL.new (w.alloc (.cells #[.slice p.pa PL p.pc] 24)) [.int .i64 op, .int .i64 f, .int .i64 b, .int .i64 tob, .int .i64 other, .int .i64 pos, .int .i64 id, .int .i64 kind, .int .i64 dst, .int .i64 a, .int .i64 b2, .int .i64 c, .int .i64 f2, .int .i64 n, .int .i64 x0, .int .i64 x1, .int .i64 x2] 55
  rw [World.size_alloc] at hx1
  have HX1 := Lib.hid (show BoxL ((w.alloc (.cells #[.slice p.pa PL p.pc] 24)).alloc (.cells #[.int .i64 op, .int .i64 f, .int .i64 b, .int .i64 tob, .int .i64 other, .int .i64 pos, .int .i64 id, .int .i64 kind, .int .i64 dst, .int .i64 a, .int .i64 b2, .int .i64 c, .int .i64 f2, .int .i64 n, .int .i64 x0, .int .i64 x1, .int .i64 x2] 55)) (w.heap.size + 1) [.int .i64 op, .int .i64 f, .int .i64 b, .int .i64 tob, .int .i64 other, .int .i64 pos, .int .i64 id, .int .i64 kind, .int .i64 dst, .int .i64 a, .int .i64 b2, .int .i64 c, .int .i64 f2, .int .i64 n, .int .i64 x0, .int .i64 x1, .int .i64 x2] from hx1)
  clear hx0 hx1
  have HRW := Lib.hid (HRD0.out.on HBb.out)
  generalize hW : ((w.alloc (.cells #[.slice p.pa PL p.pc] 24)).alloc (.cells #[.int .i64 op, .int .i64 f, .int .i64 b, .int .i64 tob, .int .i64 other, .int .i64 pos, .int .i64 id, .int .i64 kind, .int .i64 dst, .int .i64 a, .int .i64 b2, .int .i64 c, .int .i64 f2, .int .i64 n, .int .i64 x0, .int .i64 x1, .int .i64 x2] 55)) = W at HBb HX0 HX1 HRW
  obtain ⟨g, hg⟩ : ∃ g, w.heap.size = g := ⟨_, rfl⟩
  have HGL := Lib.hid HBb.out.size
  rw [hg] at HBb HGL HX0 HX1 ⊢
  have HL0 := Lib.hid (HX0.out.lt (Nat.zero_lt_succ _))
  have HL1 := Lib.hid (HX1.out.lt (Nat.zero_lt_succ _))
  have HC : Hid (∀ wr, Below W.heap.size W wr → wr.cell? ⟨g, 0, none⟩ = some (.slice p.pa PL p.pc) ∧ wr.cell? ⟨g + 1, 0, none⟩ = some (.int .i64 op) ∧ wr.cell? ⟨g + 1, 1, none⟩ = some (.int .i64 f) ∧ wr.cell? ⟨g + 1, 2, none⟩ = some (.int .i64 b) ∧ wr.cell? ⟨g + 1, 3, none⟩ = some (.int .i64 tob) ∧ wr.cell? ⟨g + 1, 4, none⟩ = some (.int .i64 other) ∧ wr.cell? ⟨g + 1, 5, none⟩ = some (.int .i64 pos) ∧ wr.cell? ⟨g + 1, 6, none⟩ = some (.int .i64 id) ∧ wr.cell? ⟨g + 1, 7, none⟩ = some (.int .i64 kind) ∧ wr.cell? ⟨g + 1, 8, none⟩ = some (.int .i64 dst) ∧ wr.cell? ⟨g + 1, 9, none⟩ = some (.int .i64 a) ∧ wr.cell? ⟨g + 1, 10, none⟩ = some (.int .i64 b2) ∧ wr.cell? ⟨g + 1, 11, none⟩ = some (.int .i64 c) ∧ wr.cell? ⟨g + 1, 12, none⟩ = some (.int .i64 f2) ∧ wr.cell? ⟨g + 1, 13, none⟩ = some (.int .i64 n) ∧ wr.cell? ⟨g + 1, 14, none⟩ = some (.int .i64 x0) ∧ wr.cell? ⟨g + 1, 15, none⟩ = some (.int .i64 x1) ∧ wr.cell? ⟨g + 1, 16, none⟩ = some (.int .i64 x2)) := Lib.hid fun wr hb => ⟨((HX0.out.below hb HL0.out) 0 _ rfl).1, ((HX1.out.below hb HL1.out) 0 _ rfl).1, ((HX1.out.below hb HL1.out) 1 _ rfl).1, ((HX1.out.below hb HL1.out) 2 _ rfl).1, ((HX1.out.below hb HL1.out) 3 _ rfl).1, ((HX1.out.below hb HL1.out) 4 _ rfl).1, ((HX1.out.below hb HL1.out) 5 _ rfl).1, ((HX1.out.below hb HL1.out) 6 _ rfl).1, ((HX1.out.below hb HL1.out) 7 _ rfl).1, ((HX1.out.below hb HL1.out) 8 _ rfl).1, ((HX1.out.below hb HL1.out) 9 _ rfl).1, ((HX1.out.below hb HL1.out) 10 _ rfl).1, ((HX1.out.below hb HL1.out) 11 _ rfl).1, ((HX1.out.below hb HL1.out) 12 _ rfl).1, ((HX1.out.below hb HL1.out) 13 _ rfl).1, ((HX1.out.below hb HL1.out) 14 _ rfl).1, ((HX1.out.below hb HL1.out) 15 _ rfl).1, ((HX1.out.below hb HL1.out) 16 _ rfl).1⟩
  have HBN : Hid (Below W.heap.size W W) := Lib.hid (Below.refl _ _)
  obtain ⟨k0, k1, k2, k3, k4, k5, k6, k7, k8, k9, k10, k11, k12, k13, k14, k15, k16, k17⟩ := HC.out _ HBN.out
  go_enter Tryz.func148, Tryz.ntmps148
  go_wp2_with (first
    | (go_at_call 15; refine (HFU.out _ (HRW.out.on HBN.out)).mono ?_; rintro e wf ⟨rfl, hbn⟩; have HB1 := Lib.hid ((HBN.out.trans (hbn.mono HBN.out.size)).alloc (Nat.le_trans HBN.out.size hbn.size) (.cells #[.int .i64 ar, .int .i64 vr, .slice ba BL bc] 29)); have HXF := Lib.hid (show BoxL (wf.alloc (.cells #[.int .i64 ar, .int .i64 vr, .slice ba BL bc] 29)) wf.heap.size [.int .i64 ar, .int .i64 vr, .slice ba BL bc] from BoxL.new wf _ _); clear hbn HBN k0 k1 k2 k3 k4 k5 k6 k7 k8 k9 k10 k11 k12 k13 k14 k15 k16 k17; obtain ⟨k0, k1, k2, k3, k4, k5, k6, k7, k8, k9, k10, k11, k12, k13, k14, k15, k16, k17⟩ := HC.out _ HB1.out)
    | (go_at_call 17; refine (HBK.out _ (HRW.out.on HB1.out)).mono ?_; rintro e wb ⟨rfl, hbn⟩; have HB2 := Lib.hid ((HB1.out.trans (hbn.mono HB1.out.size)).alloc (Nat.le_trans HB1.out.size hbn.size) (.cells #[.bool lv, .slice ca CL cc, .slice sa SL sc] 35)); have HXG := Lib.hid ((HXF.out.below hbn (HXF.out.lt (Nat.zero_lt_succ _))).alloc (Nat.zero_lt_succ _) (.cells #[.bool lv, .slice ca CL cc, .slice sa SL sc] 35)); have HXB := Lib.hid (show BoxL (wb.alloc (.cells #[.bool lv, .slice ca CL cc, .slice sa SL sc] 35)) wb.heap.size [.bool lv, .slice ca CL cc, .slice sa SL sc] from BoxL.new wb _ _); clear hbn HXF HB1 k0 k1 k2 k3 k4 k5 k6 k7 k8 k9 k10 k11 k12 k13 k14 k15 k16 k17))
  generalize wb.alloc (.cells #[.bool lv, .slice ca CL cc, .slice sa SL sc] 35) = W2 at *
  obtain ⟨gx, hgx⟩ : ∃ b, wf.heap.size = b := ⟨_, rfl⟩
  obtain ⟨gy, hgy⟩ : ∃ b, wb.heap.size = b := ⟨_, rfl⟩
  rw [hgx] at HXG ⊢
  rw [hgy] at HXB ⊢
  clear hgx hgy
  have HLX := Lib.hid (HXG.out.lt (Nat.zero_lt_succ _))
  have HLY := Lib.hid (HXB.out.lt (Nat.zero_lt_succ _))
  have HF1 := Lib.hid (HBb.out.trans (HB2.out.mono HGL.out))
  have HG2 := Lib.hid (Nat.le_trans HGL.out HB2.out.size)
  have HRD2 := Lib.hid (HRW.out.on HB2.out)
  have HS : Hid (∀ w', Below W2.heap.size W2 w' → w'.cell? ⟨g, 0, none⟩ = some (.slice p.pa PL p.pc) ∧ w'.cell? ⟨g + 1, 5, none⟩ = some (.int .i64 pos) ∧ w'.cell? ⟨g + 1, 6, none⟩ = some (.int .i64 id) ∧ w'.cell? ⟨g + 1, 7, none⟩ = some (.int .i64 kind) ∧ w'.cell? ⟨g + 1, 8, none⟩ = some (.int .i64 dst) ∧ w'.cell? ⟨g + 1, 9, none⟩ = some (.int .i64 a) ∧ w'.cell? ⟨g + 1, 10, none⟩ = some (.int .i64 b2) ∧ w'.cell? ⟨g + 1, 11, none⟩ = some (.int .i64 c) ∧ w'.cell? ⟨g + 1, 12, none⟩ = some (.int .i64 f2) ∧ w'.cell? ⟨g + 1, 13, none⟩ = some (.int .i64 n) ∧ w'.cell? ⟨g + 1, 14, none⟩ = some (.int .i64 x0) ∧ w'.cell? ⟨g + 1, 15, none⟩ = some (.int .i64 x1) ∧ w'.cell? ⟨g + 1, 16, none⟩ = some (.int .i64 x2) ∧ w'.cell? ⟨gx, 0, none⟩ = some (.int .i64 ar) ∧ w'.cell? ⟨gx, 1, none⟩ = some (.int .i64 vr) ∧ w'.cell? ⟨gx, 2, none⟩ = some (.slice ba BL bc) ∧ w'.cell? ⟨gy, 1, none⟩ = some (.slice ca CL cc)) := Lib.hid fun w' hb => ⟨((HX0.out.below (HB2.out.trans (hb.mono HB2.out.size)) HL0.out) 0 _ rfl).1, ((HX1.out.below (HB2.out.trans (hb.mono HB2.out.size)) HL1.out) 5 _ rfl).1, ((HX1.out.below (HB2.out.trans (hb.mono HB2.out.size)) HL1.out) 6 _ rfl).1, ((HX1.out.below (HB2.out.trans (hb.mono HB2.out.size)) HL1.out) 7 _ rfl).1, ((HX1.out.below (HB2.out.trans (hb.mono HB2.out.size)) HL1.out) 8 _ rfl).1, ((HX1.out.below (HB2.out.trans (hb.mono HB2.out.size)) HL1.out) 9 _ rfl).1, ((HX1.out.below (HB2.out.trans (hb.mono HB2.out.size)) HL1.out) 10 _ rfl).1, ((HX1.out.below (HB2.out.trans (hb.mono HB2.out.size)) HL1.out) 11 _ rfl).1, ((HX1.out.below (HB2.out.trans (hb.mono HB2.out.size)) HL1.out) 12 _ rfl).1, ((HX1.out.below (HB2.out.trans (hb.mono HB2.out.size)) HL1.out) 13 _ rfl).1, ((HX1.out.below (HB2.out.trans (hb.mono HB2.out.size)) HL1.out) 14 _ rfl).1, ((HX1.out.below (HB2.out.trans (hb.mono HB2.out.size)) HL1.out) 15 _ rfl).1, ((HX1.out.below (HB2.out.trans (hb.mono HB2.out.size)) HL1.out) 16 _ rfl).1, ((HXG.out.below hb HLX.out) 0 _ rfl).1, ((HXG.out.below hb HLX.out) 1 _ rfl).1, ((HXG.out.below hb HLX.out) 2 _ rfl).1, ((HXB.out.below hb HLY.out) 1 _ rfl).1⟩
  have HBN : Hid (Below W2.heap.size W2 W2.drew) := Lib.hid (Below.refl _ _).drew
  clear HC HX0 HX1 HXG HXB HFU HBK
  by_cases hid : id = 0
  · subst hid
    have hR1 := HR.out
    simp only [decide_true, Bool.true_and] at hR1
    have HR1 := Lib.hid hR1
    clear hR1 HR
    go_region_held3 (fun w' => w'.cell? ⟨g, 0, none⟩ = some (.slice p.pa PL p.pc) ∧ w'.cell? ⟨g + 1, 5, none⟩ = some (.int .i64 pos) ∧ w'.cell? ⟨g + 1, 6, none⟩ = some (.int .i64 0) ∧ w'.cell? ⟨g + 1, 7, none⟩ = some (.int .i64 kind) ∧ w'.cell? ⟨g + 1, 8, none⟩ = some (.int .i64 dst) ∧ w'.cell? ⟨g + 1, 9, none⟩ = some (.int .i64 a) ∧ w'.cell? ⟨g + 1, 10, none⟩ = some (.int .i64 b2) ∧ w'.cell? ⟨g + 1, 11, none⟩ = some (.int .i64 c) ∧ w'.cell? ⟨g + 1, 12, none⟩ = some (.int .i64 f2) ∧ w'.cell? ⟨g + 1, 13, none⟩ = some (.int .i64 n) ∧ w'.cell? ⟨g + 1, 14, none⟩ = some (.int .i64 x0) ∧ w'.cell? ⟨g + 1, 15, none⟩ = some (.int .i64 x1) ∧ w'.cell? ⟨g + 1, 16, none⟩ = some (.int .i64 x2) ∧ w'.cell? ⟨gx, 0, none⟩ = some (.int .i64 ar) ∧ w'.cell? ⟨gx, 1, none⟩ = some (.int .i64 vr) ∧ w'.cell? ⟨gx, 2, none⟩ = some (.slice ba BL bc) ∧ w'.cell? ⟨gy, 1, none⟩ = some (.slice ca CL cc))
      (first | exact HS.out _ HBN.out | exact HS.out _ (HBN.out.alloc HBN.out.size _))
      (first
        | (go_at_call 75; refine (unless_any _ _ _).mono ?_; rintro e wn ⟨rfl, rfl⟩)
        | (go_at_call 107; refine (within_any _ _ _ _).mono ?_; rintro e wn ⟨rfl, rfl⟩)
        | (go_at_call 102; refine (HFM.out _ (HRD2.out.on HBN.out)).mono ?_; rintro e wn ⟨rfl, hbn⟩; have hbx := HBN.out.trans (hbn.mono HBN.out.size); clear HBN hbn; have HBN := Lib.hid hbx; clear hbx)
        | (go_at_call 169; refine (HVR.out _ (HRD2.out.on HBN.out)).mono ?_; rintro e wn ⟨rfl, hbn⟩; have hbx := HBN.out.trans (hbn.mono HBN.out.size); clear HBN hbn; have HBN := Lib.hid hbx; clear hbx)
        | (go_at_call 170; refine (HCL.out _ (HRD2.out.on HBN.out)).mono ?_; rintro e wn ⟨rfl, hbn⟩; have hbx := HBN.out.trans (hbn.mono HBN.out.size); clear HBN hbn; have HBN := Lib.hid hbx; clear hbx)
        | (go_at_call 34; refine (HNI.out _ (HRD2.out.on HBN.out)).mono ?_; rintro e wn ⟨⟨z, rfl, hz⟩, hbn⟩; have HZ := Lib.hid (HID.out z hz); clear hz; have hbx := HBN.out.trans (hbn.mono HBN.out.size); clear HBN hbn; have HBN := Lib.hid hbx; clear hbx)
        | (go_at_call 74; refine (first_any [unl rb 2, unl (inB pos 0 (CL : Int)) 3, unl fm 9, vE, cE, unl (decide ((CL : Int) < 16)) 8, unl (decide (0 ≤ z)) 8] _ 0 7 7 _ rfl (by decide) (by first | exact new_errs _ [unl rb 2, unl (inB pos 0 (CL : Int)) 3, unl fm 9, vE, cE, unl (decide ((CL : Int) < 16)) 8, unl (decide (0 ≤ z)) 8] _ 7 rfl | exact new_errs_d _ [unl rb 2, unl (inB pos 0 (CL : Int)) 3, unl fm 9, vE, cE, unl (decide ((CL : Int) < 16)) 8, unl (decide (0 ≤ z)) 8] _ 7 rfl) r (by simpa only [HZ.out] using HR1.out)).mono ?_; rintro e wn ⟨rfl, rfl⟩))
    all_goals
      go_wp2_with fail
      go_ret
      exact ⟨rfl, (HF1.out.trans (HBN.out.mono HG2.out)).alloc (Nat.le_trans HG2.out HBN.out.size) _⟩
  · have hidb : (id == 0) = false := beq_false_of_ne hid
    have hR1 := HR.out
    rw [decide_eq_false hid, Bool.false_and] at hR1
    have HR1 := Lib.hid hR1
    clear hR1 HR hid
    refine wp_region_late (fun w' => w'.cell? ⟨g, 0, none⟩ = some (.slice p.pa PL p.pc) ∧ w'.cell? ⟨g + 1, 5, none⟩ = some (.int .i64 pos) ∧ w'.cell? ⟨g + 1, 6, none⟩ = some (.int .i64 id) ∧ w'.cell? ⟨g + 1, 7, none⟩ = some (.int .i64 kind) ∧ w'.cell? ⟨g + 1, 8, none⟩ = some (.int .i64 dst) ∧ w'.cell? ⟨g + 1, 9, none⟩ = some (.int .i64 a) ∧ w'.cell? ⟨g + 1, 10, none⟩ = some (.int .i64 b2) ∧ w'.cell? ⟨g + 1, 11, none⟩ = some (.int .i64 c) ∧ w'.cell? ⟨g + 1, 12, none⟩ = some (.int .i64 f2) ∧ w'.cell? ⟨g + 1, 13, none⟩ = some (.int .i64 n) ∧ w'.cell? ⟨g + 1, 14, none⟩ = some (.int .i64 x0) ∧ w'.cell? ⟨g + 1, 15, none⟩ = some (.int .i64 x1) ∧ w'.cell? ⟨g + 1, 16, none⟩ = some (.int .i64 x2) ∧ w'.cell? ⟨gx, 0, none⟩ = some (.int .i64 ar) ∧ w'.cell? ⟨gx, 1, none⟩ = some (.int .i64 vr) ∧ w'.cell? ⟨gx, 2, none⟩ = some (.slice ba BL bc) ∧ w'.cell? ⟨gy, 1, none⟩ = some (.slice ca CL cc)) 39 (by kernel_rfl) (HS.out _ HBN.out) (fun hHeld => ?_)
    refine wpAnyE_take (i := 0) (v := ?v0) rfl (by kernel_rfl) (fun _ _ _ h => h) hHeld (by rfl) ?y0 ?_
    case y0 => (intro w' hSw; (try dsimp only at hSw); go_simp <;> with_reducible rfl)
    refine wpAnyE_take (i := 2) (v := ?v2) rfl (by kernel_rfl) (fun _ _ _ h => h) hHeld (by rfl) ?y2 ?_
    case y2 => (intro w' hSw; (try dsimp only at hSw); go_simp <;> with_reducible rfl)
    refine wpAnyE_take (i := 3) (v := ?v3) rfl (by kernel_rfl) (fun _ _ _ h => h) hHeld (by rfl) ?y3 ?_
    case y3 => (intro w' hSw; (try dsimp only at hSw); go_simp <;> with_reducible rfl)
    refine wpAnyE_take (i := 4) (v := ?v4) rfl (by kernel_rfl) (fun _ _ _ h => h) hHeld (by rfl) ?y4 ?_
    case y4 => (intro w' hSw; (try dsimp only at hSw); go_simp <;> with_reducible rfl)
    refine wpAnyE_take (i := 5) (v := ?v5) rfl (by kernel_rfl) (fun _ _ _ h => h) hHeld (by rfl) ?y5 ?_
    case y5 => (intro w' hSw; (try dsimp only at hSw); go_simp <;> with_reducible rfl)
    refine wpAnyE_take (i := 6) (v := ?v6) rfl (by kernel_rfl) (fun _ _ _ h => h) hHeld (by rfl) ?y6 ?_
    case y6 => (intro w' hSw; (try dsimp only at hSw); go_simp <;> with_reducible rfl)
    refine wpAnyE_take (i := 9) (v := ?v9) rfl (by kernel_rfl) (fun _ _ _ h => h) hHeld (by rfl) ?y9 ?_
    case y9 => (intro w' hSw; (try dsimp only at hSw); go_simp <;> with_reducible rfl)
    refine wpAnyE_take (i := 10) (v := ?v10) rfl (by kernel_rfl) (fun _ _ _ h => h) hHeld (by rfl) ?y10 ?_
    case y10 => (intro w' hSw; (try dsimp only at hSw); go_simp <;> with_reducible rfl)
    refine wpAnyE_take (i := 11) (v := ?v11) rfl (by kernel_rfl) (fun _ _ _ h => h) hHeld (by rfl) ?y11 ?_
    case y11 => (intro w' hSw; (try dsimp only at hSw); go_simp <;> with_reducible rfl)
    refine wpAnyE_take (i := 12) (v := ?v12) rfl (by kernel_rfl) (fun _ _ _ h => h) hHeld (by rfl) ?y12 ?_
    case y12 => (intro w' hSw; (try dsimp only at hSw); go_simp <;> with_reducible rfl)
    refine wpAnyE_take (i := 19) (v := ?v19) rfl (by kernel_rfl) (fun _ _ _ h => h) hHeld (by rfl) ?y19 ?_
    case y19 => (intro w' hSw; (try dsimp only at hSw); go_simp <;> with_reducible rfl)
    refine wpAnyE_take (i := 20) (v := ?v20) rfl (by kernel_rfl) (fun _ _ _ h => h) hHeld (by rfl) ?y20 ?_
    case y20 => (intro w' hSw; (try dsimp only at hSw); go_simp <;> with_reducible rfl)
    refine wpAnyE_take (i := 21) (v := ?v21) rfl (by kernel_rfl) (fun _ _ _ h => h) hHeld (by rfl) ?y21 ?_
    case y21 => (intro w' hSw; (try dsimp only at hSw); go_simp <;> with_reducible rfl)
    refine wpAnyE_take (i := 23) (v := ?v23) rfl (by kernel_rfl) (fun _ _ _ h => h) hHeld (by rfl) ?y23 ?_
    case y23 => (intro w' hSw; (try dsimp only at hSw); go_simp <;> with_reducible rfl)
    refine wpAnyE_take (i := 24) (v := ?v24) rfl (by kernel_rfl) (fun _ _ _ h => h) hHeld (by rfl) ?y24 ?_
    case y24 => (intro w' hSw; (try dsimp only at hSw); go_simp <;> with_reducible rfl)
    refine wpAnyE_take (i := 25) (v := ?v25) rfl (by kernel_rfl) (fun _ _ _ h => h) hHeld (by rfl) ?y25 ?_
    case y25 => (intro w' hSw; (try dsimp only at hSw); go_simp <;> with_reducible rfl)
    refine wpAnyE_take (i := 27) (v := ?v27) rfl (by kernel_rfl) (fun _ _ _ h => h) hHeld (by rfl) ?y27 ?_
    case y27 => (intro w' hSw; (try dsimp only at hSw); go_simp <;> with_reducible rfl)
    refine wpAnyE_take (i := 28) (v := ?v28) rfl (by kernel_rfl) (fun _ _ _ h => h) hHeld (by rfl) ?y28 ?_
    case y28 => (intro w' hSw; (try dsimp only at hSw); go_simp <;> with_reducible rfl)
    refine wpAnyE_take (i := 29) (v := ?v29) rfl (by kernel_rfl) (fun _ _ _ h => h) hHeld (by rfl) ?y29 ?_
    case y29 => (intro w' hSw; (try dsimp only at hSw); go_simp <;> with_reducible rfl)
    refine wpAnyE_take (i := 30) (v := ?v30) rfl (by kernel_rfl) (fun _ _ _ h => h) hHeld (by rfl) ?y30 ?_
    case y30 => (intro w' hSw; (try dsimp only at hSw); go_simp <;> with_reducible rfl)
    refine wpAnyE_take (i := 32) (v := ?v32) rfl (by kernel_rfl) (fun _ _ _ h => h) hHeld (by rfl) ?y32 ?_
    case y32 => (intro w' hSw; (try dsimp only at hSw); go_simp <;> with_reducible rfl)
    refine wpAnyE_one (i := 1) (by kernel_rfl) rfl (fun K hK => ?_)
    go_simp
    go_at_call 75
    refine (unless_any _ _ _).mono ?_
    rintro e wn ⟨rfl, rfl⟩
    refine hK.out _ _ ?_ (fun hHeld => ?_)
    · exact HS.out _ HBN.out
    clear hK K
    refine wpAnyE_one (i := 7) (by kernel_rfl) rfl (fun K hK => ?_)
    go_simp
    go_at_call 107
    refine (within_any _ _ _ _).mono ?_
    rintro e wn ⟨rfl, rfl⟩
    refine hK.out _ _ ?_ (fun hHeld => ?_)
    · exact HS.out _ HBN.out
    clear hK K
    refine wpAnyE_one (i := 8) (by kernel_rfl) rfl (fun K hK => ?_)
    go_simp
    go_at_call 75
    refine (unless_any _ _ _).mono ?_
    rintro e wn ⟨rfl, rfl⟩
    refine hK.out _ _ ?_ (fun hHeld => ?_)
    · exact HS.out _ HBN.out
    clear hK K
    refine wpAnyE_take (i := 13) (v := ?v13) rfl (by kernel_rfl) (fun _ _ _ h => h) hHeld (by rfl) ?y13 ?_
    case y13 => (intro w' hSw; (try dsimp only at hSw); go_simp <;> with_reducible rfl)
    refine wpAnyE_skip (i := 14) rfl (by kernel_rfl) (fun _ _ _ h => h) hHeld (by rfl) ?_
    refine wpAnyE_skip (i := 15) rfl (by kernel_rfl) (fun _ _ _ h => h) hHeld (by rfl) ?_
    refine wpAnyE_skip (i := 16) rfl (by kernel_rfl) (fun _ _ _ h => h) hHeld (by rfl) ?_
    refine wpAnyE_take (i := 17) (v := ?v17) rfl (by kernel_rfl) (fun _ _ _ h => h) hHeld (by rfl) ?y17 ?_
    case y17 => (intro w' hSw; (try dsimp only at hSw); go_simp <;> with_reducible rfl)
    refine wpAnyE_one (i := 18) (by kernel_rfl) rfl (fun K hK => ?_)
    go_simp
    go_at_call 75
    refine (unless_any _ _ _).mono ?_
    rintro e wn ⟨rfl, rfl⟩
    refine hK.out _ _ ?_ (fun hHeld => ?_)
    · exact HS.out _ HBN.out
    clear hK K
    refine wpAnyE_one (i := 22) (by kernel_rfl) rfl (fun K hK => ?_)
    go_simp
    go_at_call 169
    refine (HVR.out _ (HRD2.out.on HBN.out)).mono ?_
    rintro e wn ⟨rfl, hbn⟩
    have hbx := HBN.out.trans (hbn.mono HBN.out.size)
    clear HBN hbn
    have HBN := Lib.hid hbx
    clear hbx
    refine hK.out _ _ ?_ (fun hHeld => ?_)
    · exact HS.out _ HBN.out
    clear hK K
    refine wpAnyE_one (i := 26) (by kernel_rfl) rfl (fun K hK => ?_)
    go_simp
    go_at_call 170
    refine (HCL.out _ (HRD2.out.on HBN.out)).mono ?_
    rintro e wn ⟨rfl, hbn⟩
    have hbx := HBN.out.trans (hbn.mono HBN.out.size)
    clear HBN hbn
    have HBN := Lib.hid hbx
    clear hbx
    refine hK.out _ _ ?_ (fun hHeld => ?_)
    · exact HS.out _ HBN.out
    clear hK K
    refine wpAnyE_one (i := 31) (by kernel_rfl) rfl (fun K hK => ?_)
    go_simp
    go_at_call 75
    refine (unless_any _ _ _).mono ?_
    rintro e wn ⟨rfl, rfl⟩
    refine hK.out _ _ ?_ (fun hHeld => ?_)
    · exact HS.out _ HBN.out
    clear hK K
    refine wpAnyE_one (i := 33) (by kernel_rfl) rfl (fun K hK => ?_)
    go_simp
    go_at_call 34
    refine (HNI.out _ (HRD2.out.on HBN.out)).mono ?_
    rintro e wn ⟨⟨z, rfl, hz⟩, hbn⟩
    have HZ := Lib.hid (HID.out z hz)
    clear hz
    have hbx := HBN.out.trans (hbn.mono HBN.out.size)
    clear HBN hbn
    have HBN := Lib.hid hbx
    clear hbx
    refine hK.out _ _ ?_ (fun hHeld => ?_)
    · exact HS.out _ HBN.out
    clear hK K
    refine wpAnyE_take (i := 34) (v := ?v34) rfl (by kernel_rfl) (fun _ _ _ h => h) hHeld (by rfl) ?y34 ?_
    case y34 => (intro w' hSw; (try dsimp only at hSw); go_simp <;> with_reducible rfl)
    refine wpAnyE_one (i := 35) (by kernel_rfl) rfl (fun K hK => ?_)
    go_simp
    go_at_call 75
    refine (unless_any _ _ _).mono ?_
    rintro e wn ⟨rfl, rfl⟩
    refine hK.out _ _ ?_ (fun hHeld => ?_)
    · exact HS.out _ HBN.out
    clear hK K
    refine wpAnyE_one (i := 36) (by kernel_rfl) rfl (fun K hK => ?_)
    go_simp
    refine hK.out _ _ ?_ (fun hHeld => ?_)
    · exact HS.out _ (HBN.out.alloc HBN.out.size _)
    clear hK K
    refine wpAnyE_one (i := 37) (by kernel_rfl) rfl (fun K hK => ?_)
    go_simp
    go_at_call 74
    refine (first_any [unl rb 2, unl (inB pos 0 (CL : Int)) 3, unl false 9, vE, cE, unl (decide ((CL : Int) < 16)) 8, unl (decide (0 ≤ z)) 8] _ 0 7 7 _ rfl (by decide) (by first | exact new_errs _ [unl rb 2, unl (inB pos 0 (CL : Int)) 3, unl false 9, vE, cE, unl (decide ((CL : Int) < 16)) 8, unl (decide (0 ≤ z)) 8] _ 7 rfl | exact new_errs_d _ [unl rb 2, unl (inB pos 0 (CL : Int)) 3, unl false 9, vE, cE, unl (decide ((CL : Int) < 16)) 8, unl (decide (0 ≤ z)) 8] _ 7 rfl) r (by simpa only [HZ.out] using HR1.out)).mono ?_
    rintro e wn ⟨rfl, rfl⟩
    refine hK.out _ _ ?_ (fun hHeld => ?_)
    · exact HS.out _ (HBN.out.alloc HBN.out.size _)
    clear hK K
    refine wpAnyE_take (i := 38) (v := ?v38) rfl (by kernel_rfl) (fun _ _ _ h => h) hHeld (by rfl) ?y38 ?_
    case y38 => (intro w' hSw; (try dsimp only at hSw); go_simp <;> with_reducible rfl)
    refine wpAnyE_tail 39 (by decide) rfl (by kernel_rfl) ?_
    simp only [List.drop_succ_cons, List.drop_zero]
    go_wp2_with fail
    go_ret
    exact ⟨rfl, (HF1.out.trans (HBN.out.mono HG2.out)).alloc (Nat.le_trans HG2.out HBN.out.size) _⟩
end Go.Proofs.YtbddjneinfkmpaaGreatDoor
