/- EditInsert: its walk. -/
import Derived.Test.YtpegkllhomjocaaDoorEinP
import Derived.Deep.DeepCutAuto
namespace Go.Proofs.YtpegkllhomjocaaDoor
open Go Go.RowKit Go.Sort

set_option maxRecDepth 100000 in
set_option maxHeartbeats 16000000 in
theorem insertY (p : Pg) (f b pos : Int) (i : Ins) (w : World) (h : Rd w p) (hN : NTab w) (hfew : p.few) (hs : p.sane) :
    Calls Tryd.prog 4 #[p.val, .int .i64 f, .int .i64 b, .int .i64 pos, i.val] w fun x w' => x = .returned (.bool true) ∧ Below w.heap.size w w' := by
  have HAW := Lib.hid (fun wr (h : Rd wr p) (hN : NTab wr) => awake7_any wr h.2.1 h.2.2 hN)
  have HFE := Lib.hid (fun wr (h : Rd wr p) => Few_any p wr h.1 true (by simp [hfew]))
  have HSA := Lib.hid (fun wr (h : Rd wr p) => Sane_any p wr h.1 h.2.1 h.2.2 hfew true (by simp [hs]))
  obtain ⟨x, hx⟩ : ∃ x, funR p f = x := ⟨_, rfl⟩
  obtain ⟨rf, hrf⟩ : ∃ rf, funB p f = rf := ⟨_, rfl⟩
  obtain ⟨y, hy⟩ : ∃ y, blkR p f b = y := ⟨_, rfl⟩
  obtain ⟨rb, hrb⟩ : ∃ rb, blkB p f b = rb := ⟨_, rfl⟩
  obtain ⟨fm, hfm⟩ : ∃ fm, decide i.form = fm := ⟨_, rfl⟩
  obtain ⟨ib, hib⟩ : ∃ ib, idB p = ib := ⟨_, rfl⟩
  obtain ⟨vs, hvs⟩ : ∃ vs, i.vars = vs := ⟨_, rfl⟩
  obtain ⟨xc, hxc⟩ : ∃ x, funR p i.f = x := ⟨_, rfl⟩
  obtain ⟨rc, hrc⟩ : ∃ r, funB p i.f = r := ⟨_, rfl⟩
  obtain ⟨r, hr⟩ : ∃ r, chk p ⟨6, f, b, 0, 0, pos, i⟩ = r := ⟨_, rfl⟩
  have hvl := vars_le i
  rw [hvs] at hvl
  have HFU := Lib.hid (fun wr (h : Rd wr p) => Fun_any p f wr h.1 h.2.1 h.2.2 hfew x hx rf hrf)
  have HFC := Lib.hid (fun wr (h : Rd wr p) => Fun_any p i.f wr h.1 h.2.1 h.2.2 hfew xc hxc rc hrc)
  have HBK := Lib.hid (fun wr (h : Rd wr p) => Block_any p f b wr h.1 h.2.1 h.2.2 hfew y hy rb hrb)
  have HFM := Lib.hid (fun wr (h : Rd wr p) => Form_any i wr h.2.1 fm hfm)
  have HVA := Lib.hid (fun wr (h : Rd wr p) => Bi.Vars_any i wr h.2.1 vs hvs)
  have HNI := Lib.hid (fun wr (h : Rd wr p) => NewId_any p wr h.1 h.2.1 h.2.2 hfew)
  have HCE := Lib.hid (fun wr (h : Rd wr p) => Check_any p ⟨6, f, b, 0, 0, pos, i⟩ wr h hfew r hr)
  have HID : Hid (∀ z, NewIdIs p z → decide (0 ≤ z) = ib) := Lib.hid fun z h => by rw [← hib]; exact newId_room h
  have hG := chk_insert hs f b pos i
  unfold insG2 insG1 insG0 at hG
  rw [hr, hrf, hrb, hy, hfm, hib, hvs, hx, hrc, hxc] at hG
  have hbf : rb = true → rf = true := fun h => by rw [← hrf]; exact blk_fun' (hrb.trans h)
  clear hr hrf hx hrb hy hfm hib hvs hxc hrc hs
  obtain ⟨ar, vr, ba, bc, bl⟩ := x
  obtain ⟨arc, vrc, bac, bcc, blc⟩ := xc
  obtain ⟨lv, ca, cc, code, sa, sc, succ⟩ := y
  unfold Fd.val at HFU HFC
  unfold Blk.val at HBK
  unfold Ins.val at HFM HVA
  unfold Ed.val at HCE
  dsimp only at *
  obtain ⟨BL, hBL⟩ : ∃ BL, bl.length = BL := ⟨_, rfl⟩
  obtain ⟨BC, hBC⟩ : ∃ BL, blc.length = BL := ⟨_, rfl⟩
  obtain ⟨CL, hCL⟩ : ∃ CL, code.length = CL := ⟨_, rfl⟩
  obtain ⟨SL, hSL⟩ : ∃ SL, succ.length = SL := ⟨_, rfl⟩
  obtain ⟨V, hV⟩ : ∃ V, vs.length = V := ⟨_, rfl⟩
  have HVV := Lib.hid hV
  simp only [hBL, hBC, hCL, hSL, hV] at HFU HFC HBK HVA hG hvl
  clear hBL hBC hCL hSL hV
  have HRD0 := Lib.hid h
  have HN0 := Lib.hid hN
  clear h hN hfew
  obtain ⟨id, kind, dst, a, b2, c, f2, n, x0, x1, x2⟩ := i
  unfold Pg.val at HFE HSA HFU HFC HBK HNI HCE
  unfold Pg.val Ins.val
  dsimp only at *
  obtain ⟨PL, hPL⟩ : ∃ PL, p.funs.length = PL := ⟨_, rfl⟩
  simp only [hPL] at HFE HSA HFU HFC HBK HNI HCE ⊢
  clear hPL
  have HG := Lib.hid hG
  have HBF := Lib.hid hbf
  clear hG hbf
  have HBb := Lib.hid (below2 w (.cells #[.slice p.pa PL p.pc] 24) (.cells #[.int .i64 id, .int .i64 kind, .int .i64 dst, .int .i64 a, .int .i64 b2, .int .i64 c, .int .i64 f2, .int .i64 n, .int .i64 x0, .int .i64 x1, .int .i64 x2] 27))
  have hx0 := BoxL.new w [.slice p.pa PL p.pc] 24
  have HX0 := Lib.hid (show BoxL ((w.alloc (.cells #[.slice p.pa PL p.pc] 24)).alloc (.cells #[.int .i64 id, .int .i64 kind, .int .i64 dst, .int .i64 a, .int .i64 b2, .int .i64 c, .int .i64 f2, .int .i64 n, .int .i64 x0, .int .i64 x1, .int .i64 x2] 27)) (w.heap.size) [.slice p.pa PL p.pc] from (hx0).alloc (Nat.zero_lt_succ _) (.cells #[.int .i64 id, .int .i64 kind, .int .i64 dst, .int .i64 a, .int .i64 b2, .int .i64 c, .int .i64 f2, .int .i64 n, .int .i64 x0, .int .i64 x1, .int .i64 x2] 27))
  have hx1 := BoxL.new (w.alloc (.cells #[.slice p.pa PL p.pc] 24)) [.int .i64 id, .int .i64 kind, .int .i64 dst, .int .i64 a, .int .i64 b2, .int .i64 c, .int .i64 f2, .int .i64 n, .int .i64 x0, .int .i64 x1, .int .i64 x2] 27
  rw [World.size_alloc] at hx1
  have HX1 := Lib.hid (show BoxL ((w.alloc (.cells #[.slice p.pa PL p.pc] 24)).alloc (.cells #[.int .i64 id, .int .i64 kind, .int .i64 dst, .int .i64 a, .int .i64 b2, .int .i64 c, .int .i64 f2, .int .i64 n, .int .i64 x0, .int .i64 x1, .int .i64 x2] 27)) (w.heap.size + 1) [.int .i64 id, .int .i64 kind, .int .i64 dst, .int .i64 a, .int .i64 b2, .int .i64 c, .int .i64 f2, .int .i64 n, .int .i64 x0, .int .i64 x1, .int .i64 x2] from hx1)
  clear hx0 hx1
  have HRW := Lib.hid (HRD0.out.on HBb.out)
  have HNW := Lib.hid (HN0.out.on HBb.out)
  generalize hW : ((w.alloc (.cells #[.slice p.pa PL p.pc] 24)).alloc (.cells #[.int .i64 id, .int .i64 kind, .int .i64 dst, .int .i64 a, .int .i64 b2, .int .i64 c, .int .i64 f2, .int .i64 n, .int .i64 x0, .int .i64 x1, .int .i64 x2] 27)) = W at HBb HX0 HX1 HRW HNW
  obtain ⟨g, hg⟩ : ∃ g, w.heap.size = g := ⟨_, rfl⟩
  have HGL := Lib.hid HBb.out.size
  rw [hg] at HBb HGL HX0 HX1 ⊢
  have HL0 := Lib.hid (HX0.out.lt (Nat.zero_lt_succ _))
  have HL1 := Lib.hid (HX1.out.lt (Nat.zero_lt_succ _))
  have HC : Hid (∀ wr, Below W.heap.size W wr → wr.cell? ⟨g, 0, none⟩ = some (.slice p.pa PL p.pc) ∧ wr.cell? ⟨g + 1, 0, none⟩ = some (.int .i64 id) ∧ wr.cell? ⟨g + 1, 1, none⟩ = some (.int .i64 kind) ∧ wr.cell? ⟨g + 1, 2, none⟩ = some (.int .i64 dst) ∧ wr.cell? ⟨g + 1, 3, none⟩ = some (.int .i64 a) ∧ wr.cell? ⟨g + 1, 4, none⟩ = some (.int .i64 b2) ∧ wr.cell? ⟨g + 1, 5, none⟩ = some (.int .i64 c) ∧ wr.cell? ⟨g + 1, 6, none⟩ = some (.int .i64 f2) ∧ wr.cell? ⟨g + 1, 7, none⟩ = some (.int .i64 n) ∧ wr.cell? ⟨g + 1, 8, none⟩ = some (.int .i64 x0) ∧ wr.cell? ⟨g + 1, 9, none⟩ = some (.int .i64 x1) ∧ wr.cell? ⟨g + 1, 10, none⟩ = some (.int .i64 x2)) := Lib.hid fun wr hb => ⟨((HX0.out.below hb HL0.out) 0 _ rfl).1, ((HX1.out.below hb HL1.out) 0 _ rfl).1, ((HX1.out.below hb HL1.out) 1 _ rfl).1, ((HX1.out.below hb HL1.out) 2 _ rfl).1, ((HX1.out.below hb HL1.out) 3 _ rfl).1, ((HX1.out.below hb HL1.out) 4 _ rfl).1, ((HX1.out.below hb HL1.out) 5 _ rfl).1, ((HX1.out.below hb HL1.out) 6 _ rfl).1, ((HX1.out.below hb HL1.out) 7 _ rfl).1, ((HX1.out.below hb HL1.out) 8 _ rfl).1, ((HX1.out.below hb HL1.out) 9 _ rfl).1, ((HX1.out.below hb HL1.out) 10 _ rfl).1⟩
  have HBN : Hid (Below W.heap.size W W) := Lib.hid (Below.refl _ _)
  obtain ⟨k0, k1, k2, k3, k4, k5, k6, k7, k8, k9, k10, k11⟩ := HC.out _ HBN.out
  go_enter Tryd.func4, Tryd.ntmps4
  go_upto_region 6 with (first
    | (go_at_call 5; refine (HAW.out _ (HRW.out.on HBN.out) (HNW.out.on HBN.out)).mono ?_; rintro e wa ⟨rfl, hbn⟩; have hbx := HBN.out.trans (hbn.mono HBN.out.size); clear HBN hbn k0 k1 k2 k3 k4 k5 k6 k7 k8 k9 k10 k11; have HBN := Lib.hid hbx; clear hbx; obtain ⟨k0, k1, k2, k3, k4, k5, k6, k7, k8, k9, k10, k11⟩ := HC.out _ HBN.out)
    | (go_at_call 6; refine (HFE.out _ (HRW.out.on HBN.out)).mono ?_; rintro e wb ⟨rfl, hbn⟩; have hbx := HBN.out.trans (hbn.mono HBN.out.size); clear HBN hbn k0 k1 k2 k3 k4 k5 k6 k7 k8 k9 k10 k11; have HBN := Lib.hid hbx; clear hbx; obtain ⟨k0, k1, k2, k3, k4, k5, k6, k7, k8, k9, k10, k11⟩ := HC.out _ HBN.out)
    | (go_at_call 8; refine (HSA.out _ (HRW.out.on HBN.out)).mono ?_; rintro e wc ⟨rfl, hbn⟩; have hbx := HBN.out.trans (hbn.mono HBN.out.size); clear HBN hbn k0 k1 k2 k3 k4 k5 k6 k7 k8 k9 k10 k11; have HBN := Lib.hid hbx; clear hbx; obtain ⟨k0, k1, k2, k3, k4, k5, k6, k7, k8, k9, k10, k11⟩ := HC.out _ HBN.out)
    | (go_at_call 9; refine (HFU.out _ (HRW.out.on HBN.out)).mono ?_; rintro e wf ⟨rfl, hbn⟩; have hbx := (HBN.out.trans (hbn.mono HBN.out.size)).alloc (Nat.le_trans HBN.out.size hbn.size) (.cells #[.int .i64 ar, .int .i64 vr, .slice ba BL bc] 37); have HXF := Lib.hid (show BoxL (wf.alloc (.cells #[.int .i64 ar, .int .i64 vr, .slice ba BL bc] 37)) wf.heap.size [.int .i64 ar, .int .i64 vr, .slice ba BL bc] from BoxL.new wf _ _); clear hbn HBN k0 k1 k2 k3 k4 k5 k6 k7 k8 k9 k10 k11; have HBN := Lib.hid hbx; clear hbx; obtain ⟨k0, k1, k2, k3, k4, k5, k6, k7, k8, k9, k10, k11⟩ := HC.out _ HBN.out)
    | (go_at_call 10; refine (HBK.out _ (HRW.out.on HBN.out)).mono ?_; rintro e wk ⟨rfl, hbn⟩; have hbx := (HBN.out.trans (hbn.mono HBN.out.size)).alloc (Nat.le_trans HBN.out.size hbn.size) (.cells #[.bool lv, .slice ca CL cc, .slice sa SL sc] 43); have HXG := Lib.hid ((HXF.out.below hbn (HXF.out.lt (Nat.zero_lt_succ _))).alloc (Nat.zero_lt_succ _) (.cells #[.bool lv, .slice ca CL cc, .slice sa SL sc] 43)); have HXB := Lib.hid (show BoxL (wk.alloc (.cells #[.bool lv, .slice ca CL cc, .slice sa SL sc] 43)) wk.heap.size [.bool lv, .slice ca CL cc, .slice sa SL sc] from BoxL.new wk _ _); clear hbn HBN HXF k0 k1 k2 k3 k4 k5 k6 k7 k8 k9 k10 k11; have HBN := Lib.hid hbx; clear hbx; obtain ⟨k0, k1, k2, k3, k4, k5, k6, k7, k8, k9, k10, k11⟩ := HC.out _ HBN.out))
  clear k0 k1 k2 k3 k4 k5 k6 k7 k8 k9 k10 k11
  generalize wk.alloc (.cells #[.bool lv, .slice ca CL cc, .slice sa SL sc] 43) = W2 at *
  obtain ⟨gx, hgx⟩ : ∃ b, wf.heap.size = b := ⟨_, rfl⟩
  obtain ⟨gy, hgy⟩ : ∃ b, wk.heap.size = b := ⟨_, rfl⟩
  rw [hgx] at HXG ⊢
  rw [hgy] at HXB ⊢
  clear hgx hgy
  have HLX := Lib.hid (HXG.out.lt (Nat.zero_lt_succ _))
  have HLY := Lib.hid (HXB.out.lt (Nat.zero_lt_succ _))
  have HF1 := Lib.hid (HBb.out.trans (HBN.out.mono HGL.out))
  have HG2 := Lib.hid (Nat.le_trans HGL.out HBN.out.size)
  have HRD2 := Lib.hid (HRW.out.on HBN.out)
  have HD : Hid (∀ wr, Below W2.heap.size W2 wr → wr.cell? ⟨g, 0, none⟩ = some (.slice p.pa PL p.pc) ∧ wr.cell? ⟨g + 1, 0, none⟩ = some (.int .i64 id) ∧ wr.cell? ⟨g + 1, 1, none⟩ = some (.int .i64 kind) ∧ wr.cell? ⟨g + 1, 2, none⟩ = some (.int .i64 dst) ∧ wr.cell? ⟨g + 1, 3, none⟩ = some (.int .i64 a) ∧ wr.cell? ⟨g + 1, 4, none⟩ = some (.int .i64 b2) ∧ wr.cell? ⟨g + 1, 5, none⟩ = some (.int .i64 c) ∧ wr.cell? ⟨g + 1, 6, none⟩ = some (.int .i64 f2) ∧ wr.cell? ⟨g + 1, 7, none⟩ = some (.int .i64 n) ∧ wr.cell? ⟨g + 1, 8, none⟩ = some (.int .i64 x0) ∧ wr.cell? ⟨g + 1, 9, none⟩ = some (.int .i64 x1) ∧ wr.cell? ⟨g + 1, 10, none⟩ = some (.int .i64 x2) ∧ wr.cell? ⟨gx, 1, none⟩ = some (.int .i64 vr) ∧ wr.cell? ⟨gy, 1, none⟩ = some (.slice ca CL cc)) := Lib.hid fun wr hb => ⟨((HX0.out.below (HBN.out.trans (hb.mono HBN.out.size)) HL0.out) 0 _ rfl).1, ((HX1.out.below (HBN.out.trans (hb.mono HBN.out.size)) HL1.out) 0 _ rfl).1, ((HX1.out.below (HBN.out.trans (hb.mono HBN.out.size)) HL1.out) 1 _ rfl).1, ((HX1.out.below (HBN.out.trans (hb.mono HBN.out.size)) HL1.out) 2 _ rfl).1, ((HX1.out.below (HBN.out.trans (hb.mono HBN.out.size)) HL1.out) 3 _ rfl).1, ((HX1.out.below (HBN.out.trans (hb.mono HBN.out.size)) HL1.out) 4 _ rfl).1, ((HX1.out.below (HBN.out.trans (hb.mono HBN.out.size)) HL1.out) 5 _ rfl).1, ((HX1.out.below (HBN.out.trans (hb.mono HBN.out.size)) HL1.out) 6 _ rfl).1, ((HX1.out.below (HBN.out.trans (hb.mono HBN.out.size)) HL1.out) 7 _ rfl).1, ((HX1.out.below (HBN.out.trans (hb.mono HBN.out.size)) HL1.out) 8 _ rfl).1, ((HX1.out.below (HBN.out.trans (hb.mono HBN.out.size)) HL1.out) 9 _ rfl).1, ((HX1.out.below (HBN.out.trans (hb.mono HBN.out.size)) HL1.out) 10 _ rfl).1, ((HXG.out.below hb HLX.out) 1 _ rfl).1, ((HXB.out.below hb HLY.out) 1 _ rfl).1⟩
  have HBM : Hid (Below W2.heap.size W2 W2) := Lib.hid (Below.refl _ _)
  clear HBN HC
  go_cut [16] (fun z wx => ∃ gd : Bool, z = .bool gd ∧ Hid (gd = (rf && rb && decide (0 ≤ pos) && decide (pos ≤ (CL : Int)) && decide (id = 0) && fm && decide ((CL : Int) < 16) && ib)) ∧ Hid (Below W2.heap.size W2 wx))
  case first =>
    obtain ⟨m0, m1, m2, m3, m4, m5, m6, m7, m8, m9, m10, m11, m12, m13⟩ := HD.out _ HBM.out
    cases rb with
    | false =>
      cases rf with
      | false =>
        go_wp2_with fail
        go_meet
        exact ⟨false, rfl, Lib.hid (by simp), HBM⟩
      | true =>
        go_wp2_with fail
        go_meet
        exact ⟨false, rfl, Lib.hid (by simp), HBM⟩
    | true =>
    obtain rfl := HBF.out rfl
    by_cases hn : 0 ≤ pos
    rotate_left
    · have hn' : pos < 0 := by omega
      go_wp2_with fail
      go_meet
      exact ⟨false, rfl, Lib.hid (by rw [decide_eq_false (show ¬ 0 ≤ pos by omega)]; simp), HBM⟩
    by_cases hn1 : pos ≤ (CL : Int)
    rotate_left
    · have hn' : (CL : Int) < pos := by omega
      go_wp2_with fail
      go_meet
      exact ⟨false, rfl, Lib.hid (by rw [decide_eq_false (show ¬ pos ≤ (CL : Int) by omega)]; simp), HBM⟩
    by_cases hn2 : id = 0
    rotate_left
    · have hn' : (id == 0) = false := beq_false_of_ne hn2
      go_wp2_with fail
      go_meet
      exact ⟨false, rfl, Lib.hid (by simp [hn2]), HBM⟩
    subst hn2
    cases fm with
    | false =>
      go_wp2_with (go_at_call 11; refine (HFM.out _ (HRD2.out.on HBM.out)).mono ?_; rintro e wn ⟨rfl, hbn⟩; have hbx := HBM.out.trans (hbn.mono HBM.out.size); clear HBM hbn m0 m1 m2 m3 m4 m5 m6 m7 m8 m9 m10 m11 m12 m13; have HBM := Lib.hid hbx; clear hbx; obtain ⟨m0, m1, m2, m3, m4, m5, m6, m7, m8, m9, m10, m11, m12, m13⟩ := HD.out _ HBM.out)
      go_meet
      exact ⟨false, rfl, Lib.hid (by simp), HBM⟩
    | true =>
    by_cases hn3 : (CL : Int) < 16
    rotate_left
    · have hn' : (16 : Int) ≤ (CL : Int) := by omega
      have hn4 : ¬ CL < 16 := by omega
      go_wp2_with (go_at_call 11; refine (HFM.out _ (HRD2.out.on HBM.out)).mono ?_; rintro e wn ⟨rfl, hbn⟩; have hbx := HBM.out.trans (hbn.mono HBM.out.size); clear HBM hbn m0 m1 m2 m3 m4 m5 m6 m7 m8 m9 m10 m11 m12 m13; have HBM := Lib.hid hbx; clear hbx; obtain ⟨m0, m1, m2, m3, m4, m5, m6, m7, m8, m9, m10, m11, m12, m13⟩ := HD.out _ HBM.out)
      go_meet
      exact ⟨false, rfl, Lib.hid (by rw [decide_eq_false (show ¬ (CL : Int) < 16 by omega)]; simp), HBM⟩
    have hn4 : CL < 16 := by omega
    cases ib with
    | false =>
      go_wp2_with (first
        | (go_at_call 11; refine (HFM.out _ (HRD2.out.on HBM.out)).mono ?_; rintro e wn ⟨rfl, hbn⟩; have hbx := HBM.out.trans (hbn.mono HBM.out.size); clear HBM hbn m0 m1 m2 m3 m4 m5 m6 m7 m8 m9 m10 m11 m12 m13; have HBM := Lib.hid hbx; clear hbx; obtain ⟨m0, m1, m2, m3, m4, m5, m6, m7, m8, m9, m10, m11, m12, m13⟩ := HD.out _ HBM.out)
        | (go_at_call 12; refine (HNI.out _ (HRD2.out.on HBM.out)).mono ?_; rintro e wn ⟨⟨z, rfl, hz⟩, hbn⟩; have hZ := HID.out z hz; clear hz; have hbx := HBM.out.trans (hbn.mono HBM.out.size); clear HBM hbn m0 m1 m2 m3 m4 m5 m6 m7 m8 m9 m10 m11 m12 m13; have HBM := Lib.hid hbx; clear hbx; obtain ⟨m0, m1, m2, m3, m4, m5, m6, m7, m8, m9, m10, m11, m12, m13⟩ := HD.out _ HBM.out; have hZ2 : z < 0 := Int.not_le.1 (decide_eq_false_iff_not.1 hZ)))
      go_meet
      exact ⟨false, rfl, Lib.hid (by simp), HBM⟩
    | true =>
      go_wp2_with (first
        | (go_at_call 11; refine (HFM.out _ (HRD2.out.on HBM.out)).mono ?_; rintro e wn ⟨rfl, hbn⟩; have hbx := HBM.out.trans (hbn.mono HBM.out.size); clear HBM hbn m0 m1 m2 m3 m4 m5 m6 m7 m8 m9 m10 m11 m12 m13; have HBM := Lib.hid hbx; clear hbx; obtain ⟨m0, m1, m2, m3, m4, m5, m6, m7, m8, m9, m10, m11, m12, m13⟩ := HD.out _ HBM.out)
        | (go_at_call 12; refine (HNI.out _ (HRD2.out.on HBM.out)).mono ?_; rintro e wn ⟨⟨z, rfl, hz⟩, hbn⟩; have hZ := HID.out z hz; clear hz; have hbx := HBM.out.trans (hbn.mono HBM.out.size); clear HBM hbn m0 m1 m2 m3 m4 m5 m6 m7 m8 m9 m10 m11 m12 m13; have HBM := Lib.hid hbx; clear hbx; obtain ⟨m0, m1, m2, m3, m4, m5, m6, m7, m8, m9, m10, m11, m12, m13⟩ := HD.out _ HBM.out; have hZ2 : 0 ≤ z := of_decide_eq_true hZ))
      go_meet
      exact ⟨true, rfl, Lib.hid (by rw [decide_eq_true (show 0 ≤ pos by omega), decide_eq_true (show pos ≤ (CL : Int) by omega), decide_eq_true (show (CL : Int) < 16 by omega)]; simp), HBM⟩
  case rest =>
    obtain ⟨gd, rfl, HGD, HBC⟩ := hcut
    have HRD3 := Lib.hid (HRD2.out.on HBC.out)
    clear HBM
    have HBM := HBC
    clear HBC
    obtain ⟨m0, m1, m2, m3, m4, m5, m6, m7, m8, m9, m10, m11, m12, m13⟩ := HD.out _ HBM.out
    go_wp2_with (go_at_call 13; refine (HVA.out _ HRD3.out).mono ?_; rintro e wv ⟨u, rfl, hou, hbn⟩; obtain ⟨av, cv, rfl, hlv, hIv⟩ := is_of_ints hou; have HIV := Lib.hid hIv; clear hou hIv; have hbx := HBM.out.trans (hbn.mono HBM.out.size); clear HBM hbn m0 m1 m2 m3 m4 m5 m6 m7 m8 m9 m10 m11 m12 m13; have HBM := Lib.hid hbx; clear hbx; obtain ⟨m0, m1, m2, m3, m4, m5, m6, m7, m8, m9, m10, m11, m12, m13⟩ := HD.out _ HBM.out)
    have HBV := HBM
    clear HBM
    obtain ⟨nv, hnv⟩ : ∃ nv, wv.heap.size = nv := ⟨_, rfl⟩
    have HNV := Lib.hid HBV.out.size
    rw [hnv] at HIV HNV
    clear m0 m1 m2 m3 m4 m5 m6 m7 m8 m9 m10 m11 m12 m13
    have HG0 : Hid (decide (r = 0) = (gd && decide (∀ v ∈ vs, v < vr) && if kind = 7 then rc && decide (arc = n) else true)) := Lib.hid (by rw [HG.out, HGD.out])
    clear HG HGD
    go_loopw [16, 18] (fun c k wr => ∃ q : Nat, q ≤ V ∧ k = .int .i64 q ∧ c = .bool (gd && decide (∀ j, j < q → numAt vs j < vr)) ∧ Hid (Below nv wv wr)) (fun _ k _ => V - (intOf k).toNat)
    case atStart => exact ⟨0, Nat.zero_le _, rfl, by simp, by rw [← hnv]; exact Below.refl _ _⟩
    case round =>
      obtain ⟨q, hq, rfl, rfl, hBr⟩ := hrel
      obtain ⟨cb, hcb⟩ : ∃ cb, (gd && decide (∀ j, j < q → numAt vs j < vr)) = cb := ⟨_, rfl⟩
      have HCB := Lib.hid hcb
      rw [hcb]
      clear hcb
      by_cases hlt : q < V
      · obtain ⟨bb, oo, rfl, hbl, hcell⟩ := (HIV.out.below hBr.out) q (by rw [HVV.out]; exact hlt)
        obtain ⟨y, hy⟩ : ∃ y, vs[q]?.getD 0 = y := ⟨_, rfl⟩
        rw [hy] at hcell
        have HYY := Lib.hid (show numAt vs q = y from hy)
        have hqi : (q : Int) < (V : Int) := by omega
        have hvr := ((HXG.out.below (HBV.out.trans (hBr.out.mono HNV.out)) HLX.out) 1 _ rfl).1
        have HST : Hid ((gd && decide (∀ j, j < q + 1 → numAt vs j < vr)) = (cb && decide (y < vr))) := Lib.hid (by
          rw [← HCB.out, Bool.and_assoc, ← Bool.decide_and]
          congr 1
          rw [decide_eq_decide]
          constructor
          · intro h
            exact ⟨fun j hj => h j (by omega), by rw [← HYY.out]; exact h q (by omega)⟩
          · rintro ⟨h1, h2⟩ j hj
            rcases Nat.lt_succ_iff_lt_or_eq.1 hj with h | rfl
            · exact h1 j h
            · rw [HYY.out]; exact h2)
        clear hy hbl
        cases cb with
        | false =>
          go_wp2_with fail
          go_quiet (fail)
          go_wp2_with fail
          go_roundw
          case rel => exact ⟨q + 1, by omega, by go_num, by rw [HST.out]; simp, below_drewN hBr.out _⟩
          case measure => simp [intOf]; omega
        | true =>
          by_cases hyv : y < vr
          · have hyd : decide (y < vr) = true := decide_eq_true hyv
            go_wp2_with fail
            go_quiet (fail)
            go_wp2_with fail
            go_roundw
            case rel => exact ⟨q + 1, by omega, by go_num, by rw [HST.out]; simp [hyv], below_drewN hBr.out _⟩
            case measure => simp [intOf]; omega
          · have hyd : decide (y < vr) = false := decide_eq_false hyv
            go_wp2_with fail
            go_quiet (fail)
            go_wp2_with fail
            go_roundw
            case rel => exact ⟨q + 1, by omega, by go_num, by rw [HST.out]; simp [hyv], below_drewN hBr.out _⟩
            case measure => simp [intOf]; omega
      · obtain rfl : q = V := by omega
        have hqi : ¬ ((q : Int) < (q : Int)) := by omega
        have HC1 : Hid (decide (r = 0) = (cb && if kind = 7 then rc && decide (arc = n) else true)) := Lib.hid (by
          rw [HG0.out, ← HCB.out]
          congr 2
          rw [decide_eq_decide, mem_numAt, HVV.out])
        have HBW := Lib.hid (HBV.out.trans (hBr.out.mono HNV.out))
        obtain ⟨m0, m1, m2, m3, m4, m5, m6, m7, m8, m9, m10, m11, m12, m13⟩ := HD.out _ HBW.out
        have HRD4 := Lib.hid (HRD2.out.on HBW.out)
        have HBN : Hid (Below wr.heap.size wr wr) := Lib.hid (Below.refl _ _)
        have HD4 := Lib.hid (fun wx (hb : Below wr.heap.size wr wx) => HD.out wx (HBW.out.trans (hb.mono HBW.out.size)))
        clear HCB HG0
        by_cases hk7 : kind = 7
        · subst hk7
          have hC2 := HC1.out
          rw [if_pos rfl] at hC2
          have HC2 := Lib.hid hC2
          clear hC2 HC1
          cases cb with
          | false =>
            have hr0 : (r == 0) = false := HC2.out
            have HR0 := Lib.hid hr0
            clear hr0
            go_wp2_with (first
              | (go_at_call 9; refine (HFC.out _ (HRD4.out.on HBN.out)).mono ?_; rintro e wz ⟨rfl, hbn⟩; have hbx := (HBN.out.trans (hbn.mono HBN.out.size)).alloc (Nat.le_trans HBN.out.size hbn.size) (.cells #[.int .i64 arc, .int .i64 vrc, .slice bac BC bcc] 37); have z0 := ((BoxL.new wz [.int .i64 arc, .int .i64 vrc, .slice bac BC bcc] 37) 0 _ rfl).1; clear hbn HBN m0 m1 m2 m3 m4 m5 m6 m7 m8 m9 m10 m11 m12 m13; have HBN := Lib.hid hbx; clear hbx; obtain ⟨m0, m1, m2, m3, m4, m5, m6, m7, m8, m9, m10, m11, m12, m13⟩ := HD4.out _ HBN.out)
              | (go_at_call 7; refine (HCE.out _ (HRD4.out.on HBN.out)).mono ?_; rintro e wn ⟨rfl, hbn⟩; have hbx := HBN.out.trans (hbn.mono HBN.out.size); clear HBN hbn; have HBN := Lib.hid hbx; clear hbx))
            go_ret
            exact ⟨ret_bool (by rw [HR0.out]; rfl), HF1.out.trans ((HBW.out.trans (HBN.out.mono HBW.out.size)).mono HG2.out)⟩
          | true =>
            cases rc with
            | false =>
              have hr0 : (r == 0) = false := HC2.out
              have HR0 := Lib.hid hr0
              clear hr0
              go_wp2_with (first
                | (go_at_call 9; refine (HFC.out _ (HRD4.out.on HBN.out)).mono ?_; rintro e wz ⟨rfl, hbn⟩; have hbx := (HBN.out.trans (hbn.mono HBN.out.size)).alloc (Nat.le_trans HBN.out.size hbn.size) (.cells #[.int .i64 arc, .int .i64 vrc, .slice bac BC bcc] 37); have z0 := ((BoxL.new wz [.int .i64 arc, .int .i64 vrc, .slice bac BC bcc] 37) 0 _ rfl).1; clear hbn HBN m0 m1 m2 m3 m4 m5 m6 m7 m8 m9 m10 m11 m12 m13; have HBN := Lib.hid hbx; clear hbx; obtain ⟨m0, m1, m2, m3, m4, m5, m6, m7, m8, m9, m10, m11, m12, m13⟩ := HD4.out _ HBN.out)
                | (go_at_call 7; refine (HCE.out _ (HRD4.out.on HBN.out)).mono ?_; rintro e wn ⟨rfl, hbn⟩; have hbx := HBN.out.trans (hbn.mono HBN.out.size); clear HBN hbn; have HBN := Lib.hid hbx; clear hbx))
              go_ret
              exact ⟨ret_bool (by rw [HR0.out]; rfl), HF1.out.trans ((HBW.out.trans (HBN.out.mono HBW.out.size)).mono HG2.out)⟩
            | true =>
              by_cases han : arc = n
              · subst han
                have hC3 := HC2.out
                rw [decide_eq_true rfl] at hC3
                have HC3 := Lib.hid hC3
                clear hC3 HC2
                have HC2 := HC3
                have hr0 : (r == 0) = true := HC2.out
                have HR0 := Lib.hid hr0
                clear hr0
                go_wp2_with (first
                  | (go_at_call 9; refine (HFC.out _ (HRD4.out.on HBN.out)).mono ?_; rintro e wz ⟨rfl, hbn⟩; have hbx := (HBN.out.trans (hbn.mono HBN.out.size)).alloc (Nat.le_trans HBN.out.size hbn.size) (.cells #[.int .i64 arc, .int .i64 vrc, .slice bac BC bcc] 37); have z0 := ((BoxL.new wz [.int .i64 arc, .int .i64 vrc, .slice bac BC bcc] 37) 0 _ rfl).1; clear hbn HBN m0 m1 m2 m3 m4 m5 m6 m7 m8 m9 m10 m11 m12 m13; have HBN := Lib.hid hbx; clear hbx; obtain ⟨m0, m1, m2, m3, m4, m5, m6, m7, m8, m9, m10, m11, m12, m13⟩ := HD4.out _ HBN.out)
                  | (go_at_call 7; refine (HCE.out _ (HRD4.out.on HBN.out)).mono ?_; rintro e wn ⟨rfl, hbn⟩; have hbx := HBN.out.trans (hbn.mono HBN.out.size); clear HBN hbn; have HBN := Lib.hid hbx; clear hbx))
                go_ret
                exact ⟨ret_bool (by rw [HR0.out]), HF1.out.trans ((HBW.out.trans (HBN.out.mono HBW.out.size)).mono HG2.out)⟩
              · have hanb : (arc == n) = false := beq_false_of_ne han
                have hC3 := HC2.out
                rw [decide_eq_false han] at hC3
                have HC3 := Lib.hid hC3
                clear hC3 HC2
                have HC2 := HC3
                have hr0 : (r == 0) = false := HC2.out
                have HR0 := Lib.hid hr0
                clear hr0
                go_wp2_with (first
                  | (go_at_call 9; refine (HFC.out _ (HRD4.out.on HBN.out)).mono ?_; rintro e wz ⟨rfl, hbn⟩; have hbx := (HBN.out.trans (hbn.mono HBN.out.size)).alloc (Nat.le_trans HBN.out.size hbn.size) (.cells #[.int .i64 arc, .int .i64 vrc, .slice bac BC bcc] 37); have z0 := ((BoxL.new wz [.int .i64 arc, .int .i64 vrc, .slice bac BC bcc] 37) 0 _ rfl).1; clear hbn HBN m0 m1 m2 m3 m4 m5 m6 m7 m8 m9 m10 m11 m12 m13; have HBN := Lib.hid hbx; clear hbx; obtain ⟨m0, m1, m2, m3, m4, m5, m6, m7, m8, m9, m10, m11, m12, m13⟩ := HD4.out _ HBN.out)
                  | (go_at_call 7; refine (HCE.out _ (HRD4.out.on HBN.out)).mono ?_; rintro e wn ⟨rfl, hbn⟩; have hbx := HBN.out.trans (hbn.mono HBN.out.size); clear HBN hbn; have HBN := Lib.hid hbx; clear hbx))
                go_ret
                exact ⟨ret_bool (by rw [HR0.out]; rfl), HF1.out.trans ((HBW.out.trans (HBN.out.mono HBW.out.size)).mono HG2.out)⟩
        · have hkb : (kind == 7) = false := beq_false_of_ne hk7
          have hC2 := HC1.out
          rw [if_neg hk7, Bool.and_true] at hC2
          have HC2 := Lib.hid hC2
          clear hC2 HC1 hk7
          go_wp2_with (go_at_call 7; refine (HCE.out _ (HRD4.out.on HBN.out)).mono ?_; rintro e wn ⟨rfl, hbn⟩; have hbx := HBN.out.trans (hbn.mono HBN.out.size); clear HBN hbn; have HBN := Lib.hid hbx; clear hbx)
          go_ret
          exact ⟨ret_bool (by rw [show (r == 0) = cb from HC2.out, beq_self_eq_true]), HF1.out.trans ((HBW.out.trans (HBN.out.mono HBW.out.size)).mono HG2.out)⟩


theorem editInsert_any (p : Pg) (f b pos : Int) (i : Ins) (w : World) (h : Rd w p) (hN : NTab w) :
    Calls Tryd.prog 4 #[p.val, .int .i64 f, .int .i64 b, .int .i64 pos, i.val] w fun x w' => x = .returned (.bool true) ∧ Below w.heap.size w w' := by
  by_cases hfew : p.few
  · by_cases hs : p.sane
    · exact insertY p f b pos i w h hN hfew hs
    · exact insertS p f b pos i w h hN hfew hs
  · exact insertN p f b pos i w h hN hfew
end Go.Proofs.YtpegkllhomjocaaDoor
