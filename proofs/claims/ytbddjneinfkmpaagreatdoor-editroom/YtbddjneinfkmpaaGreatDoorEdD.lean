/- Edits: checkOp, Check. -/
import Derived.Test.YtbddjneinfkmpaaGreatDoorEdC6
namespace Go.Proofs.YtbddjneinfkmpaaGreatDoor
open Go Go.RowKit Go.Sort

set_option maxRecDepth 100000 in
set_option maxHeartbeats 16000000 in
theorem checkOp_any (p : Pg) (e : Ed) (w : World) (h : Rd w p) (hfew : p.few) (r : Int) (hr : opE p e = r) :
    Calls Tryz.prog 77 #[p.val, e.val] w fun x w' => x = .returned (.int .i64 r) ∧ Below w.heap.size w w' := by
  obtain ⟨x, hx⟩ : ∃ x, funR p e.f = x := ⟨_, rfl⟩
  obtain ⟨rf, hrf⟩ : ∃ rf, funB p e.f = rf := ⟨_, rfl⟩
  obtain ⟨aE, haE⟩ : ∃ aE, addFunE p e.b e.tob = aE := ⟨_, rfl⟩
  obtain ⟨iE, hiE⟩ : ∃ iE, inFunE p e = iE := ⟨_, rfl⟩
  have HFU := Lib.hid (fun wr (h : Rd wr p) => Fun_any p e.f wr h.1 h.2.1 h.2.2 hfew x hx rf hrf)
  have HAF := Lib.hid (fun wr => checkAddFun_any p e.b e.tob wr hfew aE haE)
  have HIN := Lib.hid (fun wr (h : Rd wr p) => inFun_any p e wr h hfew)
  unfold opE at hr
  rw [hrf, haE, hiE] at hr
  rw [hiE] at HIN
  have HRD0 := Lib.hid h
  clear h hfew hx hrf haE hiE
  obtain ⟨op, f, b, tob, other, pos, ⟨id, kind, dst, a, b2, c, f2, n, x0, x1, x2⟩⟩ := e
  obtain ⟨ar, vr, ba, bc, bl⟩ := x
  unfold Pg.val at HFU HAF HIN
  unfold Fd.val at HFU
  unfold Ed.val at HIN
  unfold Pg.val Ed.val
  dsimp only at *
  obtain ⟨PL, hPL⟩ : ∃ PL, p.funs.length = PL := ⟨_, rfl⟩
  obtain ⟨BL, hBL⟩ : ∃ BL, bl.length = BL := ⟨_, rfl⟩
  simp only [hPL, hBL] at HFU HAF HIN ⊢
  clear hPL hBL
  have HR := Lib.hid hr
  clear hr
  have HBb := Lib.hid (below2 w (.cells #[.slice p.pa PL p.pc] 24) (.cells #[.int .i64 op, .int .i64 f, .int .i64 b, .int .i64 tob, .int .i64 other, .int .i64 pos, .int .i64 id, .int .i64 kind, .int .i64 dst, .int .i64 a, .int .i64 b2, .int .i64 c, .int .i64 f2, .int .i64 n, .int .i64 x0, .int .i64 x1, .int .i64 x2] 55))
  have hx0 := BoxL.new w [.slice p.pa PL p.pc] 24
  have HX0 := Lib.hid (show BoxL ((w.alloc (.cells #[.slice p.pa PL p.pc] 24)).alloc (.cells #[.int .i64 op, .int .i64 f, .int .i64 b, .int .i64 tob, .int .i64 other, .int .i64 pos, .int .i64 id, .int .i64 kind, .int .i64 dst, .int .i64 a, .int .i64 b2, .int .i64 c, .int .i64 f2, .int .i64 n, .int .i64 x0, .int .i64 x1, .int .i64 x2] 55)) (w.heap.size) [.slice p.pa PL p.pc] from (hx0).alloc (Nat.zero_lt_succ _) (.cells #[.int .i64 op, .int .i64 f, .int .i64 b, .int .i64 tob, .int .i64 other, .int .i64 pos, .int .i64 id, .int .i64 kind, .int .i64 dst, .int .i64 a, .int .i64 b2, .int .i64 c, .int .i64 f2, .int .i64 n, .int .i64 x0, .int .i64 x1, .int .i64 x2] 55))
  have hx1 := BoxL.new (w.alloc (.cells #[.slice p.pa PL p.pc] 24)) [.int .i64 op, .int .i64 f, .int .i64 b, .int .i64 tob, .int .i64 other, .int .i64 pos, .int .i64 id, .int .i64 kind, .int .i64 dst, .int .i64 a, .int .i64 b2, .int .i64 c, .int .i64 f2, .int .i64 n, .int .i64 x0, .int .i64 x1, .int .i64 x2] 55
  rw [World.size_alloc] at hx1
  have HX1 := Lib.hid (show BoxL ((w.alloc (.cells #[.slice p.pa PL p.pc] 24)).alloc (.cells #[.int .i64 op, .int .i64 f, .int .i64 b, .int .i64 tob, .int .i64 other, .int .i64 pos, .int .i64 id, .int .i64 kind, .int .i64 dst, .int .i64 a, .int .i64 b2, .int .i64 c, .int .i64 f2, .int .i64 n, .int .i64 x0, .int .i64 x1, .int .i64 x2] 55)) (w.heap.size + 1) [.int .i64 op, .int .i64 f, .int .i64 b, .int .i64 tob, .int .i64 other, .int .i64 pos, .int .i64 id, .int .i64 kind, .int .i64 dst, .int .i64 a, .int .i64 b2, .int .i64 c, .int .i64 f2, .int .i64 n, .int .i64 x0, .int .i64 x1, .int .i64 x2] from hx1)
  clear hx0 hx1
  have HRW := Lib.hid (HRD0.out.on HBb.out)
  generalize hW : ((w.alloc (.cells #[.slice p.pa PL p.pc] 24)).alloc (.cells #[.int .i64 op, .int .i64 f, .int .i64 b, .int .i64 tob, .int .i64 other, .int .i64 pos, .int .i64 id, .int .i64 kind, .int .i64 dst, .int .i64 a, .int .i64 b2, .int .i64 c, .int .i64 f2, .int .i64 n, .int .i64 x0, .int .i64 x1, .int .i64 x2] 55)) = W at HBb HX0 HX1 HRW
  obtain ⟨g, hg⟩ : ∃ g, w.heap.size = g := ⟨_, rfl⟩
  have HGL := Lib.hid HBb.out.size
  rw [hg] at HBb HGL HX0 HX1 ⊢
  have HL0 := Lib.hid (HX0.out.lt (Nat.zero_lt_succ _))
  have HL1 := Lib.hid (HX1.out.lt (Nat.zero_lt_succ _))
  have HC : Hid (∀ wr, Below W.heap.size W wr → wr.cell? ⟨g, 0, none⟩ = some (.slice p.pa PL p.pc) ∧ wr.cell? ⟨g + 1, 0, none⟩ = some (.int .i64 op) ∧ wr.cell? ⟨g + 1, 1, none⟩ = some (.int .i64 f) ∧ wr.cell? ⟨g + 1, 2, none⟩ = some (.int .i64 b) ∧ wr.cell? ⟨g + 1, 3, none⟩ = some (.int .i64 tob) ∧ wr.cell? ⟨g + 1, 4, none⟩ = some (.int .i64 other) ∧ wr.cell? ⟨g + 1, 5, none⟩ = some (.int .i64 pos) ∧ wr.cell? ⟨g + 1, 6, none⟩ = some (.int .i64 id) ∧ wr.cell? ⟨g + 1, 7, none⟩ = some (.int .i64 kind) ∧ wr.cell? ⟨g + 1, 8, none⟩ = some (.int .i64 dst) ∧ wr.cell? ⟨g + 1, 9, none⟩ = some (.int .i64 a) ∧ wr.cell? ⟨g + 1, 10, none⟩ = some (.int .i64 b2) ∧ wr.cell? ⟨g + 1, 11, none⟩ = some (.int .i64 c) ∧ wr.cell? ⟨g + 1, 12, none⟩ = some (.int .i64 f2) ∧ wr.cell? ⟨g + 1, 13, none⟩ = some (.int .i64 n) ∧ wr.cell? ⟨g + 1, 14, none⟩ = some (.int .i64 x0) ∧ wr.cell? ⟨g + 1, 15, none⟩ = some (.int .i64 x1) ∧ wr.cell? ⟨g + 1, 16, none⟩ = some (.int .i64 x2)) := Lib.hid fun wr hb => ⟨((HX0.out.below hb HL0.out) 0 _ rfl).1, ((HX1.out.below hb HL1.out) 0 _ rfl).1, ((HX1.out.below hb HL1.out) 1 _ rfl).1, ((HX1.out.below hb HL1.out) 2 _ rfl).1, ((HX1.out.below hb HL1.out) 3 _ rfl).1, ((HX1.out.below hb HL1.out) 4 _ rfl).1, ((HX1.out.below hb HL1.out) 5 _ rfl).1, ((HX1.out.below hb HL1.out) 6 _ rfl).1, ((HX1.out.below hb HL1.out) 7 _ rfl).1, ((HX1.out.below hb HL1.out) 8 _ rfl).1, ((HX1.out.below hb HL1.out) 9 _ rfl).1, ((HX1.out.below hb HL1.out) 10 _ rfl).1, ((HX1.out.below hb HL1.out) 11 _ rfl).1, ((HX1.out.below hb HL1.out) 12 _ rfl).1, ((HX1.out.below hb HL1.out) 13 _ rfl).1, ((HX1.out.below hb HL1.out) 14 _ rfl).1, ((HX1.out.below hb HL1.out) 15 _ rfl).1, ((HX1.out.below hb HL1.out) 16 _ rfl).1⟩
  have HBN : Hid (Below W.heap.size W W) := Lib.hid (Below.refl _ _)
  obtain ⟨k0, k1, k2, k3, k4, k5, k6, k7, k8, k9, k10, k11, k12, k13, k14, k15, k16, k17⟩ := HC.out _ HBN.out
  by_cases hop : op = 0
  · subst hop
    rw [if_pos rfl] at HR
    go_enter Tryz.func77, Tryz.ntmps77
    go_wp2_with (go_at_call 108; refine (HAF.out _).mono ?_; rintro e wn ⟨rfl, hbn⟩; have hbx := HBN.out.trans (hbn.mono HBN.out.size); clear HBN hbn; have HBN := Lib.hid hbx; clear hbx; clear k0 k1 k2 k3 k4 k5 k6 k7 k8 k9 k10 k11 k12 k13 k14 k15 k16 k17)
    go_ret
    exact ⟨ret_int HR.out, HBb.out.trans (HBN.out.mono HGL.out)⟩
  have hob : (op == 0) = false := beq_false_of_ne hop
  rw [if_neg hop] at HR
  clear hop
  go_enter Tryz.func77, Tryz.ntmps77
  go_wp2_with (go_at_call 15; refine (HFU.out _ (HRW.out.on HBN.out)).mono ?_; rintro e wf ⟨rfl, hbn⟩; have HB2 := Lib.hid ((HBN.out.trans (hbn.mono HBN.out.size)).alloc (Nat.le_trans HBN.out.size hbn.size) (.cells #[.int .i64 ar, .int .i64 vr, .slice ba BL bc] 29)); clear hbn HBN k0 k1 k2 k3 k4 k5 k6 k7 k8 k9 k10 k11 k12 k13 k14 k15 k16 k17)
  generalize wf.alloc (.cells #[.int .i64 ar, .int .i64 vr, .slice ba BL bc] 29) = W2 at *
  have HF1 := Lib.hid (HBb.out.trans (HB2.out.mono HGL.out))
  have HG2 := Lib.hid (Nat.le_trans HGL.out HB2.out.size)
  have HRD2 := Lib.hid (HRW.out.on HB2.out)
  have HS : Hid (∀ w', Below W2.heap.size W2 w' → w'.cell? ⟨g, 0, none⟩ = some (.slice p.pa PL p.pc) ∧ w'.cell? ⟨g + 1, 0, none⟩ = some (.int .i64 op) ∧ w'.cell? ⟨g + 1, 1, none⟩ = some (.int .i64 f) ∧ w'.cell? ⟨g + 1, 2, none⟩ = some (.int .i64 b) ∧ w'.cell? ⟨g + 1, 3, none⟩ = some (.int .i64 tob) ∧ w'.cell? ⟨g + 1, 4, none⟩ = some (.int .i64 other) ∧ w'.cell? ⟨g + 1, 5, none⟩ = some (.int .i64 pos) ∧ w'.cell? ⟨g + 1, 6, none⟩ = some (.int .i64 id) ∧ w'.cell? ⟨g + 1, 7, none⟩ = some (.int .i64 kind) ∧ w'.cell? ⟨g + 1, 8, none⟩ = some (.int .i64 dst) ∧ w'.cell? ⟨g + 1, 9, none⟩ = some (.int .i64 a) ∧ w'.cell? ⟨g + 1, 10, none⟩ = some (.int .i64 b2) ∧ w'.cell? ⟨g + 1, 11, none⟩ = some (.int .i64 c) ∧ w'.cell? ⟨g + 1, 12, none⟩ = some (.int .i64 f2) ∧ w'.cell? ⟨g + 1, 13, none⟩ = some (.int .i64 n) ∧ w'.cell? ⟨g + 1, 14, none⟩ = some (.int .i64 x0) ∧ w'.cell? ⟨g + 1, 15, none⟩ = some (.int .i64 x1) ∧ w'.cell? ⟨g + 1, 16, none⟩ = some (.int .i64 x2)) := Lib.hid fun w' hb => ⟨((HX0.out.below (HB2.out.trans (hb.mono HB2.out.size)) HL0.out) 0 _ rfl).1, ((HX1.out.below (HB2.out.trans (hb.mono HB2.out.size)) HL1.out) 0 _ rfl).1, ((HX1.out.below (HB2.out.trans (hb.mono HB2.out.size)) HL1.out) 1 _ rfl).1, ((HX1.out.below (HB2.out.trans (hb.mono HB2.out.size)) HL1.out) 2 _ rfl).1, ((HX1.out.below (HB2.out.trans (hb.mono HB2.out.size)) HL1.out) 3 _ rfl).1, ((HX1.out.below (HB2.out.trans (hb.mono HB2.out.size)) HL1.out) 4 _ rfl).1, ((HX1.out.below (HB2.out.trans (hb.mono HB2.out.size)) HL1.out) 5 _ rfl).1, ((HX1.out.below (HB2.out.trans (hb.mono HB2.out.size)) HL1.out) 6 _ rfl).1, ((HX1.out.below (HB2.out.trans (hb.mono HB2.out.size)) HL1.out) 7 _ rfl).1, ((HX1.out.below (HB2.out.trans (hb.mono HB2.out.size)) HL1.out) 8 _ rfl).1, ((HX1.out.below (HB2.out.trans (hb.mono HB2.out.size)) HL1.out) 9 _ rfl).1, ((HX1.out.below (HB2.out.trans (hb.mono HB2.out.size)) HL1.out) 10 _ rfl).1, ((HX1.out.below (HB2.out.trans (hb.mono HB2.out.size)) HL1.out) 11 _ rfl).1, ((HX1.out.below (HB2.out.trans (hb.mono HB2.out.size)) HL1.out) 12 _ rfl).1, ((HX1.out.below (HB2.out.trans (hb.mono HB2.out.size)) HL1.out) 13 _ rfl).1, ((HX1.out.below (HB2.out.trans (hb.mono HB2.out.size)) HL1.out) 14 _ rfl).1, ((HX1.out.below (HB2.out.trans (hb.mono HB2.out.size)) HL1.out) 15 _ rfl).1, ((HX1.out.below (HB2.out.trans (hb.mono HB2.out.size)) HL1.out) 16 _ rfl).1⟩
  have HBN : Hid (Below W2.heap.size W2 W2.drew) := Lib.hid (Below.refl _ _).drew
  go_region_held3 (fun w' => w'.cell? ⟨g, 0, none⟩ = some (.slice p.pa PL p.pc) ∧ w'.cell? ⟨g + 1, 0, none⟩ = some (.int .i64 op) ∧ w'.cell? ⟨g + 1, 1, none⟩ = some (.int .i64 f) ∧ w'.cell? ⟨g + 1, 2, none⟩ = some (.int .i64 b) ∧ w'.cell? ⟨g + 1, 3, none⟩ = some (.int .i64 tob) ∧ w'.cell? ⟨g + 1, 4, none⟩ = some (.int .i64 other) ∧ w'.cell? ⟨g + 1, 5, none⟩ = some (.int .i64 pos) ∧ w'.cell? ⟨g + 1, 6, none⟩ = some (.int .i64 id) ∧ w'.cell? ⟨g + 1, 7, none⟩ = some (.int .i64 kind) ∧ w'.cell? ⟨g + 1, 8, none⟩ = some (.int .i64 dst) ∧ w'.cell? ⟨g + 1, 9, none⟩ = some (.int .i64 a) ∧ w'.cell? ⟨g + 1, 10, none⟩ = some (.int .i64 b2) ∧ w'.cell? ⟨g + 1, 11, none⟩ = some (.int .i64 c) ∧ w'.cell? ⟨g + 1, 12, none⟩ = some (.int .i64 f2) ∧ w'.cell? ⟨g + 1, 13, none⟩ = some (.int .i64 n) ∧ w'.cell? ⟨g + 1, 14, none⟩ = some (.int .i64 x0) ∧ w'.cell? ⟨g + 1, 15, none⟩ = some (.int .i64 x1) ∧ w'.cell? ⟨g + 1, 16, none⟩ = some (.int .i64 x2))
    (first | exact HS.out _ HBN.out | exact HS.out _ (HBN.out.alloc HBN.out.size _))
    (first
      | (go_at_call 75; refine (unless_any _ _ _).mono ?_; rintro e wn ⟨rfl, rfl⟩)
      | (go_at_call 109; refine (HIN.out _ (HRD2.out.on HBN.out)).mono ?_; rintro e wn ⟨rfl, hbn⟩; have hbx := HBN.out.trans (hbn.mono HBN.out.size); clear HBN hbn; have HBN := Lib.hid hbx; clear hbx)
      | (go_at_call 74; refine (first_any [unl rf 1, iE] _ 0 2 2 _ rfl (by decide) (by first | exact new_errs _ [unl rf 1, iE] _ 2 rfl | exact new_errs_d _ [unl rf 1, iE] _ 2 rfl) r HR.out).mono ?_; rintro e wn ⟨rfl, rfl⟩))
  all_goals
    go_wp2_with fail
    go_ret
    exact ⟨rfl, (HF1.out.trans (HBN.out.mono HG2.out)).alloc (Nat.le_trans HG2.out HBN.out.size) _⟩

set_option maxRecDepth 100000 in
set_option maxHeartbeats 16000000 in
theorem Check_any (p : Pg) (e : Ed) (w : World) (h : Rd w p) (hfew : p.few) (r : Int) (hr : chk p e = r) :
    Calls Tryz.prog 39 #[p.val, e.val] w fun x w' => x = .returned (.int .i64 r) ∧ Below w.heap.size w w' := by
  obtain ⟨s, hs⟩ : ∃ s, p.saneB = s := ⟨_, rfl⟩
  obtain ⟨oE, hoE⟩ : ∃ oE, opE p e = oE := ⟨_, rfl⟩
  have HSA := Lib.hid (fun wr (h : Rd wr p) => Sane_any p wr h.1 h.2.1 h.2.2 hfew s (by rw [← hs]; exact saneB_iff p))
  have HCO := Lib.hid (fun wr (h : Rd wr p) => checkOp_any p e wr h hfew oE hoE)
  unfold chk at hr
  rw [hs, hoE] at hr
  have HRD0 := Lib.hid h
  clear h hfew hs hoE
  obtain ⟨op, f, b, tob, other, pos, ⟨id, kind, dst, a, b2, c, f2, n, x0, x1, x2⟩⟩ := e
  unfold Pg.val at HSA HCO
  unfold Ed.val at HCO
  unfold Pg.val Ed.val
  dsimp only at *
  obtain ⟨PL, hPL⟩ : ∃ PL, p.funs.length = PL := ⟨_, rfl⟩
  simp only [hPL] at HSA HCO ⊢
  clear hPL
  have HR := Lib.hid hr
  clear hr
  have HBb := Lib.hid (below2 w (.cells #[.slice p.pa PL p.pc] 24) (.cells #[.int .i64 op, .int .i64 f, .int .i64 b, .int .i64 tob, .int .i64 other, .int .i64 pos, .int .i64 id, .int .i64 kind, .int .i64 dst, .int .i64 a, .int .i64 b2, .int .i64 c, .int .i64 f2, .int .i64 n, .int .i64 x0, .int .i64 x1, .int .i64 x2] 55))
  have hx0 := BoxL.new w [.slice p.pa PL p.pc] 24
  have HX0 := Lib.hid (show BoxL ((w.alloc (.cells #[.slice p.pa PL p.pc] 24)).alloc (.cells #[.int .i64 op, .int .i64 f, .int .i64 b, .int .i64 tob, .int .i64 other, .int .i64 pos, .int .i64 id, .int .i64 kind, .int .i64 dst, .int .i64 a, .int .i64 b2, .int .i64 c, .int .i64 f2, .int .i64 n, .int .i64 x0, .int .i64 x1, .int .i64 x2] 55)) (w.heap.size) [.slice p.pa PL p.pc] from (hx0).alloc (Nat.zero_lt_succ _) (.cells #[.int .i64 op, .int .i64 f, .int .i64 b, .int .i64 tob, .int .i64 other, .int .i64 pos, .int .i64 id, .int .i64 kind, .int .i64 dst, .int .i64 a, .int .i64 b2, .int .i64 c, .int .i64 f2, .int .i64 n, .int .i64 x0, .int .i64 x1, .int .i64 x2] 55))
  have hx1 := BoxL.new (w.alloc (.cells #[.slice p.pa PL p.pc] 24)) [.int .i64 op, .int .i64 f, .int .i64 b, .int .i64 tob, .int .i64 other, .int .i64 pos, .int .i64 id, .int .i64 kind, .int .i64 dst, .int .i64 a, .int .i64 b2, .int .i64 c, .int .i64 f2, .int .i64 n, .int .i64 x0, .int .i64 x1, .int .i64 x2] 55
  rw [World.size_alloc] at hx1
  have HX1 := Lib.hid (show BoxL ((w.alloc (.cells #[.slice p.pa PL p.pc] 24)).alloc (.cells #[.int .i64 op, .int .i64 f, .int .i64 b, .int .i64 tob, .int .i64 other, .int .i64 pos, .int .i64 id, .int .i64 kind, .int .i64 dst, .int .i64 a, .int .i64 b2, .int .i64 c, .int .i64 f2, .int .i64 n, .int .i64 x0, .int .i64 x1, .int .i64 x2] 55)) (w.heap.size + 1) [.int .i64 op, .int .i64 f, .int .i64 b, .int .i64 tob, .int .i64 other, .int .i64 pos, .int .i64 id, .int .i64 kind, .int .i64 dst, .int .i64 a, .int .i64 b2, .int .i64 c, .int .i64 f2, .int .i64 n, .int .i64 x0, .int .i64 x1, .int .i64 x2] from hx1)
  clear hx0 hx1
  have HRW := Lib.hid (HRD0.out.on HBb.out)
  generalize hW : ((w.alloc (.cells #[.slice p.pa PL p.pc] 24)).alloc (.cells #[.int .i64 op, .int .i64 f, .int .i64 b, .int .i64 tob, .int .i64 other, .int .i64 pos, .int .i64 id, .int .i64 kind, .int .i64 dst, .int .i64 a, .int .i64 b2, .int .i64 c, .int .i64 f2, .int .i64 n, .int .i64 x0, .int .i64 x1, .int .i64 x2] 55)) = W at HBb HX0 HX1 HRW
  obtain ⟨g, hg⟩ : ∃ g, w.heap.size = g := ⟨_, rfl⟩
  have HGL := Lib.hid HBb.out.size
  rw [hg] at HBb HGL HX0 HX1 ⊢
  have HL0 := Lib.hid (HX0.out.lt (Nat.zero_lt_succ _))
  have HL1 := Lib.hid (HX1.out.lt (Nat.zero_lt_succ _))
  have HC : Hid (∀ wr, Below W.heap.size W wr → wr.cell? ⟨g, 0, none⟩ = some (.slice p.pa PL p.pc) ∧ wr.cell? ⟨g + 1, 0, none⟩ = some (.int .i64 op) ∧ wr.cell? ⟨g + 1, 1, none⟩ = some (.int .i64 f) ∧ wr.cell? ⟨g + 1, 2, none⟩ = some (.int .i64 b) ∧ wr.cell? ⟨g + 1, 3, none⟩ = some (.int .i64 tob) ∧ wr.cell? ⟨g + 1, 4, none⟩ = some (.int .i64 other) ∧ wr.cell? ⟨g + 1, 5, none⟩ = some (.int .i64 pos) ∧ wr.cell? ⟨g + 1, 6, none⟩ = some (.int .i64 id) ∧ wr.cell? ⟨g + 1, 7, none⟩ = some (.int .i64 kind) ∧ wr.cell? ⟨g + 1, 8, none⟩ = some (.int .i64 dst) ∧ wr.cell? ⟨g + 1, 9, none⟩ = some (.int .i64 a) ∧ wr.cell? ⟨g + 1, 10, none⟩ = some (.int .i64 b2) ∧ wr.cell? ⟨g + 1, 11, none⟩ = some (.int .i64 c) ∧ wr.cell? ⟨g + 1, 12, none⟩ = some (.int .i64 f2) ∧ wr.cell? ⟨g + 1, 13, none⟩ = some (.int .i64 n) ∧ wr.cell? ⟨g + 1, 14, none⟩ = some (.int .i64 x0) ∧ wr.cell? ⟨g + 1, 15, none⟩ = some (.int .i64 x1) ∧ wr.cell? ⟨g + 1, 16, none⟩ = some (.int .i64 x2)) := Lib.hid fun wr hb => ⟨((HX0.out.below hb HL0.out) 0 _ rfl).1, ((HX1.out.below hb HL1.out) 0 _ rfl).1, ((HX1.out.below hb HL1.out) 1 _ rfl).1, ((HX1.out.below hb HL1.out) 2 _ rfl).1, ((HX1.out.below hb HL1.out) 3 _ rfl).1, ((HX1.out.below hb HL1.out) 4 _ rfl).1, ((HX1.out.below hb HL1.out) 5 _ rfl).1, ((HX1.out.below hb HL1.out) 6 _ rfl).1, ((HX1.out.below hb HL1.out) 7 _ rfl).1, ((HX1.out.below hb HL1.out) 8 _ rfl).1, ((HX1.out.below hb HL1.out) 9 _ rfl).1, ((HX1.out.below hb HL1.out) 10 _ rfl).1, ((HX1.out.below hb HL1.out) 11 _ rfl).1, ((HX1.out.below hb HL1.out) 12 _ rfl).1, ((HX1.out.below hb HL1.out) 13 _ rfl).1, ((HX1.out.below hb HL1.out) 14 _ rfl).1, ((HX1.out.below hb HL1.out) 15 _ rfl).1, ((HX1.out.below hb HL1.out) 16 _ rfl).1⟩
  have HBN : Hid (Below W.heap.size W W) := Lib.hid (Below.refl _ _)
  clear HBN
  go_enter Tryz.func39, Tryz.ntmps39
  go_wp2_with fail
  have HS : Hid (∀ w', Below W.heap.size W w' → w'.cell? ⟨g, 0, none⟩ = some (.slice p.pa PL p.pc) ∧ w'.cell? ⟨g + 1, 0, none⟩ = some (.int .i64 op) ∧ w'.cell? ⟨g + 1, 1, none⟩ = some (.int .i64 f) ∧ w'.cell? ⟨g + 1, 2, none⟩ = some (.int .i64 b) ∧ w'.cell? ⟨g + 1, 3, none⟩ = some (.int .i64 tob) ∧ w'.cell? ⟨g + 1, 4, none⟩ = some (.int .i64 other) ∧ w'.cell? ⟨g + 1, 5, none⟩ = some (.int .i64 pos) ∧ w'.cell? ⟨g + 1, 6, none⟩ = some (.int .i64 id) ∧ w'.cell? ⟨g + 1, 7, none⟩ = some (.int .i64 kind) ∧ w'.cell? ⟨g + 1, 8, none⟩ = some (.int .i64 dst) ∧ w'.cell? ⟨g + 1, 9, none⟩ = some (.int .i64 a) ∧ w'.cell? ⟨g + 1, 10, none⟩ = some (.int .i64 b2) ∧ w'.cell? ⟨g + 1, 11, none⟩ = some (.int .i64 c) ∧ w'.cell? ⟨g + 1, 12, none⟩ = some (.int .i64 f2) ∧ w'.cell? ⟨g + 1, 13, none⟩ = some (.int .i64 n) ∧ w'.cell? ⟨g + 1, 14, none⟩ = some (.int .i64 x0) ∧ w'.cell? ⟨g + 1, 15, none⟩ = some (.int .i64 x1) ∧ w'.cell? ⟨g + 1, 16, none⟩ = some (.int .i64 x2)) := Lib.hid fun w' hb => ⟨((HX0.out.below hb HL0.out) 0 _ rfl).1, ((HX1.out.below hb HL1.out) 0 _ rfl).1, ((HX1.out.below hb HL1.out) 1 _ rfl).1, ((HX1.out.below hb HL1.out) 2 _ rfl).1, ((HX1.out.below hb HL1.out) 3 _ rfl).1, ((HX1.out.below hb HL1.out) 4 _ rfl).1, ((HX1.out.below hb HL1.out) 5 _ rfl).1, ((HX1.out.below hb HL1.out) 6 _ rfl).1, ((HX1.out.below hb HL1.out) 7 _ rfl).1, ((HX1.out.below hb HL1.out) 8 _ rfl).1, ((HX1.out.below hb HL1.out) 9 _ rfl).1, ((HX1.out.below hb HL1.out) 10 _ rfl).1, ((HX1.out.below hb HL1.out) 11 _ rfl).1, ((HX1.out.below hb HL1.out) 12 _ rfl).1, ((HX1.out.below hb HL1.out) 13 _ rfl).1, ((HX1.out.below hb HL1.out) 14 _ rfl).1, ((HX1.out.below hb HL1.out) 15 _ rfl).1, ((HX1.out.below hb HL1.out) 16 _ rfl).1⟩
  have HBN : Hid (Below W.heap.size W W.drew) := Lib.hid (Below.refl _ _).drew
  go_region_held3 (fun w' => w'.cell? ⟨g, 0, none⟩ = some (.slice p.pa PL p.pc) ∧ w'.cell? ⟨g + 1, 0, none⟩ = some (.int .i64 op) ∧ w'.cell? ⟨g + 1, 1, none⟩ = some (.int .i64 f) ∧ w'.cell? ⟨g + 1, 2, none⟩ = some (.int .i64 b) ∧ w'.cell? ⟨g + 1, 3, none⟩ = some (.int .i64 tob) ∧ w'.cell? ⟨g + 1, 4, none⟩ = some (.int .i64 other) ∧ w'.cell? ⟨g + 1, 5, none⟩ = some (.int .i64 pos) ∧ w'.cell? ⟨g + 1, 6, none⟩ = some (.int .i64 id) ∧ w'.cell? ⟨g + 1, 7, none⟩ = some (.int .i64 kind) ∧ w'.cell? ⟨g + 1, 8, none⟩ = some (.int .i64 dst) ∧ w'.cell? ⟨g + 1, 9, none⟩ = some (.int .i64 a) ∧ w'.cell? ⟨g + 1, 10, none⟩ = some (.int .i64 b2) ∧ w'.cell? ⟨g + 1, 11, none⟩ = some (.int .i64 c) ∧ w'.cell? ⟨g + 1, 12, none⟩ = some (.int .i64 f2) ∧ w'.cell? ⟨g + 1, 13, none⟩ = some (.int .i64 n) ∧ w'.cell? ⟨g + 1, 14, none⟩ = some (.int .i64 x0) ∧ w'.cell? ⟨g + 1, 15, none⟩ = some (.int .i64 x1) ∧ w'.cell? ⟨g + 1, 16, none⟩ = some (.int .i64 x2))
    (first | exact HS.out _ HBN.out | exact HS.out _ (HBN.out.alloc HBN.out.size _))
    (first
      | (go_at_call 75; refine (unless_any _ _ _).mono ?_; rintro e wn ⟨rfl, rfl⟩)
      | (go_at_call 23; refine (HSA.out _ (HRW.out.on HBN.out)).mono ?_; rintro e wn ⟨rfl, hbn⟩; have hbx := HBN.out.trans (hbn.mono HBN.out.size); clear HBN hbn; have HBN := Lib.hid hbx; clear hbx)
      | (go_at_call 76; refine (isOp_any _ _).mono ?_; rintro e wn ⟨rfl, rfl⟩)
      | (go_at_call 77; refine (HCO.out _ (HRW.out.on HBN.out)).mono ?_; rintro e wn ⟨rfl, hbn⟩; have hbx := HBN.out.trans (hbn.mono HBN.out.size); clear HBN hbn; have HBN := Lib.hid hbx; clear hbx)
      | (go_at_call 74; refine (first_any [unl s 11, unl (isOpB op) 9, oE] _ 0 3 3 _ rfl (by decide) (by first | exact new_errs _ [unl s 11, unl (isOpB op) 9, oE] _ 3 rfl | exact new_errs_d _ [unl s 11, unl (isOpB op) 9, oE] _ 3 rfl) r HR.out).mono ?_; rintro e wn ⟨rfl, rfl⟩))
  all_goals
    go_wp2_with fail
    go_ret
    exact ⟨rfl, (HBb.out.trans (HBN.out.mono HGL.out)).alloc (Nat.le_trans HGL.out HBN.out.size) _⟩
end Go.Proofs.YtbddjneinfkmpaaGreatDoor
