/- Edits: checkCall, checkInsert. -/
import Derived.Test.YtbddjneinfkmpaaGreatDoorLate
import Derived.Test.YtbddjneinfkmpaaGreatDoorEdA
namespace Go.Proofs.YtbddjneinfkmpaaGreatDoor
open Go Go.RowKit Go.Sort

set_option maxRecDepth 100000 in
set_option maxHeartbeats 8000000 in
theorem checkCall_any (p : Pg) (i : Ins) (w : World) (h : Rd w p) (hfew : p.few) (r : Int) (hr : callE p i = r) :
    Calls Tryz.prog 170 #[p.val, i.val] w fun e w' => e = .returned (.int .i64 r) ∧ Below w.heap.size w w' := by
  obtain ⟨x, hx⟩ : ∃ x, funR p i.f = x := ⟨_, rfl⟩
  obtain ⟨rf, hrf⟩ : ∃ rf, funB p i.f = rf := ⟨_, rfl⟩
  have HFU := Lib.hid (fun wr (h : Rd wr p) => Fun_any p i.f wr h.1 h.2.1 h.2.2 hfew x hx rf hrf)
  unfold callE at hr
  rw [hx, hrf] at hr
  have HRD0 := Lib.hid h
  clear h hfew hx hrf
  obtain ⟨id, kind, dst, a, b2, c, f2, n, x0, x1, x2⟩ := i
  obtain ⟨ar, vr, ba, bc, bl⟩ := x
  unfold Pg.val Fd.val at HFU
  unfold Pg.val Ins.val
  dsimp only at *
  obtain ⟨PL, hPL⟩ : ∃ PL, p.funs.length = PL := ⟨_, rfl⟩
  obtain ⟨BL, hBL⟩ : ∃ BL, bl.length = BL := ⟨_, rfl⟩
  simp only [hPL, hBL] at HFU ⊢
  clear hPL hBL
  have HR := Lib.hid hr
  clear hr
  have HBb := Lib.hid (below2 w (.cells #[.slice p.pa PL p.pc] 24) (.cells #[.int .i64 id, .int .i64 kind, .int .i64 dst, .int .i64 a, .int .i64 b2, .int .i64 c, .int .i64 f2, .int .i64 n, .int .i64 x0, .int .i64 x1, .int .i64 x2] 40))
  have hx0 := BoxL.new w [.slice p.pa PL p.pc] 24
  have HX0 := Lib.hid (show BoxL ((w.alloc (.cells #[.slice p.pa PL p.pc] 24)).alloc (.cells #[.int .i64 id, .int .i64 kind, .int .i64 dst, .int .i64 a, .int .i64 b2, .int .i64 c, .int .i64 f2, .int .i64 n, .int .i64 x0, .int .i64 x1, .int .i64 x2] 40)) (w.heap.size) [.slice p.pa PL p.pc] from (hx0).alloc (Nat.zero_lt_succ _) (.cells #[.int .i64 id, .int .i64 kind, .int .i64 dst, .int .i64 a, .int .i64 b2, .int .i64 c, .int .i64 f2, .int .i64 n, .int .i64 x0, .int .i64 x1, .int .i64 x2] 40))
  have hx1 := BoxL.new (w.alloc (.cells #[.slice p.pa PL p.pc] 24)) [.int .i64 id, .int .i64 kind, .int .i64 dst, .int .i64 a, .int .i64 b2, .int .i64 c, .int .i64 f2, .int .i64 n, .int .i64 x0, .int .i64 x1, .int .i64 x2] 40
  rw [World.size_alloc] at hx1
  have HX1 := Lib.hid (show BoxL ((w.alloc (.cells #[.slice p.pa PL p.pc] 24)).alloc (.cells #[.int .i64 id, .int .i64 kind, .int .i64 dst, .int .i64 a, .int .i64 b2, .int .i64 c, .int .i64 f2, .int .i64 n, .int .i64 x0, .int .i64 x1, .int .i64 x2] 40)) (w.heap.size + 1) [.int .i64 id, .int .i64 kind, .int .i64 dst, .int .i64 a, .int .i64 b2, .int .i64 c, .int .i64 f2, .int .i64 n, .int .i64 x0, .int .i64 x1, .int .i64 x2] from hx1)
  clear hx0 hx1
  have HRW := Lib.hid (HRD0.out.on HBb.out)
  generalize hW : ((w.alloc (.cells #[.slice p.pa PL p.pc] 24)).alloc (.cells #[.int .i64 id, .int .i64 kind, .int .i64 dst, .int .i64 a, .int .i64 b2, .int .i64 c, .int .i64 f2, .int .i64 n, .int .i64 x0, .int .i64 x1, .int .i64 x2] 40)) = W at HBb HX0 HX1 HRW
  obtain ⟨g, hg⟩ : ∃ g, w.heap.size = g := ⟨_, rfl⟩
  have HGL := Lib.hid HBb.out.size
  rw [hg] at HBb HGL HX0 HX1 ⊢
  have HL0 := Lib.hid (HX0.out.lt (Nat.zero_lt_succ _))
  have HL1 := Lib.hid (HX1.out.lt (Nat.zero_lt_succ _))
  have HC : Hid (∀ wr, Below W.heap.size W wr → wr.cell? ⟨g, 0, none⟩ = some (.slice p.pa PL p.pc) ∧ wr.cell? ⟨g + 1, 0, none⟩ = some (.int .i64 id) ∧ wr.cell? ⟨g + 1, 1, none⟩ = some (.int .i64 kind) ∧ wr.cell? ⟨g + 1, 2, none⟩ = some (.int .i64 dst) ∧ wr.cell? ⟨g + 1, 3, none⟩ = some (.int .i64 a) ∧ wr.cell? ⟨g + 1, 4, none⟩ = some (.int .i64 b2) ∧ wr.cell? ⟨g + 1, 5, none⟩ = some (.int .i64 c) ∧ wr.cell? ⟨g + 1, 6, none⟩ = some (.int .i64 f2) ∧ wr.cell? ⟨g + 1, 7, none⟩ = some (.int .i64 n) ∧ wr.cell? ⟨g + 1, 8, none⟩ = some (.int .i64 x0) ∧ wr.cell? ⟨g + 1, 9, none⟩ = some (.int .i64 x1) ∧ wr.cell? ⟨g + 1, 10, none⟩ = some (.int .i64 x2)) := Lib.hid fun wr hb => ⟨((HX0.out.below hb HL0.out) 0 _ rfl).1, ((HX1.out.below hb HL1.out) 0 _ rfl).1, ((HX1.out.below hb HL1.out) 1 _ rfl).1, ((HX1.out.below hb HL1.out) 2 _ rfl).1, ((HX1.out.below hb HL1.out) 3 _ rfl).1, ((HX1.out.below hb HL1.out) 4 _ rfl).1, ((HX1.out.below hb HL1.out) 5 _ rfl).1, ((HX1.out.below hb HL1.out) 6 _ rfl).1, ((HX1.out.below hb HL1.out) 7 _ rfl).1, ((HX1.out.below hb HL1.out) 8 _ rfl).1, ((HX1.out.below hb HL1.out) 9 _ rfl).1, ((HX1.out.below hb HL1.out) 10 _ rfl).1⟩
  have HBN : Hid (Below W.heap.size W W) := Lib.hid (Below.refl _ _)
  obtain ⟨k0, k1, k2, k3, k4, k5, k6, k7, k8, k9, k10, k11⟩ := HC.out _ HBN.out
  by_cases hk : kind = 7
  rotate_left
  · have hkb : (kind != 7) = true := by simpa using hk
    have HK := Lib.hid hk
    clear hk
    go_enter Tryz.func170, Tryz.ntmps170
    go_wp2_with fail
    go_ret
    refine ⟨ret_int ?_, HBb.out⟩
    rw [← HR.out, if_neg HK.out]
  subst hk
  have hkb : ((7 : Int) != 7) = false := by decide
  rw [if_pos rfl] at HR
  go_enter Tryz.func170, Tryz.ntmps170
  go_wp2_with (go_at_call 15; refine (HFU.out _ (HRW.out.on HBN.out)).mono ?_; rintro e wf ⟨rfl, hbn⟩; have HB2 := Lib.hid ((HBN.out.trans (hbn.mono HBN.out.size)).alloc (Nat.le_trans HBN.out.size hbn.size) (.cells #[.int .i64 ar, .int .i64 vr, .slice ba BL bc] 29)); have HXF := Lib.hid (show BoxL (wf.alloc (.cells #[.int .i64 ar, .int .i64 vr, .slice ba BL bc] 29)) wf.heap.size [.int .i64 ar, .int .i64 vr, .slice ba BL bc] from BoxL.new wf _ _); clear hbn HBN k0 k1 k2 k3 k4 k5 k6 k7 k8 k9 k10 k11)
  generalize wf.alloc (.cells #[.int .i64 ar, .int .i64 vr, .slice ba BL bc] 29) = W2 at *
  obtain ⟨gx, hgx⟩ : ∃ b, wf.heap.size = b := ⟨_, rfl⟩
  rw [hgx] at HXF ⊢
  have HLX := Lib.hid (HXF.out.lt (Nat.zero_lt_succ _))
  have HF1 := Lib.hid (HBb.out.trans (HB2.out.mono HGL.out))
  have HG2 := Lib.hid (Nat.le_trans HGL.out HB2.out.size)
  have HS : Hid (∀ w', Below W2.heap.size W2 w' → w'.cell? ⟨gx, 0, none⟩ = some (.int .i64 ar) ∧ w'.cell? ⟨g + 1, 7, none⟩ = some (.int .i64 n)) := Lib.hid fun w' hb => ⟨((HXF.out.below hb HLX.out) 0 _ rfl).1, ((HX1.out.below (HB2.out.trans (hb.mono HB2.out.size)) HL1.out) 7 _ rfl).1⟩
  have HBN : Hid (Below W2.heap.size W2 W2.drew) := Lib.hid (Below.refl _ _).drew
  go_region_held3 (fun w' => w'.cell? ⟨gx, 0, none⟩ = some (.int .i64 ar) ∧ w'.cell? ⟨g + 1, 7, none⟩ = some (.int .i64 n))
    (first | exact HS.out _ HBN.out | exact HS.out _ (HBN.out.alloc HBN.out.size _))
    (first
      | (go_at_call 75; refine (unless_any _ _ _).mono ?_; rintro e wn ⟨rfl, rfl⟩)
      | (go_at_call 74; refine (first_any [unl rf 1, unl (ar == n) 7] _ 0 2 2 _ rfl (by decide) (by first | exact new_errs _ [unl rf 1, unl (ar == n) 7] _ 2 rfl | exact new_errs_d _ [unl rf 1, unl (ar == n) 7] _ 2 rfl) r HR.out).mono ?_; rintro e wn ⟨rfl, rfl⟩))
  all_goals
    go_wp2_with fail
    go_ret
    exact ⟨rfl, (HF1.out.trans (HBN.out.mono HG2.out)).alloc (Nat.le_trans HG2.out HBN.out.size) _⟩

end Go.Proofs.YtbddjneinfkmpaaGreatDoor
