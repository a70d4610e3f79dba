/- Edits: checkInFun, an edge that goes elsewhere -/
import Derived.Test.YtbddjneinfkmpaaGreatDoorEdB
namespace Go.Proofs.YtbddjneinfkmpaaGreatDoor
open Go Go.RowKit Go.Sort

set_option maxRecDepth 100000 in
set_option maxHeartbeats 16000000 in
theorem inFun5n_any (p : Pg) (op f b tob other pos : Int) (i : Ins) (w : World) (h : Rd w p) (hfew : p.few) (hop : op = 5) (hne : other ≠ tob) :
    Calls Tryz.prog 109 #[p.val, Ed.val ⟨op, f, b, tob, other, pos, i⟩] w fun e w' => e = .returned (.int .i64 (inFunE p ⟨op, f, b, tob, other, pos, i⟩)) ∧ Below w.heap.size w w' := by
  obtain ⟨r, hr⟩ : ∃ r, inFunE p ⟨op, f, b, tob, other, pos, i⟩ = r := ⟨_, rfl⟩
  rw [hr]
  unfold inFunE at hr
  subst hop
  simp only [show ¬ ((5 : Int) = 1) by decide, show ¬ ((5 : Int) = 2) by decide, show ¬ ((5 : Int) = 3) by decide, show ¬ ((5 : Int) = 4) by decide, if_false, if_true] at hr
  obtain ⟨bE, hbE⟩ : ∃ bE, blocksE p f [b, tob, other] = bE := ⟨_, rfl⟩
  rw [hbE] at hr
  have HBE := Lib.hid hbE
  clear hbE
  obtain ⟨r1, hr1⟩ : ∃ r1, edgeB p f b tob = r1 := ⟨_, rfl⟩
  rw [hr1] at hr
  have HHE := Lib.hid (fun wr (h : Rd wr p) => hasEdge_any p f b tob wr h hfew r1 hr1)
  clear hr1
  obtain ⟨r2, hr2⟩ : ∃ r2, edgeB p f b other = r2 := ⟨_, rfl⟩
  rw [hr2, decide_eq_false hne, Bool.false_or] at hr
  have HHO := Lib.hid (fun wr (h : Rd wr p) => hasEdge_any p f b other wr h hfew r2 hr2)
  have hnb : (other == tob) = false := beq_false_of_ne hne
  clear hr2 hne
  have HCB := Lib.hid (fun wr (h : Rd wr p) a l cap (hI : Is wr.heap.size wr a l) L hL hl bE hbE => checkBlocks_any p f a l cap wr h hfew hI L hL hl bE hbE)
  have HRD0 := Lib.hid h
  clear h hfew
  obtain ⟨id, kind, dst, a, b2, c, f2, n, x0, x1, x2⟩ := i
  unfold Pg.val at HHE HHO HCB
  unfold Pg.val Ed.val
  dsimp only at *
  obtain ⟨PL, hPL⟩ : ∃ PL, p.funs.length = PL := ⟨_, rfl⟩
  simp only [hPL] at HHE HHO HCB ⊢
  clear hPL
  have HR := Lib.hid hr
  clear hr
  have HBb := Lib.hid (below2 w (.cells #[.slice p.pa PL p.pc] 24) (.cells #[.int .i64 5, .int .i64 f, .int .i64 b, .int .i64 tob, .int .i64 other, .int .i64 pos, .int .i64 id, .int .i64 kind, .int .i64 dst, .int .i64 a, .int .i64 b2, .int .i64 c, .int .i64 f2, .int .i64 n, .int .i64 x0, .int .i64 x1, .int .i64 x2] 55))
  have hx0 := BoxL.new w [.slice p.pa PL p.pc] 24
  have HX0 := Lib.hid (show BoxL ((w.alloc (.cells #[.slice p.pa PL p.pc] 24)).alloc (.cells #[.int .i64 5, .int .i64 f, .int .i64 b, .int .i64 tob, .int .i64 other, .int .i64 pos, .int .i64 id, .int .i64 kind, .int .i64 dst, .int .i64 a, .int .i64 b2, .int .i64 c, .int .i64 f2, .int .i64 n, .int .i64 x0, .int .i64 x1, .int .i64 x2] 55)) (w.heap.size) [.slice p.pa PL p.pc] from (hx0).alloc (Nat.zero_lt_succ _) (.cells #[.int .i64 5, .int .i64 f, .int .i64 b, .int .i64 tob, .int .i64 other, .int .i64 pos, .int .i64 id, .int .i64 kind, .int .i64 dst, .int .i64 a, .int .i64 b2, .int .i64 c, .int .i64 f2, .int .i64 n, .int .i64 x0, .int .i64 x1, .int .i64 x2] 55))
  have hx1 := BoxL.new (w.alloc (.cells #[.slice p.pa PL p.pc] 24)) [.int .i64 5, .int .i64 f, .int .i64 b, .int .i64 tob, .int .i64 other, .int .i64 pos, .int .i64 id, .int .i64 kind, .int .i64 dst, .int .i64 a, .int .i64 b2, .int .i64 c, .int .i64 f2, .int .i64 n, .int .i64 x0, .int .i64 x1, .int .i64 x2] 55
  rw [World.size_alloc] at hx1
  have HX1 := Lib.hid (show BoxL ((w.alloc (.cells #[.slice p.pa PL p.pc] 24)).alloc (.cells #[.int .i64 5, .int .i64 f, .int .i64 b, .int .i64 tob, .int .i64 other, .int .i64 pos, .int .i64 id, .int .i64 kind, .int .i64 dst, .int .i64 a, .int .i64 b2, .int .i64 c, .int .i64 f2, .int .i64 n, .int .i64 x0, .int .i64 x1, .int .i64 x2] 55)) (w.heap.size + 1) [.int .i64 5, .int .i64 f, .int .i64 b, .int .i64 tob, .int .i64 other, .int .i64 pos, .int .i64 id, .int .i64 kind, .int .i64 dst, .int .i64 a, .int .i64 b2, .int .i64 c, .int .i64 f2, .int .i64 n, .int .i64 x0, .int .i64 x1, .int .i64 x2] from hx1)
  clear hx0 hx1
  have HRW := Lib.hid (HRD0.out.on HBb.out)
  generalize hW : ((w.alloc (.cells #[.slice p.pa PL p.pc] 24)).alloc (.cells #[.int .i64 5, .int .i64 f, .int .i64 b, .int .i64 tob, .int .i64 other, .int .i64 pos, .int .i64 id, .int .i64 kind, .int .i64 dst, .int .i64 a, .int .i64 b2, .int .i64 c, .int .i64 f2, .int .i64 n, .int .i64 x0, .int .i64 x1, .int .i64 x2] 55)) = W at HBb HX0 HX1 HRW
  obtain ⟨g, hg⟩ : ∃ g, w.heap.size = g := ⟨_, rfl⟩
  have HGL := Lib.hid HBb.out.size
  rw [hg] at HBb HGL HX0 HX1 ⊢
  have HL0 := Lib.hid (HX0.out.lt (Nat.zero_lt_succ _))
  have HL1 := Lib.hid (HX1.out.lt (Nat.zero_lt_succ _))
  have HC : Hid (∀ wr, Below W.heap.size W wr → wr.cell? ⟨g, 0, none⟩ = some (.slice p.pa PL p.pc) ∧ wr.cell? ⟨g + 1, 0, none⟩ = some (.int .i64 5) ∧ wr.cell? ⟨g + 1, 1, none⟩ = some (.int .i64 f) ∧ wr.cell? ⟨g + 1, 2, none⟩ = some (.int .i64 b) ∧ wr.cell? ⟨g + 1, 3, none⟩ = some (.int .i64 tob) ∧ wr.cell? ⟨g + 1, 4, none⟩ = some (.int .i64 other) ∧ wr.cell? ⟨g + 1, 5, none⟩ = some (.int .i64 pos) ∧ wr.cell? ⟨g + 1, 6, none⟩ = some (.int .i64 id) ∧ wr.cell? ⟨g + 1, 7, none⟩ = some (.int .i64 kind) ∧ wr.cell? ⟨g + 1, 8, none⟩ = some (.int .i64 dst) ∧ wr.cell? ⟨g + 1, 9, none⟩ = some (.int .i64 a) ∧ wr.cell? ⟨g + 1, 10, none⟩ = some (.int .i64 b2) ∧ wr.cell? ⟨g + 1, 11, none⟩ = some (.int .i64 c) ∧ wr.cell? ⟨g + 1, 12, none⟩ = some (.int .i64 f2) ∧ wr.cell? ⟨g + 1, 13, none⟩ = some (.int .i64 n) ∧ wr.cell? ⟨g + 1, 14, none⟩ = some (.int .i64 x0) ∧ wr.cell? ⟨g + 1, 15, none⟩ = some (.int .i64 x1) ∧ wr.cell? ⟨g + 1, 16, none⟩ = some (.int .i64 x2)) := Lib.hid fun wr hb => ⟨((HX0.out.below hb HL0.out) 0 _ rfl).1, ((HX1.out.below hb HL1.out) 0 _ rfl).1, ((HX1.out.below hb HL1.out) 1 _ rfl).1, ((HX1.out.below hb HL1.out) 2 _ rfl).1, ((HX1.out.below hb HL1.out) 3 _ rfl).1, ((HX1.out.below hb HL1.out) 4 _ rfl).1, ((HX1.out.below hb HL1.out) 5 _ rfl).1, ((HX1.out.below hb HL1.out) 6 _ rfl).1, ((HX1.out.below hb HL1.out) 7 _ rfl).1, ((HX1.out.below hb HL1.out) 8 _ rfl).1, ((HX1.out.below hb HL1.out) 9 _ rfl).1, ((HX1.out.below hb HL1.out) 10 _ rfl).1, ((HX1.out.below hb HL1.out) 11 _ rfl).1, ((HX1.out.below hb HL1.out) 12 _ rfl).1, ((HX1.out.below hb HL1.out) 13 _ rfl).1, ((HX1.out.below hb HL1.out) 14 _ rfl).1, ((HX1.out.below hb HL1.out) 15 _ rfl).1, ((HX1.out.below hb HL1.out) 16 _ rfl).1⟩
  have HBN : Hid (Below W.heap.size W W) := Lib.hid (Below.refl _ _)
  have tok1 : True := trivial
  have tok2 : True := trivial
  obtain ⟨k0, k1, k2, k3, k4, k5, k6, k7, k8, k9, k10, k11, k12, k13, k14, k15, k16, k17⟩ := HC.out _ HBN.out
  go_enter Tryz.func109, Tryz.ntmps109
  go_wp2_with fail
  clear k0 k1 k2 k3 k4 k5 k6 k7 k8 k9 k10 k11 k12 k13 k14 k15 k16 k17
  have HS : Hid (∀ w', Below W.heap.size W w' → w'.cell? ⟨g, 0, none⟩ = some (.slice p.pa PL p.pc) ∧ w'.cell? ⟨g + 1, 1, none⟩ = some (.int .i64 f) ∧ w'.cell? ⟨g + 1, 2, none⟩ = some (.int .i64 b) ∧ w'.cell? ⟨g + 1, 3, none⟩ = some (.int .i64 tob) ∧ w'.cell? ⟨g + 1, 4, none⟩ = some (.int .i64 other)) := Lib.hid fun w' hb => ⟨((HX0.out.below hb HL0.out) 0 _ rfl).1, ((HX1.out.below hb HL1.out) 1 _ rfl).1, ((HX1.out.below hb HL1.out) 2 _ rfl).1, ((HX1.out.below hb HL1.out) 3 _ rfl).1, ((HX1.out.below hb HL1.out) 4 _ rfl).1⟩
  have HBA : ∀ o, Below W.heap.size W ((W.alloc o).drew) := fun o => (below1 W o).drew
  have HBN : Hid (Below W.heap.size W W.drew) := Lib.hid (Below.refl _ _).drew
  go_region_held3 (fun w' => w'.cell? ⟨g, 0, none⟩ = some (.slice p.pa PL p.pc) ∧ w'.cell? ⟨g + 1, 1, none⟩ = some (.int .i64 f) ∧ w'.cell? ⟨g + 1, 2, none⟩ = some (.int .i64 b) ∧ w'.cell? ⟨g + 1, 3, none⟩ = some (.int .i64 tob) ∧ w'.cell? ⟨g + 1, 4, none⟩ = some (.int .i64 other))
    (first | exact HS.out _ HBN.out | exact HS.out _ (HBA _) | exact HS.out _ (HBN.out.alloc HBN.out.size _))
    (first
      | (go_at_call 75; refine (unless_any _ _ _).mono ?_; rintro e wn ⟨rfl, rfl⟩)
      | (go_at_call 146; refine (HCB.out _ (HRW.out.on (HBA _)) _ [b, tob, other] _ (by first | exact is_new_d _ [b, tob, other] _ | exact is_new_s _ [b, tob, other] _) 3 rfl (by decide) bE HBE.out).mono ?_; rintro e wn ⟨rfl, hbn⟩; have hbx := (HBA _).trans (hbn.mono (HBA _).size); clear HBN hbn; have HBN := Lib.hid hbx; clear hbx)
      | (have _t := tok1; go_at_call 147; refine (HHE.out _ (HRW.out.on HBN.out)).mono ?_; clear _t tok1; rintro e wn ⟨rfl, hbn⟩; have hbx := HBN.out.trans (hbn.mono HBN.out.size); clear HBN hbn; have HBN := Lib.hid hbx; clear hbx)
      | (have _t := tok2; go_at_call 147; refine (HHO.out _ (HRW.out.on HBN.out)).mono ?_; clear _t tok2; rintro e wn ⟨rfl, hbn⟩; have hbx := HBN.out.trans (hbn.mono HBN.out.size); clear HBN hbn; have HBN := Lib.hid hbx; clear hbx)
      | (go_at_call 74; refine (first_any [bE, unl r1 5, unl (!r2) 5] _ 0 3 3 _ rfl (by decide) (by first | exact new_errs _ [bE, unl r1 5, unl (!r2) 5] _ 3 rfl | exact new_errs_d _ [bE, unl r1 5, unl (!r2) 5] _ 3 rfl) r HR.out).mono ?_; rintro e wn ⟨rfl, rfl⟩))
  all_goals
    go_wp2_with fail
    go_ret
    exact ⟨rfl, (HBb.out.trans (HBN.out.mono HGL.out)).alloc (Nat.le_trans HGL.out HBN.out.size) _⟩

set_option maxRecDepth 100000 in
set_option maxHeartbeats 16000000 in
theorem inFun5e_any (p : Pg) (op f b tob other pos : Int) (i : Ins) (w : World) (h : Rd w p) (hfew : p.few) (hop : op = 5) (heq : tob = other) :
    Calls Tryz.prog 109 #[p.val, Ed.val ⟨op, f, b, tob, other, pos, i⟩] w fun e w' => e = .returned (.int .i64 (inFunE p ⟨op, f, b, tob, other, pos, i⟩)) ∧ Below w.heap.size w w' := by
  obtain ⟨r, hr⟩ : ∃ r, inFunE p ⟨op, f, b, tob, other, pos, i⟩ = r := ⟨_, rfl⟩
  rw [hr]
  unfold inFunE at hr
  subst hop
  simp only [show ¬ ((5 : Int) = 1) by decide, show ¬ ((5 : Int) = 2) by decide, show ¬ ((5 : Int) = 3) by decide, show ¬ ((5 : Int) = 4) by decide, if_false, if_true] at hr
  obtain ⟨bE, hbE⟩ : ∃ bE, blocksE p f [b, tob, other] = bE := ⟨_, rfl⟩
  rw [hbE] at hr
  have HBE := Lib.hid hbE
  clear hbE
  obtain ⟨r1, hr1⟩ : ∃ r1, edgeB p f b tob = r1 := ⟨_, rfl⟩
  rw [hr1] at hr
  have HHE := Lib.hid (fun wr (h : Rd wr p) => hasEdge_any p f b tob wr h hfew r1 hr1)
  clear hr1
  subst heq
  rw [decide_eq_true rfl, Bool.true_or] at hr
  have HCB := Lib.hid (fun wr (h : Rd wr p) a l cap (hI : Is wr.heap.size wr a l) L hL hl bE hbE => checkBlocks_any p f a l cap wr h hfew hI L hL hl bE hbE)
  have HRD0 := Lib.hid h
  clear h hfew
  obtain ⟨id, kind, dst, a, b2, c, f2, n, x0, x1, x2⟩ := i
  unfold Pg.val at HHE HCB
  unfold Pg.val Ed.val
  dsimp only at *
  obtain ⟨PL, hPL⟩ : ∃ PL, p.funs.length = PL := ⟨_, rfl⟩
  simp only [hPL] at HHE HCB ⊢
  clear hPL
  have HR := Lib.hid hr
  clear hr
  have HBb := Lib.hid (below2 w (.cells #[.slice p.pa PL p.pc] 24) (.cells #[.int .i64 5, .int .i64 f, .int .i64 b, .int .i64 tob, .int .i64 tob, .int .i64 pos, .int .i64 id, .int .i64 kind, .int .i64 dst, .int .i64 a, .int .i64 b2, .int .i64 c, .int .i64 f2, .int .i64 n, .int .i64 x0, .int .i64 x1, .int .i64 x2] 55))
  have hx0 := BoxL.new w [.slice p.pa PL p.pc] 24
  have HX0 := Lib.hid (show BoxL ((w.alloc (.cells #[.slice p.pa PL p.pc] 24)).alloc (.cells #[.int .i64 5, .int .i64 f, .int .i64 b, .int .i64 tob, .int .i64 tob, .int .i64 pos, .int .i64 id, .int .i64 kind, .int .i64 dst, .int .i64 a, .int .i64 b2, .int .i64 c, .int .i64 f2, .int .i64 n, .int .i64 x0, .int .i64 x1, .int .i64 x2] 55)) (w.heap.size) [.slice p.pa PL p.pc] from (hx0).alloc (Nat.zero_lt_succ _) (.cells #[.int .i64 5, .int .i64 f, .int .i64 b, .int .i64 tob, .int .i64 tob, .int .i64 pos, .int .i64 id, .int .i64 kind, .int .i64 dst, .int .i64 a, .int .i64 b2, .int .i64 c, .int .i64 f2, .int .i64 n, .int .i64 x0, .int .i64 x1, .int .i64 x2] 55))
  have hx1 := BoxL.new (w.alloc (.cells #[.slice p.pa PL p.pc] 24)) [.int .i64 5, .int .i64 f, .int .i64 b, .int .i64 tob, .int .i64 tob, .int .i64 pos, .int .i64 id, .int .i64 kind, .int .i64 dst, .int .i64 a, .int .i64 b2, .int .i64 c, .int .i64 f2, .int .i64 n, .int .i64 x0, .int .i64 x1, .int .i64 x2] 55
  rw [World.size_alloc] at hx1
  have HX1 := Lib.hid (show BoxL ((w.alloc (.cells #[.slice p.pa PL p.pc] 24)).alloc (.cells #[.int .i64 5, .int .i64 f, .int .i64 b, .int .i64 tob, .int .i64 tob, .int .i64 pos, .int .i64 id, .int .i64 kind, .int .i64 dst, .int .i64 a, .int .i64 b2, .int .i64 c, .int .i64 f2, .int .i64 n, .int .i64 x0, .int .i64 x1, .int .i64 x2] 55)) (w.heap.size + 1) [.int .i64 5, .int .i64 f, .int .i64 b, .int .i64 tob, .int .i64 tob, .int .i64 pos, .int .i64 id, .int .i64 kind, .int .i64 dst, .int .i64 a, .int .i64 b2, .int .i64 c, .int .i64 f2, .int .i64 n, .int .i64 x0, .int .i64 x1, .int .i64 x2] from hx1)
  clear hx0 hx1
  have HRW := Lib.hid (HRD0.out.on HBb.out)
  generalize hW : ((w.alloc (.cells #[.slice p.pa PL p.pc] 24)).alloc (.cells #[.int .i64 5, .int .i64 f, .int .i64 b, .int .i64 tob, .int .i64 tob, .int .i64 pos, .int .i64 id, .int .i64 kind, .int .i64 dst, .int .i64 a, .int .i64 b2, .int .i64 c, .int .i64 f2, .int .i64 n, .int .i64 x0, .int .i64 x1, .int .i64 x2] 55)) = W at HBb HX0 HX1 HRW
  obtain ⟨g, hg⟩ : ∃ g, w.heap.size = g := ⟨_, rfl⟩
  have HGL := Lib.hid HBb.out.size
  rw [hg] at HBb HGL HX0 HX1 ⊢
  have HL0 := Lib.hid (HX0.out.lt (Nat.zero_lt_succ _))
  have HL1 := Lib.hid (HX1.out.lt (Nat.zero_lt_succ _))
  have HC : Hid (∀ wr, Below W.heap.size W wr → wr.cell? ⟨g, 0, none⟩ = some (.slice p.pa PL p.pc) ∧ wr.cell? ⟨g + 1, 0, none⟩ = some (.int .i64 5) ∧ wr.cell? ⟨g + 1, 1, none⟩ = some (.int .i64 f) ∧ wr.cell? ⟨g + 1, 2, none⟩ = some (.int .i64 b) ∧ wr.cell? ⟨g + 1, 3, none⟩ = some (.int .i64 tob) ∧ wr.cell? ⟨g + 1, 4, none⟩ = some (.int .i64 tob) ∧ wr.cell? ⟨g + 1, 5, none⟩ = some (.int .i64 pos) ∧ wr.cell? ⟨g + 1, 6, none⟩ = some (.int .i64 id) ∧ wr.cell? ⟨g + 1, 7, none⟩ = some (.int .i64 kind) ∧ wr.cell? ⟨g + 1, 8, none⟩ = some (.int .i64 dst) ∧ wr.cell? ⟨g + 1, 9, none⟩ = some (.int .i64 a) ∧ wr.cell? ⟨g + 1, 10, none⟩ = some (.int .i64 b2) ∧ wr.cell? ⟨g + 1, 11, none⟩ = some (.int .i64 c) ∧ wr.cell? ⟨g + 1, 12, none⟩ = some (.int .i64 f2) ∧ wr.cell? ⟨g + 1, 13, none⟩ = some (.int .i64 n) ∧ wr.cell? ⟨g + 1, 14, none⟩ = some (.int .i64 x0) ∧ wr.cell? ⟨g + 1, 15, none⟩ = some (.int .i64 x1) ∧ wr.cell? ⟨g + 1, 16, none⟩ = some (.int .i64 x2)) := Lib.hid fun wr hb => ⟨((HX0.out.below hb HL0.out) 0 _ rfl).1, ((HX1.out.below hb HL1.out) 0 _ rfl).1, ((HX1.out.below hb HL1.out) 1 _ rfl).1, ((HX1.out.below hb HL1.out) 2 _ rfl).1, ((HX1.out.below hb HL1.out) 3 _ rfl).1, ((HX1.out.below hb HL1.out) 4 _ rfl).1, ((HX1.out.below hb HL1.out) 5 _ rfl).1, ((HX1.out.below hb HL1.out) 6 _ rfl).1, ((HX1.out.below hb HL1.out) 7 _ rfl).1, ((HX1.out.below hb HL1.out) 8 _ rfl).1, ((HX1.out.below hb HL1.out) 9 _ rfl).1, ((HX1.out.below hb HL1.out) 10 _ rfl).1, ((HX1.out.below hb HL1.out) 11 _ rfl).1, ((HX1.out.below hb HL1.out) 12 _ rfl).1, ((HX1.out.below hb HL1.out) 13 _ rfl).1, ((HX1.out.below hb HL1.out) 14 _ rfl).1, ((HX1.out.below hb HL1.out) 15 _ rfl).1, ((HX1.out.below hb HL1.out) 16 _ rfl).1⟩
  have HBN : Hid (Below W.heap.size W W) := Lib.hid (Below.refl _ _)
  obtain ⟨k0, k1, k2, k3, k4, k5, k6, k7, k8, k9, k10, k11, k12, k13, k14, k15, k16, k17⟩ := HC.out _ HBN.out
  go_enter Tryz.func109, Tryz.ntmps109
  go_wp2_with fail
  clear k0 k1 k2 k3 k4 k5 k6 k7 k8 k9 k10 k11 k12 k13 k14 k15 k16 k17
  have HS : Hid (∀ w', Below W.heap.size W w' → w'.cell? ⟨g, 0, none⟩ = some (.slice p.pa PL p.pc) ∧ w'.cell? ⟨g + 1, 1, none⟩ = some (.int .i64 f) ∧ w'.cell? ⟨g + 1, 2, none⟩ = some (.int .i64 b) ∧ w'.cell? ⟨g + 1, 3, none⟩ = some (.int .i64 tob) ∧ w'.cell? ⟨g + 1, 4, none⟩ = some (.int .i64 tob)) := Lib.hid fun w' hb => ⟨((HX0.out.below hb HL0.out) 0 _ rfl).1, ((HX1.out.below hb HL1.out) 1 _ rfl).1, ((HX1.out.below hb HL1.out) 2 _ rfl).1, ((HX1.out.below hb HL1.out) 3 _ rfl).1, ((HX1.out.below hb HL1.out) 4 _ rfl).1⟩
  have HBA : ∀ o, Below W.heap.size W ((W.alloc o).drew) := fun o => (below1 W o).drew
  have HBN : Hid (Below W.heap.size W W.drew) := Lib.hid (Below.refl _ _).drew
  refine wp_region_late (fun w' => w'.cell? ⟨g, 0, none⟩ = some (.slice p.pa PL p.pc) ∧ w'.cell? ⟨g + 1, 1, none⟩ = some (.int .i64 f) ∧ w'.cell? ⟨g + 1, 2, none⟩ = some (.int .i64 b) ∧ w'.cell? ⟨g + 1, 3, none⟩ = some (.int .i64 tob) ∧ w'.cell? ⟨g + 1, 4, none⟩ = some (.int .i64 tob)) 40 (by kernel_rfl) (HS.out _ HBN.out) (fun hHeld => ?_)
  refine wpAnyE_take (i := 0) (v := ?v0) rfl (by kernel_rfl) (fun _ _ _ h => h) hHeld (by rfl) ?y0 ?_
  case y0 => (intro w' hSw; (try dsimp only at hSw); go_simp <;> with_reducible rfl)
  unfold Act.put
  refine wpAnyE_take (i := 1) (v := ?v1) rfl (by kernel_rfl) (fun _ _ _ h => h) hHeld (by rfl) ?y1 ?_
  case y1 => (intro w' hSw; (try dsimp only at hSw); go_simp <;> with_reducible rfl)
  unfold Act.put
  refine wpAnyE_take (i := 2) (v := ?v2) rfl (by kernel_rfl) (fun _ _ _ h => h) hHeld (by rfl) ?y2 ?_
  case y2 => (intro w' hSw; (try dsimp only at hSw); go_simp <;> with_reducible rfl)
  unfold Act.put
  refine wpAnyE_take (i := 3) (v := ?v3) rfl (by kernel_rfl) (fun _ _ _ h => h) hHeld (by rfl) ?y3 ?_
  case y3 => (intro w' hSw; (try dsimp only at hSw); go_simp <;> with_reducible rfl)
  unfold Act.put
  refine wpAnyE_take (i := 4) (v := ?v4) rfl (by kernel_rfl) (fun _ _ _ h => h) hHeld (by rfl) ?y4 ?_
  case y4 => (intro w' hSw; (try dsimp only at hSw); go_simp <;> with_reducible rfl)
  unfold Act.put
  refine wpAnyE_take (i := 5) (v := ?v5) rfl (by kernel_rfl) (fun _ _ _ h => h) hHeld (by rfl) ?y5 ?_
  case y5 => (intro w' hSw; (try dsimp only at hSw); go_simp <;> with_reducible rfl)
  unfold Act.put
  refine wpAnyE_take (i := 6) (v := ?v6) rfl (by kernel_rfl) (fun _ _ _ h => h) hHeld (by rfl) ?y6 ?_
  case y6 => (intro w' hSw; (try dsimp only at hSw); go_simp <;> with_reducible rfl)
  unfold Act.put
  refine wpAnyE_take (i := 7) (v := ?v7) rfl (by kernel_rfl) (fun _ _ _ h => h) hHeld (by rfl) ?y7 ?_
  case y7 => (intro w' hSw; (try dsimp only at hSw); go_simp <;> with_reducible rfl)
  unfold Act.put
  refine wpAnyE_take (i := 8) (v := ?v8) rfl (by kernel_rfl) (fun _ _ _ h => h) hHeld (by rfl) ?y8 ?_
  case y8 => (intro w' hSw; (try dsimp only at hSw); go_simp <;> with_reducible rfl)
  unfold Act.put
  refine wpAnyE_take (i := 11) (v := ?v11) rfl (by kernel_rfl) (fun _ _ _ h => h) hHeld (by rfl) ?y11 ?_
  case y11 => (intro w' hSw; (try dsimp only at hSw); go_simp <;> with_reducible rfl)
  unfold Act.put
  refine wpAnyE_take (i := 12) (v := ?v12) rfl (by kernel_rfl) (fun _ _ _ h => h) hHeld (by rfl) ?y12 ?_
  case y12 => (intro w' hSw; (try dsimp only at hSw); go_simp <;> with_reducible rfl)
  unfold Act.put
  refine wpAnyE_take (i := 13) (v := ?v13) rfl (by kernel_rfl) (fun _ _ _ h => h) hHeld (by rfl) ?y13 ?_
  case y13 => (intro w' hSw; (try dsimp only at hSw); go_simp <;> with_reducible rfl)
  unfold Act.put
  refine wpAnyE_take (i := 14) (v := ?v14) rfl (by kernel_rfl) (fun _ _ _ h => h) hHeld (by rfl) ?y14 ?_
  case y14 => (intro w' hSw; (try dsimp only at hSw); go_simp <;> with_reducible rfl)
  unfold Act.put
  refine wpAnyE_take (i := 15) (v := ?v15) rfl (by kernel_rfl) (fun _ _ _ h => h) hHeld (by rfl) ?y15 ?_
  case y15 => (intro w' hSw; (try dsimp only at hSw); go_simp <;> with_reducible rfl)
  unfold Act.put
  refine wpAnyE_take (i := 16) (v := ?v16) rfl (by kernel_rfl) (fun _ _ _ h => h) hHeld (by rfl) ?y16 ?_
  case y16 => (intro w' hSw; (try dsimp only at hSw); go_simp <;> with_reducible rfl)
  unfold Act.put
  refine wpAnyE_take (i := 17) (v := ?v17) rfl (by kernel_rfl) (fun _ _ _ h => h) hHeld (by rfl) ?y17 ?_
  case y17 => (intro w' hSw; (try dsimp only at hSw); go_simp <;> with_reducible rfl)
  unfold Act.put
  refine wpAnyE_take (i := 20) (v := ?v20) rfl (by kernel_rfl) (fun _ _ _ h => h) hHeld (by rfl) ?y20 ?_
  case y20 => (intro w' hSw; (try dsimp only at hSw); go_simp <;> with_reducible rfl)
  unfold Act.put
  refine wpAnyE_take (i := 21) (v := ?v21) rfl (by kernel_rfl) (fun _ _ _ h => h) hHeld (by rfl) ?y21 ?_
  case y21 => (intro w' hSw; (try dsimp only at hSw); go_simp <;> with_reducible rfl)
  unfold Act.put
  refine wpAnyE_take (i := 22) (v := ?v22) rfl (by kernel_rfl) (fun _ _ _ h => h) hHeld (by rfl) ?y22 ?_
  case y22 => (intro w' hSw; (try dsimp only at hSw); go_simp <;> with_reducible rfl)
  unfold Act.put
  refine wpAnyE_take (i := 23) (v := ?v23) rfl (by kernel_rfl) (fun _ _ _ h => h) hHeld (by rfl) ?y23 ?_
  case y23 => (intro w' hSw; (try dsimp only at hSw); go_simp <;> with_reducible rfl)
  unfold Act.put
  refine wpAnyE_take (i := 24) (v := ?v24) rfl (by kernel_rfl) (fun _ _ _ h => h) hHeld (by rfl) ?y24 ?_
  case y24 => (intro w' hSw; (try dsimp only at hSw); go_simp <;> with_reducible rfl)
  unfold Act.put
  refine wpAnyE_one (i := 9) (by kernel_rfl) rfl (fun K hK => ?_)
  go_simp
  refine hK.out _ _ ?_ (fun hHeld => ?_)
  · exact HS.out _ (HBA _)
  clear hK K
  refine wpAnyE_one (i := 10) (by kernel_rfl) rfl (fun K hK => ?_)
  go_simp
  go_at_call 146
  refine (HCB.out _ (HRW.out.on (HBA _)) _ [b, tob, tob] _ (by first | exact is_new_d _ [b, tob, tob] _ | exact is_new_s _ [b, tob, tob] _) 3 rfl (by decide) bE HBE.out).mono ?_
  rintro e wn ⟨rfl, hbn⟩
  have hbx := (HBA _).trans (hbn.mono (HBA _).size)
  clear HBN hbn
  have HBN := Lib.hid hbx
  clear hbx
  refine hK.out _ _ ?_ (fun hHeld => ?_)
  · exact HS.out _ HBN.out
  clear hK K
  refine wpAnyE_one (i := 18) (by kernel_rfl) rfl (fun K hK => ?_)
  go_simp
  go_at_call 147
  refine (HHE.out _ (HRW.out.on HBN.out)).mono ?_
  rintro e wn ⟨rfl, hbn⟩
  have hbx := HBN.out.trans (hbn.mono HBN.out.size)
  clear HBN hbn
  have HBN := Lib.hid hbx
  clear hbx
  refine hK.out _ _ ?_ (fun hHeld => ?_)
  · exact HS.out _ HBN.out
  clear hK K
  refine wpAnyE_one (i := 19) (by kernel_rfl) rfl (fun K hK => ?_)
  go_simp
  go_at_call 75
  refine (unless_any _ _ _).mono ?_
  rintro e wn ⟨rfl, rfl⟩
  refine hK.out _ _ ?_ (fun hHeld => ?_)
  · exact HS.out _ HBN.out
  clear hK K
  refine wpAnyE_take (i := 25) (v := ?v25) rfl (by kernel_rfl) (fun _ _ _ h => h) hHeld (by rfl) ?y25 ?_
  case y25 => (intro w' hSw; (try dsimp only at hSw); go_simp <;> with_reducible rfl)
  unfold Act.put
  refine wpAnyE_skips (fun _ _ _ _ h => h) [(26, 105), (27, 106), (28, 107), (29, 108), (30, 109), (31, 110), (32, 111), (33, 112), (34, 113)] (fuel := 5) (by kernel_rfl) hHeld ?_
  simp only [List.foldl_cons, List.foldl_nil]
  unfold Act.put
  refine wpAnyE_take (i := 35) (v := ?v35) rfl (by kernel_rfl) (fun _ _ _ h => h) hHeld (by rfl) ?y35 ?_
  case y35 => (intro w' hSw; (try dsimp only at hSw); go_simp <;> with_reducible rfl)
  unfold Act.put
  refine wpAnyE_one (i := 36) (by kernel_rfl) rfl (fun K hK => ?_)
  go_simp
  go_at_call 75
  refine (unless_any _ _ _).mono ?_
  rintro e wn ⟨rfl, rfl⟩
  refine hK.out _ _ ?_ (fun hHeld => ?_)
  · exact HS.out _ HBN.out
  clear hK K
  refine wpAnyE_one (i := 37) (by kernel_rfl) rfl (fun K hK => ?_)
  go_simp
  refine hK.out _ _ ?_ (fun hHeld => ?_)
  · exact HS.out _ (HBN.out.alloc HBN.out.size _)
  clear hK K
  refine wpAnyE_one (i := 38) (by kernel_rfl) rfl (fun K hK => ?_)
  go_simp
  go_at_call 74
  refine (first_any [bE, unl r1 5, unl true 5] _ 0 3 3 _ rfl (by decide) (by first | exact new_errs _ [bE, unl r1 5, unl true 5] _ 3 rfl | exact new_errs_d _ [bE, unl r1 5, unl true 5] _ 3 rfl) r HR.out).mono ?_
  rintro e wn ⟨rfl, rfl⟩
  refine hK.out _ _ ?_ (fun hHeld => ?_)
  · exact HS.out _ (HBN.out.alloc HBN.out.size _)
  clear hK K
  refine wpAnyE_take (i := 39) (v := ?v39) rfl (by kernel_rfl) (fun _ _ _ h => h) hHeld (by rfl) ?y39 ?_
  case y39 => (intro w' hSw; (try dsimp only at hSw); go_simp <;> with_reducible rfl)
  refine wpAnyE_tail 40 (by decide) rfl (by kernel_rfl) ?_
  simp only [List.drop_succ_cons, List.drop_zero]
  go_wp2_with fail
  go_ret
  exact ⟨rfl, (HBb.out.trans (HBN.out.mono HGL.out)).alloc (Nat.le_trans HGL.out HBN.out.size) _⟩

end Go.Proofs.YtbddjneinfkmpaaGreatDoor
