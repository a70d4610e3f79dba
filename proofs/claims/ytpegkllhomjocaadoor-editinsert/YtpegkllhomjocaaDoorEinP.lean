/- EditInsert: the pure side, and the ways that end early. -/
import Derived.Test.YtpegkllhomjocaaDoorEdE2
import Derived.Test.YtpegkllhomjocaaDoorEdN
import Derived.Test.YtpegkllhomjocaaDoorVarY
namespace Go.Proofs.YtpegkllhomjocaaDoor
open Go Go.RowKit Go.Sort

noncomputable def insG0 (p : Pg) (f b pos : Int) (i : Ins) : Bool :=
  funB p f && blkB p f b && decide (0 ≤ pos) && decide (pos ≤ ((blkR p f b).code.length : Int)) && decide (i.id = 0) && decide i.form && decide (((blkR p f b).code.length : Int) < 16) && idB p
noncomputable def insG1 (p : Pg) (f b pos : Int) (i : Ins) : Bool := insG0 p f b pos i && decide (∀ v ∈ i.vars, v < (funR p f).vr)
noncomputable def insG2 (p : Pg) (f b pos : Int) (i : Ins) : Bool := insG1 p f b pos i && (if i.kind = 7 then funB p i.f && decide ((funR p i.f).ar = i.n) else true)
theorem blk_fun' {p : Pg} {f b : Int} (h : blkB p f b = true) : funB p f = true := by
  by_cases hf : funB p f = true
  · exact hf
  · rw [blkB_none (by simpa using hf)] at h; cases h
theorem chk_insert {p : Pg} (hs : p.sane) (f b pos : Int) (i : Ins) : decide (chk p ⟨6, f, b, 0, 0, pos, i⟩ = 0) = insG2 p f b pos i := by
  rw [Bool.eq_iff_iff, decide_eq_true_eq]
  have hsb := (saneB_iff p).2 hs
  unfold chk
  rw [firstE_zero]
  simp only [List.mem_cons, List.not_mem_nil, or_false, forall_eq_or_imp, forall_eq]
  have h2 : isOpB 6 = true := rfl
  unfold opE
  rw [if_neg (by simp), firstE_zero]
  simp only [List.mem_cons, List.not_mem_nil, or_false, forall_eq_or_imp, forall_eq]
  have h3 : inFunE p ⟨6, f, b, 0, 0, pos, i⟩ = insertE p f b pos i := by
    unfold inFunE
    rw [if_neg (by simp), if_neg (by simp), if_neg (by simp), if_neg (by simp), if_neg (by simp), if_pos rfl]
  rw [h3]
  unfold insertE
  rw [firstE_zero]
  simp only [List.mem_cons, List.not_mem_nil, or_false, forall_eq_or_imp, forall_eq]
  simp only [unl_zero (show (1 : Int) ≠ 0 by decide), unl_zero (show (2 : Int) ≠ 0 by decide), unl_zero (show (3 : Int) ≠ 0 by decide), unl_zero (show (9 : Int) ≠ 0 by decide), unl_zero (show (8 : Int) ≠ 0 by decide), unl_zero (show (11 : Int) ≠ 0 by decide)]
  have h4 : varsE (funR p f) i = 0 ↔ ∀ v ∈ i.vars, v < (funR p f).vr := by
    unfold varsE
    by_cases h : ∀ v ∈ i.vars, v < (funR p f).vr
    · rw [if_pos h]; exact ⟨fun _ => h, fun _ => rfl⟩
    · rw [if_neg h]; exact ⟨fun h2 => (by cases h2), fun h2 => absurd h2 h⟩
  have h5 : callE p i = 0 ↔ (if i.kind = 7 then funB p i.f && decide ((funR p i.f).ar = i.n) else true) = true := by
    unfold callE
    by_cases hk : i.kind = 7
    · rw [if_pos hk, if_pos hk, firstE_zero]
      simp only [List.mem_cons, List.not_mem_nil, or_false, forall_eq_or_imp, forall_eq]
      rw [unl_zero (show (1 : Int) ≠ 0 by decide), unl_zero (show (7 : Int) ≠ 0 by decide), Bool.and_eq_true]
    · rw [if_neg hk, if_neg hk]; simp
  rw [h4, h5]
  unfold insG2 insG1 insG0 inB
  simp only [Bool.and_eq_true, decide_eq_true_eq]
  constructor
  · rintro ⟨-, -, a0, a1, a2, a3, a4, a5, a6, a7⟩
    exact ⟨⟨⟨⟨⟨⟨⟨⟨⟨a0, a1⟩, a2.1⟩, a2.2⟩, a3.1⟩, a3.2⟩, a6⟩, a7⟩, a4⟩, a5⟩
  · rintro ⟨⟨⟨⟨⟨⟨⟨⟨⟨a0, a1⟩, a2⟩, a2'⟩, a3⟩, a3'⟩, a6⟩, a7⟩, a4⟩, a5⟩
    exact ⟨hsb, h2, a0, a1, ⟨a2, a2'⟩, ⟨a3, a3'⟩, a4, a5, a6, a7⟩

set_option maxRecDepth 100000 in
set_option maxHeartbeats 16000000 in
theorem insertN (p : Pg) (f b pos : Int) (i : Ins) (w : World) (h : Rd w p) (hN : NTab w) (hfew : ¬ p.few) :
    Calls Tryd.prog 4 #[p.val, .int .i64 f, .int .i64 b, .int .i64 pos, i.val] w fun x w' => x = .returned (.bool true) ∧ Below w.heap.size w w' := by
  have HAW := Lib.hid (fun wr (h : Rd wr p) (hN : NTab wr) => awake7_any wr h.2.1 h.2.2 hN)
  have HFE := Lib.hid (fun wr (h : Rd wr p) => Few_any p wr h.1 false (by simp [hfew]))
  have HRD0 := Lib.hid h
  have HN0 := Lib.hid hN
  clear h hN hfew
  obtain ⟨id, kind, dst, a, b2, c, f2, n, x0, x1, x2⟩ := i
  unfold Pg.val at HFE
  unfold Pg.val Ins.val
  dsimp only at *
  obtain ⟨PL, hPL⟩ : ∃ PL, p.funs.length = PL := ⟨_, rfl⟩
  simp only [hPL] at HFE ⊢
  clear hPL
  have HBb := Lib.hid (below2 w (.cells #[.slice p.pa PL p.pc] 24) (.cells #[.int .i64 id, .int .i64 kind, .int .i64 dst, .int .i64 a, .int .i64 b2, .int .i64 c, .int .i64 f2, .int .i64 n, .int .i64 x0, .int .i64 x1, .int .i64 x2] 27))
  have hx0 := BoxL.new w [.slice p.pa PL p.pc] 24
  have HX0 := Lib.hid (show BoxL ((w.alloc (.cells #[.slice p.pa PL p.pc] 24)).alloc (.cells #[.int .i64 id, .int .i64 kind, .int .i64 dst, .int .i64 a, .int .i64 b2, .int .i64 c, .int .i64 f2, .int .i64 n, .int .i64 x0, .int .i64 x1, .int .i64 x2] 27)) (w.heap.size) [.slice p.pa PL p.pc] from (hx0).alloc (Nat.zero_lt_succ _) (.cells #[.int .i64 id, .int .i64 kind, .int .i64 dst, .int .i64 a, .int .i64 b2, .int .i64 c, .int .i64 f2, .int .i64 n, .int .i64 x0, .int .i64 x1, .int .i64 x2] 27))
  have hx1 := BoxL.new (w.alloc (.cells #[.slice p.pa PL p.pc] 24)) [.int .i64 id, .int .i64 kind, .int .i64 dst, .int .i64 a, .int .i64 b2, .int .i64 c, .int .i64 f2, .int .i64 n, .int .i64 x0, .int .i64 x1, .int .i64 x2] 27
  rw [World.size_alloc] at hx1
  have HX1 := Lib.hid (show BoxL ((w.alloc (.cells #[.slice p.pa PL p.pc] 24)).alloc (.cells #[.int .i64 id, .int .i64 kind, .int .i64 dst, .int .i64 a, .int .i64 b2, .int .i64 c, .int .i64 f2, .int .i64 n, .int .i64 x0, .int .i64 x1, .int .i64 x2] 27)) (w.heap.size + 1) [.int .i64 id, .int .i64 kind, .int .i64 dst, .int .i64 a, .int .i64 b2, .int .i64 c, .int .i64 f2, .int .i64 n, .int .i64 x0, .int .i64 x1, .int .i64 x2] from hx1)
  clear hx0 hx1
  have HRW := Lib.hid (HRD0.out.on HBb.out)
  have HNW := Lib.hid (HN0.out.on HBb.out)
  generalize hW : ((w.alloc (.cells #[.slice p.pa PL p.pc] 24)).alloc (.cells #[.int .i64 id, .int .i64 kind, .int .i64 dst, .int .i64 a, .int .i64 b2, .int .i64 c, .int .i64 f2, .int .i64 n, .int .i64 x0, .int .i64 x1, .int .i64 x2] 27)) = W at HBb HX0 HX1 HRW HNW
  obtain ⟨g, hg⟩ : ∃ g, w.heap.size = g := ⟨_, rfl⟩
  have HGL := Lib.hid HBb.out.size
  rw [hg] at HBb HGL HX0 HX1 ⊢
  have HL0 := Lib.hid (HX0.out.lt (Nat.zero_lt_succ _))
  have HL1 := Lib.hid (HX1.out.lt (Nat.zero_lt_succ _))
  have HC : Hid (∀ wr, Below W.heap.size W wr → wr.cell? ⟨g, 0, none⟩ = some (.slice p.pa PL p.pc) ∧ wr.cell? ⟨g + 1, 0, none⟩ = some (.int .i64 id) ∧ wr.cell? ⟨g + 1, 1, none⟩ = some (.int .i64 kind) ∧ wr.cell? ⟨g + 1, 2, none⟩ = some (.int .i64 dst) ∧ wr.cell? ⟨g + 1, 3, none⟩ = some (.int .i64 a) ∧ wr.cell? ⟨g + 1, 4, none⟩ = some (.int .i64 b2) ∧ wr.cell? ⟨g + 1, 5, none⟩ = some (.int .i64 c) ∧ wr.cell? ⟨g + 1, 6, none⟩ = some (.int .i64 f2) ∧ wr.cell? ⟨g + 1, 7, none⟩ = some (.int .i64 n) ∧ wr.cell? ⟨g + 1, 8, none⟩ = some (.int .i64 x0) ∧ wr.cell? ⟨g + 1, 9, none⟩ = some (.int .i64 x1) ∧ wr.cell? ⟨g + 1, 10, none⟩ = some (.int .i64 x2)) := Lib.hid fun wr hb => ⟨((HX0.out.below hb HL0.out) 0 _ rfl).1, ((HX1.out.below hb HL1.out) 0 _ rfl).1, ((HX1.out.below hb HL1.out) 1 _ rfl).1, ((HX1.out.below hb HL1.out) 2 _ rfl).1, ((HX1.out.below hb HL1.out) 3 _ rfl).1, ((HX1.out.below hb HL1.out) 4 _ rfl).1, ((HX1.out.below hb HL1.out) 5 _ rfl).1, ((HX1.out.below hb HL1.out) 6 _ rfl).1, ((HX1.out.below hb HL1.out) 7 _ rfl).1, ((HX1.out.below hb HL1.out) 8 _ rfl).1, ((HX1.out.below hb HL1.out) 9 _ rfl).1, ((HX1.out.below hb HL1.out) 10 _ rfl).1⟩
  have HBN : Hid (Below W.heap.size W W) := Lib.hid (Below.refl _ _)
  obtain ⟨k0, k1, k2, k3, k4, k5, k6, k7, k8, k9, k10, k11⟩ := HC.out _ HBN.out
  go_enter Tryd.func4, Tryd.ntmps4
  go_wp2_with (first
    | (go_at_call 5; refine (HAW.out _ (HRW.out.on HBN.out) (HNW.out.on HBN.out)).mono ?_; rintro e wa ⟨rfl, hbn⟩; have hbx := HBN.out.trans (hbn.mono HBN.out.size); clear HBN hbn k0 k1 k2 k3 k4 k5 k6 k7 k8 k9 k10 k11; have HBN := Lib.hid hbx; clear hbx; obtain ⟨k0, k1, k2, k3, k4, k5, k6, k7, k8, k9, k10, k11⟩ := HC.out _ HBN.out)
    | (go_at_call 6; refine (HFE.out _ (HRW.out.on HBN.out)).mono ?_; rintro e wb ⟨rfl, hbn⟩; have hbx := HBN.out.trans (hbn.mono HBN.out.size); clear HBN hbn k0 k1 k2 k3 k4 k5 k6 k7 k8 k9 k10 k11; have HBN := Lib.hid hbx; clear hbx; obtain ⟨k0, k1, k2, k3, k4, k5, k6, k7, k8, k9, k10, k11⟩ := HC.out _ HBN.out))
  go_ret
  exact ⟨rfl, HBb.out.trans (HBN.out.mono HGL.out)⟩

set_option maxRecDepth 100000 in
set_option maxHeartbeats 16000000 in
theorem insertS (p : Pg) (f b pos : Int) (i : Ins) (w : World) (h : Rd w p) (hN : NTab w) (hfew : p.few) (hs : ¬ p.sane) :
    Calls Tryd.prog 4 #[p.val, .int .i64 f, .int .i64 b, .int .i64 pos, i.val] w fun x w' => x = .returned (.bool true) ∧ Below w.heap.size w w' := by
  have HAW := Lib.hid (fun wr (h : Rd wr p) (hN : NTab wr) => awake7_any wr h.2.1 h.2.2 hN)
  have HFE := Lib.hid (fun wr (h : Rd wr p) => Few_any p wr h.1 true (by simp [hfew]))
  have HSA := Lib.hid (fun wr (h : Rd wr p) => Sane_any p wr h.1 h.2.1 h.2.2 hfew false (by simp [hs]))
  have HRD0 := Lib.hid h
  have HN0 := Lib.hid hN
  clear h hN hfew hs
  obtain ⟨id, kind, dst, a, b2, c, f2, n, x0, x1, x2⟩ := i
  unfold Pg.val at HFE HSA
  unfold Pg.val Ins.val
  dsimp only at *
  obtain ⟨PL, hPL⟩ : ∃ PL, p.funs.length = PL := ⟨_, rfl⟩
  simp only [hPL] at HFE HSA ⊢
  clear hPL
  have HBb := Lib.hid (below2 w (.cells #[.slice p.pa PL p.pc] 24) (.cells #[.int .i64 id, .int .i64 kind, .int .i64 dst, .int .i64 a, .int .i64 b2, .int .i64 c, .int .i64 f2, .int .i64 n, .int .i64 x0, .int .i64 x1, .int .i64 x2] 27))
  have hx0 := BoxL.new w [.slice p.pa PL p.pc] 24
  have HX0 := Lib.hid (show BoxL ((w.alloc (.cells #[.slice p.pa PL p.pc] 24)).alloc (.cells #[.int .i64 id, .int .i64 kind, .int .i64 dst, .int .i64 a, .int .i64 b2, .int .i64 c, .int .i64 f2, .int .i64 n, .int .i64 x0, .int .i64 x1, .int .i64 x2] 27)) (w.heap.size) [.slice p.pa PL p.pc] from (hx0).alloc (Nat.zero_lt_succ _) (.cells #[.int .i64 id, .int .i64 kind, .int .i64 dst, .int .i64 a, .int .i64 b2, .int .i64 c, .int .i64 f2, .int .i64 n, .int .i64 x0, .int .i64 x1, .int .i64 x2] 27))
  have hx1 := BoxL.new (w.alloc (.cells #[.slice p.pa PL p.pc] 24)) [.int .i64 id, .int .i64 kind, .int .i64 dst, .int .i64 a, .int .i64 b2, .int .i64 c, .int .i64 f2, .int .i64 n, .int .i64 x0, .int .i64 x1, .int .i64 x2] 27
  rw [World.size_alloc] at hx1
  have HX1 := Lib.hid (show BoxL ((w.alloc (.cells #[.slice p.pa PL p.pc] 24)).alloc (.cells #[.int .i64 id, .int .i64 kind, .int .i64 dst, .int .i64 a, .int .i64 b2, .int .i64 c, .int .i64 f2, .int .i64 n, .int .i64 x0, .int .i64 x1, .int .i64 x2] 27)) (w.heap.size + 1) [.int .i64 id, .int .i64 kind, .int .i64 dst, .int .i64 a, .int .i64 b2, .int .i64 c, .int .i64 f2, .int .i64 n, .int .i64 x0, .int .i64 x1, .int .i64 x2] from hx1)
  clear hx0 hx1
  have HRW := Lib.hid (HRD0.out.on HBb.out)
  have HNW := Lib.hid (HN0.out.on HBb.out)
  generalize hW : ((w.alloc (.cells #[.slice p.pa PL p.pc] 24)).alloc (.cells #[.int .i64 id, .int .i64 kind, .int .i64 dst, .int .i64 a, .int .i64 b2, .int .i64 c, .int .i64 f2, .int .i64 n, .int .i64 x0, .int .i64 x1, .int .i64 x2] 27)) = W at HBb HX0 HX1 HRW HNW
  obtain ⟨g, hg⟩ : ∃ g, w.heap.size = g := ⟨_, rfl⟩
  have HGL := Lib.hid HBb.out.size
  rw [hg] at HBb HGL HX0 HX1 ⊢
  have HL0 := Lib.hid (HX0.out.lt (Nat.zero_lt_succ _))
  have HL1 := Lib.hid (HX1.out.lt (Nat.zero_lt_succ _))
  have HC : Hid (∀ wr, Below W.heap.size W wr → wr.cell? ⟨g, 0, none⟩ = some (.slice p.pa PL p.pc) ∧ wr.cell? ⟨g + 1, 0, none⟩ = some (.int .i64 id) ∧ wr.cell? ⟨g + 1, 1, none⟩ = some (.int .i64 kind) ∧ wr.cell? ⟨g + 1, 2, none⟩ = some (.int .i64 dst) ∧ wr.cell? ⟨g + 1, 3, none⟩ = some (.int .i64 a) ∧ wr.cell? ⟨g + 1, 4, none⟩ = some (.int .i64 b2) ∧ wr.cell? ⟨g + 1, 5, none⟩ = some (.int .i64 c) ∧ wr.cell? ⟨g + 1, 6, none⟩ = some (.int .i64 f2) ∧ wr.cell? ⟨g + 1, 7, none⟩ = some (.int .i64 n) ∧ wr.cell? ⟨g + 1, 8, none⟩ = some (.int .i64 x0) ∧ wr.cell? ⟨g + 1, 9, none⟩ = some (.int .i64 x1) ∧ wr.cell? ⟨g + 1, 10, none⟩ = some (.int .i64 x2)) := Lib.hid fun wr hb => ⟨((HX0.out.below hb HL0.out) 0 _ rfl).1, ((HX1.out.below hb HL1.out) 0 _ rfl).1, ((HX1.out.below hb HL1.out) 1 _ rfl).1, ((HX1.out.below hb HL1.out) 2 _ rfl).1, ((HX1.out.below hb HL1.out) 3 _ rfl).1, ((HX1.out.below hb HL1.out) 4 _ rfl).1, ((HX1.out.below hb HL1.out) 5 _ rfl).1, ((HX1.out.below hb HL1.out) 6 _ rfl).1, ((HX1.out.below hb HL1.out) 7 _ rfl).1, ((HX1.out.below hb HL1.out) 8 _ rfl).1, ((HX1.out.below hb HL1.out) 9 _ rfl).1, ((HX1.out.below hb HL1.out) 10 _ rfl).1⟩
  have HBN : Hid (Below W.heap.size W W) := Lib.hid (Below.refl _ _)
  obtain ⟨k0, k1, k2, k3, k4, k5, k6, k7, k8, k9, k10, k11⟩ := HC.out _ HBN.out
  go_enter Tryd.func4, Tryd.ntmps4
  go_wp2_with (first
    | (go_at_call 5; refine (HAW.out _ (HRW.out.on HBN.out) (HNW.out.on HBN.out)).mono ?_; rintro e wa ⟨rfl, hbn⟩; have hbx := HBN.out.trans (hbn.mono HBN.out.size); clear HBN hbn k0 k1 k2 k3 k4 k5 k6 k7 k8 k9 k10 k11; have HBN := Lib.hid hbx; clear hbx; obtain ⟨k0, k1, k2, k3, k4, k5, k6, k7, k8, k9, k10, k11⟩ := HC.out _ HBN.out)
    | (go_at_call 6; refine (HFE.out _ (HRW.out.on HBN.out)).mono ?_; rintro e wb ⟨rfl, hbn⟩; have hbx := HBN.out.trans (hbn.mono HBN.out.size); clear HBN hbn k0 k1 k2 k3 k4 k5 k6 k7 k8 k9 k10 k11; have HBN := Lib.hid hbx; clear hbx; obtain ⟨k0, k1, k2, k3, k4, k5, k6, k7, k8, k9, k10, k11⟩ := HC.out _ HBN.out)
    | (go_at_call 8; refine (HSA.out _ (HRW.out.on HBN.out)).mono ?_; rintro e wc ⟨rfl, hbn⟩; have hbx := HBN.out.trans (hbn.mono HBN.out.size); clear HBN hbn k0 k1 k2 k3 k4 k5 k6 k7 k8 k9 k10 k11; have HBN := Lib.hid hbx; clear hbx; obtain ⟨k0, k1, k2, k3, k4, k5, k6, k7, k8, k9, k10, k11⟩ := HC.out _ HBN.out))
  go_ret
  exact ⟨rfl, HBb.out.trans (HBN.out.mono HGL.out)⟩

end Go.Proofs.YtpegkllhomjocaaDoor
