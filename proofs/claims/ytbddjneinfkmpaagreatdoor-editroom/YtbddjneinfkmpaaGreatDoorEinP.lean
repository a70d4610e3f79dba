/- EditInsert: the pure side, and the ways that end early. -/
import Derived.Test.YtbddjneinfkmpaaGreatDoorEdE2
import Derived.Test.YtbddjneinfkmpaaGreatDoorEdN
import Derived.Test.YtbddjneinfkmpaaGreatDoorVarY
namespace Go.Proofs.YtbddjneinfkmpaaGreatDoor
open Go Go.RowKit Go.Sort

noncomputable def insG0 (p : Pg) (f b pos : Int) (i : Ins) : Bool :=
  funB p f && blkB p f b && decide (0 ≤ pos) && decide (pos ≤ ((blkR p f b).code.length : Int)) && decide (i.id = 0) && decide i.form && decide (((blkR p f b).code.length : Int) < 16) && idB p
noncomputable def insG1 (p : Pg) (f b pos : Int) (i : Ins) : Bool := insG0 p f b pos i && decide (∀ v ∈ i.vars, v < (funR p f).vr)
noncomputable def insG2 (p : Pg) (f b pos : Int) (i : Ins) : Bool := insG1 p f b pos i && (if i.kind = 7 then funB p i.f && decide ((funR p i.f).ar = i.n) else true)
theorem blk_fun' {p : Pg} {f b : Int} (h : blkB p f b = true) : funB p f = true := by
  by_cases hf : funB p f = true
  · exact hf
  · rw [blkB_none (by simpa using hf)] at h; cases h
theorem chk_insert {p : Pg} (hs : p.sane) (f b pos : Int) (i : Ins) : decide (chk p ⟨6, f, b, 0, 0, pos, i⟩ = 0) = insG2 p f b pos i := by
  rw [Bool.eq_iff_iff, decide_eq_true_eq]
  have hsb := (saneB_iff p).2 hs
  unfold chk
  rw [firstE_zero]
  simp only [List.mem_cons, List.not_mem_nil, or_false, forall_eq_or_imp, forall_eq]
  have h2 : isOpB 6 = true := rfl
  unfold opE
  rw [if_neg (by simp), firstE_zero]
  simp only [List.mem_cons, List.not_mem_nil, or_false, forall_eq_or_imp, forall_eq]
  have h3 : inFunE p ⟨6, f, b, 0, 0, pos, i⟩ = insertE p f b pos i := by
    unfold inFunE
    rw [if_neg (by simp), if_neg (by simp), if_neg (by simp), if_neg (by simp), if_neg (by simp), if_pos rfl]
  rw [h3]
  unfold insertE
  rw [firstE_zero]
  simp only [List.mem_cons, List.not_mem_nil, or_false, forall_eq_or_imp, forall_eq]
  simp only [unl_zero (show (1 : Int) ≠ 0 by decide), unl_zero (show (2 : Int) ≠ 0 by decide), unl_zero (show (3 : Int) ≠ 0 by decide), unl_zero (show (9 : Int) ≠ 0 by decide), unl_zero (show (8 : Int) ≠ 0 by decide), unl_zero (show (11 : Int) ≠ 0 by decide)]
  have h4 : varsE (funR p f) i = 0 ↔ ∀ v ∈ i.vars, v < (funR p f).vr := by
    unfold varsE
    by_cases h : ∀ v ∈ i.vars, v < (funR p f).vr
    · rw [if_pos h]; exact ⟨fun _ => h, fun _ => rfl⟩
    · rw [if_neg h]; exact ⟨fun h2 => (by cases h2), fun h2 => absurd h2 h⟩
  have h5 : callE p i = 0 ↔ (if i.kind = 7 then funB p i.f && decide ((funR p i.f).ar = i.n) else true) = true := by
    unfold callE
    by_cases hk : i.kind = 7
    · rw [if_pos hk, if_pos hk, firstE_zero]
      simp only [List.mem_cons, List.not_mem_nil, or_false, forall_eq_or_imp, forall_eq]
      rw [unl_zero (show (1 : Int) ≠ 0 by decide), unl_zero (show (7 : Int) ≠ 0 by decide), Bool.and_eq_true]
    · rw [if_neg hk, if_neg hk]; simp
  rw [h4, h5]
  unfold insG2 insG1 insG0 inB
  simp only [Bool.and_eq_true, decide_eq_true_eq]
  constructor
  · rintro ⟨-, -, a0, a1, a2, a3, a4, a5, a6, a7⟩
    exact ⟨⟨⟨⟨⟨⟨⟨⟨⟨a0, a1⟩, a2.1⟩, a2.2⟩, a3.1⟩, a3.2⟩, a6⟩, a7⟩, a4⟩, a5⟩
  · rintro ⟨⟨⟨⟨⟨⟨⟨⟨⟨a0, a1⟩, a2⟩, a2'⟩, a3⟩, a3'⟩, a6⟩, a7⟩, a4⟩, a5⟩
    exact ⟨hsb, h2, a0, a1, ⟨a2, a2'⟩, ⟨a3, a3'⟩, a4, a5, a6, a7⟩





end Go.Proofs.YtbddjneinfkmpaaGreatDoor
