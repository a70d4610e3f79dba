/- What the laid variables give a walk; a world for the witness. -/
import Derived.LaidHandle
import Derived.LaidLaws
import Derived.Test.YtbddjneinfkmpaaGreatDoorROpenP
import Derived.Test.YtbddjneinfkmpaaGreatDoorPgO
namespace Go.Proofs.YtbddjneinfkmpaaGreatDoor
open Go.ChangeShapes Go.WideShapes Go.ChangeAt Go.RowKit Go.Joins

theorem gErr : Tryz.prog.globalNamed "errors.errorType" = some 1 := by kernel_rfl
theorem rtNum : (Tryz.prog.cutTypes.find? (·.1 == "internal/reflectlite.rtype")).map (·.2) = some 144 := by kernel_rfl
theorem oneRow : ((List.range 227).filter fun t => Tryz.prog.rowNamed t [101, 114, 114, 111, 114]) = [82] := by kernel_rfl
theorem handleErr : typeHandle Tryz.prog 82 = .pointer (some ⟨3, 82, none⟩) := by kernel_rfl

theorem tabs_of_laid {W : World} (h : laidMetH Tryz.prog [("errors.errorType", Rows.laid_errors_errorType), ("bywash/instr.kinds", Rows.laid_bywash_instr_kinds)] W) : KTab W ∧ ETab W := by
  have h' : laidMet Tryz.prog [("bywash/instr.kinds", Rows.laid_bywash_instr_kinds)] W ∧ handlesMet Tryz.prog [("errors.errorType", Rows.laid_errors_errorType)] W := h
  refine ⟨?_, ?_⟩
  · obtain ⟨ps, ⟨g, t, cs, fuel, p, q, hg, ht, hvar, hd, -, -⟩, -⟩ := h'.1
    obtain rfl := Option.some.inj (gKinds.symm.trans hg)
    obtain rfl := Option.some.inj (gKindsType.symm.trans ht)
    exact ktab_of_cells (World.var?_cell gKinds hvar) hd
  · obtain ⟨name, u, ty, e1, e2, e3, e4, e5⟩ := h'.2 _ (List.mem_singleton.2 rfl)
    have en : name = [101, 114, 114, 111, 114] := (Option.some.inj e1).symm
    subst en
    obtain rfl := Option.some.inj (rtNum.symm.trans e2)
    have hm : ty ∈ (List.range 227).filter fun t => Tryz.prog.rowNamed t [101, 114, 114, 111, 114] := List.mem_filter.2 ⟨List.mem_range.2 (by rw [← fx.types]; exact e3), e4⟩
    rw [oneRow] at hm
    obtain rfl := List.mem_singleton.1 hm
    rw [handleErr] at e5
    unfold ETab
    simpa using World.var?_cell gErr e5 0

/-- A world for the witness: the settled one, the two variables holding what their initialisers lay. -/
noncomputable def laidWorldP (os : Os) : World :=
  { World.holding Tryz.prog os ⟨#[], #[], []⟩ with heap := ((World.holding Tryz.prog os ⟨#[], #[], []⟩).heap.modify 2 (fillV kAll)).modify 1 (fillV [.iface 144 (.agg #[.pointer (some ⟨3, 82, none⟩)])]) }
end Go.Proofs.YtbddjneinfkmpaaGreatDoor
