/- What the laid variables of package edit's statements give a walk; a world for the witness; an edit that came in, opened. -/
import Derived.Test.YtbddjneinfkmpaaGreatDoorRBaseP
import Derived.Test.YtbddjneinfkmpaaGreatDoorEdL
import Derived.Test.YtbddjneinfkmpaaGreatDoorEdM
namespace Go.Proofs.YtbddjneinfkmpaaGreatDoor
open Go.ChangeShapes Go.WideShapes Go.ChangeAt Go.RowKit Go.Joins

theorem gNames : Tryz.prog.globalNamed "bywash/edit.names" = some 0 := by kernel_rfl
theorem gNamesType : (Tryz.prog.globals[0]?).map (·.type) = some 98 := by kernel_rfl
def nDat {H : Type} (k : Nat) : DataW H := .lit (.string (eNames.getD k []))
theorem names_dat {H : Type} : (Rows.laid_bywash_edit_names : DataW H) = .agg ((List.range 8).map nDat) := rfl

theorem ntab_of_cells {W : World} {cs : Array Value} {H : Type} {enc : TypeId × Value → H} {base : Nat} {sp : Nat → Bool} {held : Bool} {fuel : Nat} {p : List MemPlace}
    (hc : ∀ j, W.cell? ⟨0, j, none⟩ = cs[j]?) (hd : DataW.trod enc Tryz.prog W base sp held fuel 98 cs.toList = some (Rows.laid_bywash_edit_names, p)) : NTab W := by
  intro k hk
  rw [names_dat] at hd
  obtain ⟨xs, m, _, hx, hl, hxl, hi⟩ := DataW.trod_array Tryz.underlying98 hd
  have hxd := congrArg Prod.fst hx
  simp only [DataW.agg.injEq] at hxd
  have hik := hi k hk
  rw [cells9] at hik
  have hxk : k < xs.length := by rw [hxl]; exact hk
  rw [List.getElem?_eq_getElem hxk] at hik
  have hdk : (xs[k]).1 = nDat k := by
    have := congrArg (·[k]?) hxd
    simp [hxk, hk] at this
    exact this.symm
  obtain ⟨s, e0, z0, _⟩ := DataW.trod_string Tryz.underlying9 hik
  rw [hc, ← Array.getElem?_toList]
  have e1 : cs.toList[k]? = some (.string s) := by
    have h := congrArg (·[0]?) e0
    simp only [List.getElem?_cons_zero] at h
    rw [List.getElem?_take_of_lt (by decide), List.getElem?_drop] at h
    simpa using h
  rw [e1]
  have d0 := hdk
  rw [z0] at d0
  obtain ⟨⟨l⟩⟩ := s
  simp [nDat] at d0
  show some (Value.string ⟨⟨l⟩⟩) = some (.string ⟨(eNames.getD k []).toArray⟩)
  rw [List.getD_eq_getElem?_getD, ← d0]

theorem tabs7_of_laid {W : World} (h : laidMetH Tryz.prog [("errors.errorType", Rows.laid_errors_errorType), ("bywash/instr.kinds", Rows.laid_bywash_instr_kinds), ("bywash/edit.names", Rows.laid_bywash_edit_names)] W) : KTab W ∧ ETab W ∧ NTab W := by
  have h' : laidMet Tryz.prog [("bywash/instr.kinds", Rows.laid_bywash_instr_kinds), ("bywash/edit.names", Rows.laid_bywash_edit_names)] W ∧ handlesMet Tryz.prog [("errors.errorType", Rows.laid_errors_errorType)] W := h
  refine ⟨?_, ?_, ?_⟩
  · obtain ⟨ps, ⟨g, t, cs, fuel, p, q, hg, ht, hvar, hd, -, -⟩, -⟩ := h'.1
    obtain rfl := Option.some.inj (gKinds.symm.trans hg)
    obtain rfl := Option.some.inj (gKindsType.symm.trans ht)
    exact ktab_of_cells (World.var?_cell gKinds hvar) hd
  · obtain ⟨name, u, ty, e1, e2, e3, e4, e5⟩ := h'.2 _ (List.mem_singleton.2 rfl)
    have en : name = [101, 114, 114, 111, 114] := (Option.some.inj e1).symm
    subst en
    obtain rfl := Option.some.inj (rtNum.symm.trans e2)
    have hm : ty ∈ (List.range 227).filter fun t => Tryz.prog.rowNamed t [101, 114, 114, 111, 114] := List.mem_filter.2 ⟨List.mem_range.2 (by rw [← fx.types]; exact e3), e4⟩
    rw [oneRow] at hm
    obtain rfl := List.mem_singleton.1 hm
    rw [handleErr] at e5
    unfold ETab
    simpa using World.var?_cell gErr e5 0
  · obtain ⟨ps, ⟨g, t, cs, fuel, p, q, hg, ht, hvar, hd, ⟨g', t', cs', fuel', p', q', hg', ht', hvar', hd', -, -⟩, -⟩, -⟩ := h'.1
    obtain rfl := Option.some.inj (gNames.symm.trans hg')
    obtain rfl := Option.some.inj (gNamesType.symm.trans ht')
    exact ntab_of_cells (World.var?_cell gNames hvar') hd'

/-- A world for the witness: the settled one, the three variables holding what their initialisers lay. -/
noncomputable def laidWorldQ (os : Os) : World :=
  { World.holding Tryz.prog os ⟨#[], #[], []⟩ with heap := (((World.holding Tryz.prog os ⟨#[], #[], []⟩).heap.modify 2 (fillV kAll)).modify 0 (fillV ((List.range 8).map fun k => .string (eBytes k)))).modify 1 (fillV [.iface 144 (.agg #[.pointer (some ⟨3, 82, none⟩)])]) }

theorem cellsEdit : Tryz.prog.cellsOf 55 = 17 := by kernel_rfl
section
variable {H : Type} {enc : TypeId × Value → H} {W : World}
set_option maxRecDepth 100000 in
/-- An instruction that came in, opened. -/
theorem open_instr {base : Nat} {v : Value} {d : DataW H} {p : List MemPlace} (hv : Value.okWide Tryz.prog W .any base 40 v) (h : DataW.Trod enc Tryz.prog W 0 (fun _ => true) true 40 v d p) : ∃ i : Ins, v = i.val := by
  obtain ⟨cs, rfl, hsz⟩ := okWide_struct Tryz.underlying40 hv
  obtain ⟨fuel, hf⟩ := h
  obtain ⟨i, e⟩ := ins_cells hf
  obtain ⟨l⟩ := cs
  have e' : l = i.cells := e
  subst e'
  exact ⟨i, rfl⟩
set_option maxRecDepth 100000 in
/-- An edit that came in, opened. -/
theorem open_edit {base : Nat} {v : Value} {d : DataW H} {p : List MemPlace} (hv : Value.okWide Tryz.prog W .any base 55 v) (h : DataW.Trod enc Tryz.prog W 0 (fun _ => true) true 55 v d p) : ∃ e : Ed, v = e.val := by
  obtain ⟨cs, rfl, hsz⟩ := okWide_struct Tryz.underlying55 hv
  obtain ⟨fuel, hf⟩ := h
  obtain ⟨xs, n, _, _, _, hx, hi⟩ := DataW.trod_struct Tryz.underlying55 hf
  rw [cellsEdit] at hsz
  obtain ⟨l⟩ := cs
  have hl : l.length = 17 := by simpa using hsz
  match l, hl, xs, hx with
  | [v0, v1, v2, v3, v4, v5, v6, v7, v8, v9, v10, v11, v12, v13, v14, v15, v16], _, [y0, y1, y2, y3, y4, y5, y6], _ =>
    have g0 : DataW.trod enc Tryz.prog W 0 (fun _ => true) true n 3 ((([v0, v1, v2, v3, v4, v5, v6, v7, v8, v9, v10, v11, v12, v13, v14, v15, v16] : List Value).drop 0).take (Tryz.prog.cellsOf 3)) = some y0 := hi 0 _ rfl
    rw [cells3] at g0
    have g1 : DataW.trod enc Tryz.prog W 0 (fun _ => true) true n 3 ((([v0, v1, v2, v3, v4, v5, v6, v7, v8, v9, v10, v11, v12, v13, v14, v15, v16] : List Value).drop 1).take (Tryz.prog.cellsOf 3)) = some y1 := hi 1 _ rfl
    rw [cells3] at g1
    have g2 : DataW.trod enc Tryz.prog W 0 (fun _ => true) true n 3 ((([v0, v1, v2, v3, v4, v5, v6, v7, v8, v9, v10, v11, v12, v13, v14, v15, v16] : List Value).drop 2).take (Tryz.prog.cellsOf 3)) = some y2 := hi 2 _ rfl
    rw [cells3] at g2
    have g3 : DataW.trod enc Tryz.prog W 0 (fun _ => true) true n 3 ((([v0, v1, v2, v3, v4, v5, v6, v7, v8, v9, v10, v11, v12, v13, v14, v15, v16] : List Value).drop 3).take (Tryz.prog.cellsOf 3)) = some y3 := hi 3 _ rfl
    rw [cells3] at g3
    have g4 : DataW.trod enc Tryz.prog W 0 (fun _ => true) true n 3 ((([v0, v1, v2, v3, v4, v5, v6, v7, v8, v9, v10, v11, v12, v13, v14, v15, v16] : List Value).drop 4).take (Tryz.prog.cellsOf 3)) = some y4 := hi 4 _ rfl
    rw [cells3] at g4
    have g5 : DataW.trod enc Tryz.prog W 0 (fun _ => true) true n 3 ((([v0, v1, v2, v3, v4, v5, v6, v7, v8, v9, v10, v11, v12, v13, v14, v15, v16] : List Value).drop 5).take (Tryz.prog.cellsOf 3)) = some y5 := hi 5 _ rfl
    rw [cells3] at g5
    have g6 : DataW.trod enc Tryz.prog W 0 (fun _ => true) true n 40 ((([v0, v1, v2, v3, v4, v5, v6, v7, v8, v9, v10, v11, v12, v13, v14, v15, v16] : List Value).drop 6).take (Tryz.prog.cellsOf 40)) = some y6 := hi 6 _ rfl
    rw [cellsInstr] at g6
    simp at g0 g1 g2 g3 g4 g5 g6
    obtain ⟨n0, e0, _⟩ := DataW.trod_int Tryz.underlying3 g0
    obtain ⟨n1, e1, _⟩ := DataW.trod_int Tryz.underlying3 g1
    obtain ⟨n2, e2, _⟩ := DataW.trod_int Tryz.underlying3 g2
    obtain ⟨n3, e3, _⟩ := DataW.trod_int Tryz.underlying3 g3
    obtain ⟨n4, e4, _⟩ := DataW.trod_int Tryz.underlying3 g4
    obtain ⟨n5, e5, _⟩ := DataW.trod_int Tryz.underlying3 g5
    obtain ⟨i, e6⟩ := ins_cells g6
    simp [Ins.cells] at e0 e1 e2 e3 e4 e5 e6
    obtain ⟨f0, f1, f2, f3, f4, f5, f6, f7, f8, f9, f10⟩ := e6
    exact ⟨⟨n0, n1, n2, n3, n4, n5, i⟩, by simp only [Ed.val, e0, e1, e2, e3, e4, e5, f0, f1, f2, f3, f4, f5, f6, f7, f8, f9, f10]⟩
end
end Go.Proofs.YtbddjneinfkmpaaGreatDoor
