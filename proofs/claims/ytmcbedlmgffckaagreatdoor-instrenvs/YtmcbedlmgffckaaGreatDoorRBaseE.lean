/- Three tables that a tied row lays: of signs, of kinds. -/
import Derived.Lib.LaidTab
import Derived.Test.YtmcbedlmgffckaaGreatDoorROpenF
import Derived.Test.YtmcbedlmgffckaaGreatDoorSiG
namespace Go.Proofs.YtmcbedlmgffckaaGreatDoor
open Go.ChangeShapes Go.WideShapes Go.ChangeAt Go.RowKit Go.Joins

theorem gSums : Tryz.prog.globalNamed "bywash/sign.sums" = some 1 := by kernel_rfl
theorem gProds : Tryz.prog.globalNamed "bywash/sign.products" = some 2 := by kernel_rfl
theorem gSumsType : (Tryz.prog.globals[1]?).map (·.type) = some 101 := by kernel_rfl
theorem gProdsType : (Tryz.prog.globals[2]?).map (·.type) = some 101 := by kernel_rfl
theorem cellsGrid : Tryz.prog.cellsOf 101 = 9 := by kernel_rfl
theorem cellsRow : Tryz.prog.cellsOf 28 = 3 := by kernel_rfl

/-- AN ARRAY OF ARRAYS OF INTEGERS THAT READS AS A GRID HOLDS THE GRID's NUMBERS, ROW FOR ROW. -/
theorem cells_of_grid {H : Type} {enc : TypeId × Value → H} {P : Program} {w : World} {base : Nat} {sp : Nat → Bool} {held : Bool} {fuel : Nat} {t e ei : TypeId} {n m : Nat} {k : IntKind} {cs : List Value} {rows : List (List Int)} {p : List MemPlace}
    (ht : P.underlying t = some (.array n e)) (he : P.underlying e = some (.array m ei)) (hei : P.underlying ei = some (.int k)) (hci : P.cellsOf ei = 1) (hce : P.cellsOf e = m) (hct : P.cellsOf t = n * m)
    (h : DataW.trod enc P w base sp held fuel t cs = some (.agg (rows.map (Lib.tabData k)), p)) :
    ∀ i r, rows[i]? = some r → (cs.drop (i * m)).take m = r.map fun z => Value.int k z := by
  cases fuel with
  | zero => simp [DataW.trod] at h
  | succ fuel =>
    simp only [DataW.trod, ht, hce, hct] at h
    split at h
    · rename_i hl
      obtain ⟨xs, hm, hx⟩ := Option.map_eq_some_iff.1 h
      have hxs : xs.map (·.1) = rows.map fun z => (Lib.tabData k z : DataW H) := by
        have := congrArg Prod.fst hx
        simpa using this
      have hxl : xs.length = n := by simpa using Lib.mapM_length hm
      have hzl : rows.length = n := by
        have := congrArg List.length hxs
        simp at this
        omega
      intro i r hr
      have hi : i < n := by
        have := (List.getElem?_eq_some_iff.1 hr).1
        omega
      obtain ⟨b, hb, hf⟩ := Lib.mapM_at hm i i (by simp [hi])
      have h2 : (xs.map (·.1))[i]? = some (Lib.tabData k r : DataW H) := by rw [hxs]; simp [hr]
      have h3 : b.1 = (Lib.tabData k r : DataW H) := by simpa [hb] using h2
      obtain ⟨b1, b2⟩ := b
      simp only at h3
      subst h3
      exact Lib.cells_of_tab he hei hci hce hf
    · cases h

def sumsZ : List (List Int) := [[1, 1, 7], [1, 2, 4], [7, 4, 4]]
def prodsZ : List (List Int) := [[4, 2, 1], [2, 2, 2], [1, 2, 4]]

theorem nine {cs : List Value} {rows : List (List Int)} {L : List Nat} (hR : rows.flatten = L.map fun (n : Nat) => (n : Int)) (h3 : ∃ a b c, rows = [a, b, c] ∧ a.length = 3 ∧ b.length = 3 ∧ c.length = 3)
    (h : ∀ i r, rows[i]? = some r → (cs.drop (i * 3)).take 3 = r.map fun z => Value.int .i64 z) : ∀ j, j < 9 → cs[j]? = some (.int .i64 ((L.getD j 0 : Nat) : Int)) := by
  obtain ⟨a, b, c, rfl, ha, hb, hc⟩ := h3
  have e0 := h 0 a rfl
  have e1 := h 1 b rfl
  have e2 := h 2 c rfl
  have hL : L.length = 9 := by
    have := congrArg List.length hR
    simp at this
    omega
  have at3 : ∀ (i : Nat) (r : List Int), r.length = 3 → (cs.drop (i * 3)).take 3 = r.map (fun z => Value.int .i64 z) → ∀ q, q < 3 → cs[i * 3 + q]? = (r[q]?).map (fun z => Value.int .i64 z) := by
    intro i r hr he q hq
    have := congrArg (·[q]?) he
    simpa [List.getElem?_take, List.getElem?_drop, hq] using this
  have fl : ∀ j : Nat, (L.map fun (n : Nat) => (n : Int))[j]? = (a ++ (b ++ c))[j]? := by
    intro j; rw [← hR]; simp
  intro j hj
  have key : cs[j]? = ((a ++ (b ++ c))[j]?).map (fun z => Value.int .i64 z) := by
    by_cases h1 : j < 3
    · have := at3 0 a ha e0 j h1
      rw [Nat.zero_mul, Nat.zero_add] at this
      rw [this, List.getElem?_append_left (by omega)]
    · by_cases h2 : j < 6
      · have := at3 1 b hb e1 (j - 3) (by omega)
        rw [show 1 * 3 + (j - 3) = j by omega] at this
        rw [this, List.getElem?_append_right (by omega), ha, List.getElem?_append_left (by omega)]
      · have := at3 2 c hc e2 (j - 6) (by omega)
        rw [show 2 * 3 + (j - 6) = j by omega] at this
        rw [this, List.getElem?_append_right (by omega), ha, List.getElem?_append_right (by omega), hb, show j - 3 - 3 = j - 6 by omega]
  rw [key, ← fl]
  have : j < L.length := by omega
  simp [List.getD, this]

theorem tabs3_of_laid {W : World} (h : laidMetH Tryz.prog [("bywash/sign.sums", Rows.laid_bywash_sign_sums), ("bywash/sign.products", Rows.laid_bywash_sign_products), ("bywash/instr.kinds", Rows.laid_bywash_instr_kinds)] W) : Tabs W ∧ KTab W := by
  obtain ⟨ps, ⟨g1, t1, cs1, fuel1, p1, q1, hg1, ht1, hvar1, hd1, ⟨g2, t2, cs2, fuel2, p2, q2, hg2, ht2, hvar2, hd2, ⟨g3, t3, cs3, fuel3, p3, q3, hg3, ht3, hvar3, hd3, -, -⟩, -⟩, -⟩, -⟩ := h
  obtain rfl := Option.some.inj (gSums.symm.trans hg1)
  obtain rfl := Option.some.inj (gSumsType.symm.trans ht1)
  obtain rfl := Option.some.inj (gProds.symm.trans hg2)
  obtain rfl := Option.some.inj (gProdsType.symm.trans ht2)
  obtain rfl := Option.some.inj (gKinds.symm.trans hg3)
  obtain rfl := Option.some.inj (gKindsType.symm.trans ht3)
  have k1 := nine (rows := sumsZ) (L := sumsL) rfl ⟨_, _, _, rfl, rfl, rfl, rfl⟩ (cells_of_grid (rows := sumsZ) Tryz.underlying101 Tryz.underlying28 Tryz.underlying3 cells3 cellsRow cellsGrid hd1)
  have k2 := nine (rows := prodsZ) (L := prodsL) rfl ⟨_, _, _, rfl, rfl, rfl, rfl⟩ (cells_of_grid (rows := prodsZ) Tryz.underlying101 Tryz.underlying28 Tryz.underlying3 cells3 cellsRow cellsGrid hd2)
  refine ⟨⟨fun j hj => ?_, fun j hj => ?_⟩, ktab_of_cells (World.var?_cell gKinds hvar3) hd3⟩
  · rw [World.var?_cell gSums hvar1 j, ← Array.getElem?_toList]; exact k1 j hj
  · rw [World.var?_cell gProds hvar2 j, ← Array.getElem?_toList]; exact k2 j hj

/-- A block filled with these numbers. -/
def fillZ (zs : List Int) : Obj → Obj
  | .cells _ t frozen => .cells (zs.map fun z => Value.int .i64 z).toArray t frozen
  | o => o
/-- A world for the witness: the settled one, the three tables holding what their initialisers lay. -/
noncomputable def laidWorld3 (os : Os) : World :=
  { World.holding Tryz.prog os ⟨#[], #[], []⟩ with heap := (((World.holding Tryz.prog os ⟨#[], #[], []⟩).heap.modify 1 (fillZ sumsZ.flatten)).modify 2 (fillZ prodsZ.flatten)).modify 0 (fillV kAll) }
end Go.Proofs.YtmcbedlmgffckaaGreatDoor
