import Derived.Test.YtkcgbdggipijlaaDoorCards
import Derived.Test.YtkcgbdggipijlaaDoorTie
import Derived.WalkKit
import Derived.ProofKit
import Derived.OpenShut
import Derived.Deep.DeepHandedRow
import Derived.Lib.LaidTab
import Derived.Lib.SmallJoins
import Derived.Test.YtkcgbdggipijlaaDoorSigC
import Derived.Test.YtkcgbdggipijlaaDoorFlatM
namespace Go.Proofs.YtkcgbdggipijlaaDoor
open Go.ChangeShapes Go.WideShapes Go.ChangeAt Go.RowKit Go.Joins

theorem own : ownKnob Tryd.prog.godebug = none := by kernel_rfl
theorem laidOut : laidOutB Tryd.prog = true := by kernel_rfl
theorem gSums : Tryd.prog.globalNamed "bywash/sign.sums" = some 0 := by kernel_rfl
theorem gProds : Tryd.prog.globalNamed "bywash/sign.products" = some 1 := by kernel_rfl
theorem gSumsType : (Tryd.prog.globals[0]?).map (·.type) = some 48 := by kernel_rfl
theorem gProdsType : (Tryd.prog.globals[1]?).map (·.type) = some 48 := by kernel_rfl
theorem cellsGrid : Tryd.prog.cellsOf 48 = 9 := by kernel_rfl
theorem cellsRow : Tryd.prog.cellsOf 47 = 3 := by kernel_rfl
theorem cells3 : Tryd.prog.cellsOf 3 = 1 := by kernel_rfl

/-- AN ARRAY OF ARRAYS OF INTEGERS THAT READS AS A GRID HOLDS THE GRID's NUMBERS, ROW FOR ROW. -/
theorem cells_of_grid {H : Type} {enc : TypeId × Value → H} {P : Program} {w : World} {base : Nat} {sp : Nat → Bool} {held : Bool} {fuel : Nat} {t e ei : TypeId} {n m : Nat} {k : IntKind} {cs : List Value} {rows : List (List Int)} {p : List MemPlace}
    (ht : P.underlying t = some (.array n e)) (he : P.underlying e = some (.array m ei)) (hei : P.underlying ei = some (.int k)) (hci : P.cellsOf ei = 1) (hce : P.cellsOf e = m) (hct : P.cellsOf t = n * m)
    (h : DataW.trod enc P w base sp held fuel t cs = some (.agg (rows.map (Lib.tabData k)), p)) :
    ∀ i r, rows[i]? = some r → (cs.drop (i * m)).take m = r.map fun z => Value.int k z := by
  cases fuel with
  | zero => simp [DataW.trod] at h
  | succ fuel =>
    simp only [DataW.trod, ht, hce, hct] at h
    split at h
    · rename_i hl
      obtain ⟨xs, hm, hx⟩ := Option.map_eq_some_iff.1 h
      have hxs : xs.map (·.1) = rows.map fun z => (Lib.tabData k z : DataW H) := by
        have := congrArg Prod.fst hx
        simpa using this
      have hxl : xs.length = n := by simpa using Lib.mapM_length hm
      have hzl : rows.length = n := by
        have := congrArg List.length hxs
        simp at this
        omega
      intro i r hr
      have hi : i < n := by
        have := (List.getElem?_eq_some_iff.1 hr).1
        omega
      obtain ⟨b, hb, hf⟩ := Lib.mapM_at hm i i (by simp [hi])
      have h2 : (xs.map (·.1))[i]? = some (Lib.tabData k r : DataW H) := by rw [hxs]; simp [hr]
      have h3 : b.1 = (Lib.tabData k r : DataW H) := by simpa [hb] using h2
      obtain ⟨b1, b2⟩ := b
      simp only at h3
      subst h3
      exact Lib.cells_of_tab he hei hci hce hf
    · cases h

def sumsZ : List (List Int) := [[1, 1, 7], [1, 2, 4], [7, 4, 4]]
def prodsZ : List (List Int) := [[4, 2, 1], [2, 2, 2], [1, 2, 4]]

theorem nine {cs : List Value} {rows : List (List Int)} {L : List Nat} (hR : rows.flatten = L.map fun (n : Nat) => (n : Int)) (h3 : ∃ a b c, rows = [a, b, c] ∧ a.length = 3 ∧ b.length = 3 ∧ c.length = 3)
    (h : ∀ i r, rows[i]? = some r → (cs.drop (i * 3)).take 3 = r.map fun z => Value.int .i64 z) : ∀ j, j < 9 → cs[j]? = some (.int .i64 ((L.getD j 0 : Nat) : Int)) := by
  obtain ⟨a, b, c, rfl, ha, hb, hc⟩ := h3
  have e0 := h 0 a rfl
  have e1 := h 1 b rfl
  have e2 := h 2 c rfl
  have hL : L.length = 9 := by
    have := congrArg List.length hR
    simp at this
    omega
  have at3 : ∀ (i : Nat) (r : List Int), r.length = 3 → (cs.drop (i * 3)).take 3 = r.map (fun z => Value.int .i64 z) → ∀ q, q < 3 → cs[i * 3 + q]? = (r[q]?).map (fun z => Value.int .i64 z) := by
    intro i r hr he q hq
    have := congrArg (·[q]?) he
    simpa [List.getElem?_take, List.getElem?_drop, hq] using this
  have fl : ∀ j : Nat, (L.map fun (n : Nat) => (n : Int))[j]? = (a ++ (b ++ c))[j]? := by
    intro j; rw [← hR]; simp
  intro j hj
  have key : cs[j]? = ((a ++ (b ++ c))[j]?).map (fun z => Value.int .i64 z) := by
    by_cases h1 : j < 3
    · have := at3 0 a ha e0 j h1
      rw [Nat.zero_mul, Nat.zero_add] at this
      rw [this, List.getElem?_append_left (by omega)]
    · by_cases h2 : j < 6
      · have := at3 1 b hb e1 (j - 3) (by omega)
        rw [show 1 * 3 + (j - 3) = j by omega] at this
        rw [this, List.getElem?_append_right (by omega), ha, List.getElem?_append_left (by omega)]
      · have := at3 2 c hc e2 (j - 6) (by omega)
        rw [show 2 * 3 + (j - 6) = j by omega] at this
        rw [this, List.getElem?_append_right (by omega), ha, List.getElem?_append_right (by omega), hb, show j - 3 - 3 = j - 6 by omega]
  rw [key, ← fl]
  have : j < L.length := by omega
  simp [List.getD, this]

theorem tabs_of_laid {W : World} (h : laidMetH Tryd.prog [("bywash/sign.sums", Rows.laid_bywash_sign_sums), ("bywash/sign.products", Rows.laid_bywash_sign_products)] W) : Tabs W := by
  obtain ⟨ps, ⟨g, t, cs, fuel, p, q, hg, ht, hvar, hd, ⟨g', t', cs', fuel', p', q', hg', ht', hvar', hd', -, -⟩, -⟩, -⟩ := h
  obtain rfl := Option.some.inj (gSums.symm.trans hg)
  obtain rfl := Option.some.inj (gSumsType.symm.trans ht)
  obtain rfl := Option.some.inj (gProds.symm.trans hg')
  obtain rfl := Option.some.inj (gProdsType.symm.trans ht')
  have k1 := nine (rows := sumsZ) (L := sumsL) rfl ⟨_, _, _, rfl, rfl, rfl, rfl⟩ (cells_of_grid (rows := sumsZ) Tryd.underlying48 Tryd.underlying47 Tryd.underlying3 cells3 cellsRow cellsGrid hd)
  have k2 := nine (rows := prodsZ) (L := prodsL) rfl ⟨_, _, _, rfl, rfl, rfl, rfl⟩ (cells_of_grid (rows := prodsZ) Tryd.underlying48 Tryd.underlying47 Tryd.underlying3 cells3 cellsRow cellsGrid hd')
  refine ⟨fun j hj => ?_, fun j hj => ?_⟩
  · rw [World.var?_cell gSums hvar j, ← Array.getElem?_toList]; exact k1 j hj
  · rw [World.var?_cell gProds hvar' j, ← Array.getElem?_toList]; exact k2 j hj

/-- A block filled with these numbers. -/
def fillZ (zs : List Int) : Obj → Obj
  | .cells _ t frozen => .cells (zs.map fun z => Value.int .i64 z).toArray t frozen
  | o => o
/-- A world for the witness: the settled one, the tables (blocks 0, 1) holding what their initialisers lay. -/
noncomputable def laidWorld (os : Os) : World :=
  { World.holding Tryd.prog os ⟨#[], #[], []⟩ with heap := ((World.holding Tryd.prog os ⟨#[], #[], []⟩).heap.modify 0 (fillZ sumsZ.flatten)).modify 1 (fillZ prodsZ.flatten) }

/-- A value that came in, opened. -/
theorem cellsV : Tryd.prog.cellsOf 23 = 2 := by kernel_rfl
theorem open_val {H : Type} {enc : TypeId × Value → H} {W : World} {base : Nat} {v : Value} {d : DataW H} {p : List MemPlace}
    (hv : Value.okWide Tryd.prog W .any base 23 v) (h : DataW.Trod enc Tryd.prog W 0 (fun _ => true) true 23 v d p) : ∃ a : V, v = a.val := by
  obtain ⟨c0, c1, y0, y1, m, rfl, _, _, hy0, hy1⟩ := open_agg2 Tryd.underlying23 (by kernel_rfl) cellsV hv h
  obtain ⟨n, e0, _, wn⟩ := DataW.trod_int Tryd.underlying3 hy0
  obtain ⟨k, e1, _, wk⟩ := DataW.trod_int Tryd.underlying3 hy1
  simp at e0 e1
  subst e0 e1
  exact ⟨⟨n, k⟩, rfl⟩
end Go.Proofs.YtkcgbdggipijlaaDoor
