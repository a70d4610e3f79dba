import Derived.Test.YtbddjneinfkmpaaGreatDoorCards
import Derived.Test.YtbddjneinfkmpaaGreatDoorTie
import Derived.WalkKit
import Derived.ProofKit
import Derived.OpenShut
import Derived.Deep.DeepHandedRow
import Derived.Lib.LaidTab
import Derived.Lib.SmallJoins
import Derived.Test.YtbddjneinfkmpaaGreatDoorInsA
namespace Go.Proofs.YtbddjneinfkmpaaGreatDoor
open Go.ChangeShapes Go.WideShapes Go.ChangeAt Go.RowKit Go.Joins

theorem own : ownKnob Tryz.prog.godebug = none := by kernel_rfl
theorem laidOut : laidOutB Tryz.prog = true := by kernel_rfl
theorem gKinds : Tryz.prog.globalNamed "bywash/instr.kinds" = some 2 := by kernel_rfl
theorem gKindsType : (Tryz.prog.globals[2]?).map (·.type) = some 129 := by kernel_rfl
theorem cellsShape : Tryz.prog.cellsOf 128 = 6 := by kernel_rfl
theorem cellsKinds : Tryz.prog.cellsOf 129 = 60 := by kernel_rfl
theorem cells3 : Tryz.prog.cellsOf 3 = 1 := by kernel_rfl
theorem cells4 : Tryz.prog.cellsOf 4 = 1 := by kernel_rfl
theorem cells9 : Tryz.prog.cellsOf 9 = 1 := by kernel_rfl

def kDat {H : Type} (k : Nat) : DataW H := .agg [.lit (.string (kNames.getD k [])), .lit (.bool (hasDst k)), .lit (.bool (hasA k)), .lit (.bool (hasB k)), .lit (.bool (decide (k = 0))), .lit (.bool (decide (k = 7)))]
theorem kinds_dat {H : Type} : (Rows.laid_bywash_instr_kinds : DataW H) = .agg ((List.range 10).map kDat) := rfl

theorem shape_cells {H : Type} {enc : TypeId × Value → H} {P : Program} {w : World} {base : Nat} {sp : Nat → Bool} {held : Bool} {fuel : Nat} {t : TypeId} {f0 f1 f2 f3 f4 f5 : Field} {cs : List Value} {p : List MemPlace} {k : Nat}
    (hs : P.underlying t = some (.struct #[f0, f1, f2, f3, f4, f5])) (h9 : P.underlying 9 = some .string) (h4 : P.underlying 4 = some .bool) (c9 : P.cellsOf 9 = 1) (c4 : P.cellsOf 4 = 1) (ct : P.cellsOf t = 6)
    (ht : [f0.type, f1.type, f2.type, f3.type, f4.type, f5.type] = [9, 4, 4, 4, 4, 4]) (ho : [f0.offset, f1.offset, f2.offset, f3.offset, f4.offset, f5.offset] = [0, 1, 2, 3, 4, 5])
    (h : DataW.trod enc P w base sp held fuel t cs = some (kDat k, p)) : ∀ j, j < 6 → cs[j]? = some (kCell k j) := by
  obtain ⟨ys, n, _, hy, hl, hyl, hf⟩ := DataW.trod_struct hs h
  simp only [List.cons.injEq, and_true] at ht ho
  obtain ⟨t0, t1, t2, t3, t4, t5⟩ := ht
  obtain ⟨o0, o1, o2, o3, o4, o5⟩ := ho
  rw [ct] at hl
  match cs, hl, ys, hyl with
  | [v0, v1, v2, v3, v4, v5], _, [y0, y1, y2, y3, y4, y5], _ =>
    have hd := congrArg Prod.fst hy
    simp only [kDat, List.map_cons, List.map_nil, DataW.agg.injEq, List.cons.injEq, and_true] at hd
    obtain ⟨d0, d1, d2, d3, d4, d5⟩ := hd
    have g0 := hf 0 f0 rfl
    have g1 := hf 1 f1 rfl
    have g2 := hf 2 f2 rfl
    have g3 := hf 3 f3 rfl
    have g4 := hf 4 f4 rfl
    have g5 := hf 5 f5 rfl
    rw [t0, o0, c9] at g0
    rw [t1, o1, c4] at g1
    rw [t2, o2, c4] at g2
    rw [t3, o3, c4] at g3
    rw [t4, o4, c4] at g4
    rw [t5, o5, c4] at g5
    simp at g0 g1 g2 g3 g4 g5
    obtain ⟨s, e0, z0, _⟩ := DataW.trod_string h9 g0
    obtain ⟨b1, e1, z1⟩ := DataW.trod_bool h4 g1
    obtain ⟨b2, e2, z2⟩ := DataW.trod_bool h4 g2
    obtain ⟨b3, e3, z3⟩ := DataW.trod_bool h4 g3
    obtain ⟨b4, e4, z4⟩ := DataW.trod_bool h4 g4
    obtain ⟨b5, e5, z5⟩ := DataW.trod_bool h4 g5
    simp at e0 e1 e2 e3 e4 e5
    subst e0 e1 e2 e3 e4 e5
    rw [z0] at d0
    rw [z1] at d1
    rw [z2] at d2
    rw [z3] at d3
    rw [z4] at d4
    rw [z5] at d5
    simp at d0 d1 d2 d3 d4 d5
    intro j hj
    rcases (by omega : j = 0 ∨ j = 1 ∨ j = 2 ∨ j = 3 ∨ j = 4 ∨ j = 5) with rfl | rfl | rfl | rfl | rfl | rfl
    · show some (Value.string s) = some (.string ⟨(kNames.getD k []).toArray⟩)
      obtain ⟨⟨l⟩⟩ := s
      simp at d0
      rw [List.getD_eq_getElem?_getD, d0]
    all_goals simp [kCell, d1, d2, d3, d4, d5]

theorem ktab_of_cells {W : World} {cs : Array Value} {H : Type} {enc : TypeId × Value → H} {base : Nat} {sp : Nat → Bool} {held : Bool} {fuel : Nat} {p : List MemPlace}
    (hc : ∀ j, W.cell? ⟨2, j, none⟩ = cs[j]?) (hd : DataW.trod enc Tryz.prog W base sp held fuel 129 cs.toList = some (Rows.laid_bywash_instr_kinds, p)) : KTab W := by
  intro k j hk hj
  rw [kinds_dat] at hd
  obtain ⟨xs, m, _, hx, hl, hxl, hi⟩ := DataW.trod_array Tryz.underlying129 hd
  have hxd := congrArg Prod.fst hx
  simp only [DataW.agg.injEq] at hxd
  have hik := hi k hk
  rw [cellsShape] at hik
  have hxk : k < xs.length := by rw [hxl]; exact hk
  rw [List.getElem?_eq_getElem hxk] at hik
  have hdk : (xs[k]).1 = kDat k := by
    have := congrArg (·[k]?) hxd
    simp [hxk, hk] at this
    exact this.symm
  have hsc := shape_cells (k := k) (p := (xs[k]).2) Tryz.underlying128 Tryz.underlying9 Tryz.underlying4 cells9 cells4 cellsShape rfl rfl (by rw [hik, ← hdk]) j hj
  rw [hc, ← Array.getElem?_toList]
  rw [List.getElem?_take_of_lt hj, List.getElem?_drop] at hsc
  exact hsc

theorem ktab_of_laid {W : World} (h : laidMetH Tryz.prog [("bywash/instr.kinds", Rows.laid_bywash_instr_kinds)] W) : KTab W := by
  obtain ⟨ps, ⟨g, t, cs, fuel, p, q, hg, ht, hvar, hd, -, -⟩, -⟩ := h
  obtain rfl := Option.some.inj (gKinds.symm.trans hg)
  obtain rfl := Option.some.inj (gKindsType.symm.trans ht)
  exact ktab_of_cells (World.var?_cell gKinds hvar) hd

/-- A block filled with these cells. -/
def fillV (zs : List Value) : Obj → Obj
  | .cells _ t frozen => .cells zs.toArray t frozen
  | o => o
def kAll : List Value := (List.range 10).flatMap fun k => (List.range 6).map (kCell k)
/-- A world for the witness: the settled one, the table holding what its initialiser lays. -/
noncomputable def laidWorld (os : Os) : World :=
  { World.holding Tryz.prog os ⟨#[], #[], []⟩ with heap := (World.holding Tryz.prog os ⟨#[], #[], []⟩).heap.modify 2 (fillV kAll) }
end Go.Proofs.YtbddjneinfkmpaaGreatDoor
