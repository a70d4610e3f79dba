/- An instruction that came in, opened: over whatever program whose type t is that struct. -/
import Derived.WalkKit
import Derived.ProofKit
import Derived.OpenShut
import Derived.Lib.SmallJoins
import Derived.Test.YtbddjneinfkmpaaGreatDoorInsM
namespace Go.Proofs.YtbddjneinfkmpaaGreatDoor
open Go.ChangeShapes Go.WideShapes Go.ChangeAt Go.RowKit Go.Joins

theorem open_arr3 {H : Type} {enc : TypeId × Value → H} {P : Program} {w : World} {base : Nat} {sp : Nat → Bool} {held : Bool} {fuel : Nat} {t e : TypeId} {cs : List Value} {x : DataW H × List MemPlace}
    (ht : P.underlying t = some (.array 3 e)) (he : P.underlying e = some (.int .i64)) (ce : P.cellsOf e = 1) (ct : P.cellsOf t = 3)
    (h : DataW.trod enc P w base sp held fuel t cs = some x) : ∃ a b c : Int, cs = [.int .i64 a, .int .i64 b, .int .i64 c] := by
  obtain ⟨xs, m, _, _, hl, hx, hi⟩ := DataW.trod_array ht h
  rw [ct] at hl
  match cs, hl, xs, hx with
  | [v0, v1, v2], _, [y0, y1, y2], _ =>
    have g0 := hi 0 (by omega)
    have g1 := hi 1 (by omega)
    have g2 := hi 2 (by omega)
    simp only [ce] at g0 g1 g2
    simp at g0 g1 g2
    obtain ⟨a, e0, _⟩ := DataW.trod_int he g0
    obtain ⟨b, e1, _⟩ := DataW.trod_int he g1
    obtain ⟨c, e2, _⟩ := DataW.trod_int he g2
    simp at e0 e1 e2
    exact ⟨a, b, c, by rw [e0, e1, e2]⟩

theorem open_ins {H : Type} {enc : TypeId × Value → H} {P : Program} {W : World} {r : Reach} {b0 base : Nat} {sp : Nat → Bool} {held : Bool} {t e ar : TypeId} {f0 f1 f2 f3 f4 f5 f6 f7 f8 : Field} {v : Value} {d : DataW H} {p : List MemPlace}
    (hs : P.underlying t = some (.struct #[f0, f1, f2, f3, f4, f5, f6, f7, f8])) (ct : P.cellsOf t = 11) (he : P.underlying e = some (.int .i64)) (ce : P.cellsOf e = 1) (ha : P.underlying ar = some (.array 3 e)) (ca : P.cellsOf ar = 3)
    (ht : [f0.type, f1.type, f2.type, f3.type, f4.type, f5.type, f6.type, f7.type, f8.type] = [e, e, e, e, e, e, e, e, ar]) (ho : [f0.offset, f1.offset, f2.offset, f3.offset, f4.offset, f5.offset, f6.offset, f7.offset, f8.offset] = [0, 1, 2, 3, 4, 5, 6, 7, 8])
    (hv : Value.okWide P W r b0 t v) (h : DataW.Trod enc P W base sp held t v d p) : ∃ i : Ins, v = .agg i.cells.toArray := by
  obtain ⟨cs, rfl, hsz⟩ := okWide_struct hs hv
  obtain ⟨fuel, hf⟩ := h
  obtain ⟨xs, n, _, _, _, hx, hi⟩ := DataW.trod_struct hs hf
  simp only [List.cons.injEq, and_true] at ht ho
  obtain ⟨t0, t1, t2, t3, t4, t5, t6, t7, t8⟩ := ht
  obtain ⟨o0, o1, o2, o3, o4, o5, o6, o7, o8⟩ := ho
  rw [ct] at hsz
  obtain ⟨l⟩ := cs
  have hl : l.length = 11 := by simpa using hsz
  match l, hl, xs, hx with
  | [v0, v1, v2, v3, v4, v5, v6, v7, v8, v9, v10], _, [y0, y1, y2, y3, y4, y5, y6, y7, y8], _ =>
    have g0 := hi 0 f0 rfl
    have g1 := hi 1 f1 rfl
    have g2 := hi 2 f2 rfl
    have g3 := hi 3 f3 rfl
    have g4 := hi 4 f4 rfl
    have g5 := hi 5 f5 rfl
    have g6 := hi 6 f6 rfl
    have g7 := hi 7 f7 rfl
    have g8 := hi 8 f8 rfl
    rw [t0, o0, ce] at g0
    rw [t1, o1, ce] at g1
    rw [t2, o2, ce] at g2
    rw [t3, o3, ce] at g3
    rw [t4, o4, ce] at g4
    rw [t5, o5, ce] at g5
    rw [t6, o6, ce] at g6
    rw [t7, o7, ce] at g7
    rw [t8, o8, ca] at g8
    simp [Value.cells] at g0 g1 g2 g3 g4 g5 g6 g7 g8
    obtain ⟨n0, e0, _⟩ := DataW.trod_int he g0
    obtain ⟨n1, e1, _⟩ := DataW.trod_int he g1
    obtain ⟨n2, e2, _⟩ := DataW.trod_int he g2
    obtain ⟨n3, e3, _⟩ := DataW.trod_int he g3
    obtain ⟨n4, e4, _⟩ := DataW.trod_int he g4
    obtain ⟨n5, e5, _⟩ := DataW.trod_int he g5
    obtain ⟨n6, e6, _⟩ := DataW.trod_int he g6
    obtain ⟨n7, e7, _⟩ := DataW.trod_int he g7
    obtain ⟨n8, n9, n10, e8⟩ := open_arr3 ha he ce ca g8
    simp at e0 e1 e2 e3 e4 e5 e6 e7 e8
    obtain ⟨e8, e9, e10⟩ := e8
    exact ⟨⟨n0, n1, n2, n3, n4, n5, n6, n7, n8, n9, n10⟩, by simp only [Ins.cells, e0, e1, e2, e3, e4, e5, e6, e7, e8, e9, e10]⟩
end Go.Proofs.YtbddjneinfkmpaaGreatDoor
