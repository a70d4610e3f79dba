/- An Env that came in, opened: beside the tables of a tied row. -/
import Derived.Deep.SlicePairs
import Derived.Test.YtmcbedlmgffckaaGreatDoorROpenB
import Derived.Test.YtmcbedlmgffckaaGreatDoorFlaG
import Derived.Test.YtmcbedlmgffckaaGreatDoorEnvY
namespace Go.Proofs.YtmcbedlmgffckaaGreatDoor
open Go.ChangeShapes Go.WideShapes Go.ChangeAt Go.RowKit Go.Joins

theorem cellsV : Tryz.prog.cellsOf 53 = 2 := by kernel_rfl
theorem cellsSE : Tryz.prog.cellsOf 27 = 2 := by kernel_rfl

theorem cellsFE : Tryz.prog.cellsOf 24 = 2 := by kernel_rfl

set_option maxRecDepth 100000 in
/-- An Env of signs that came in, opened. -/
theorem open_senv {H : Type} {enc : TypeId × Value → H} {W : World} {base : Nat} {v : Value} {d : DataW H} {p : List MemPlace}
    (hv : Value.okWide Tryz.prog W .any base 27 v) (h : DataW.Trod enc Tryz.prog W 0 (fun _ => true) true 27 v d p) :
    ∃ (on : Bool) (a : Option Addr) (n cap : Nat) (l : List Int), v = .agg #[.bool on, .slice a n cap] ∧ SE W a n l := by
  obtain ⟨c0, c1, y0, y1, m, rfl, _, _, hy0, hy1⟩ := open_agg2 Tryz.underlying27 (by kernel_rfl) cellsSE hv h
  obtain ⟨on, e0, _⟩ := DataW.trod_bool Tryz.underlying4 hy0
  simp at e0
  subst e0
  rcases open_ints Tryz.underlying25 Tryz.underlying3 cells3 hy1 with ⟨hcs, _⟩ | ⟨a, len, cap, zs, hcs, _, hl, hm, hz, _, hcell, _⟩
  · simp at hcs
    subst hcs
    exact ⟨on, none, 0, 0, [], rfl, SE.nil _ _⟩
  · simp at hcs
    subst hcs
    simp only [if_true] at hz
    refine ⟨on, some a, len, cap, zs.take len, rfl, fun j hj => ?_, by simp; omega⟩
    have hj' : j < len := by simp at hj; omega
    obtain ⟨b, off, rfl, hc⟩ := ints_at hcell (by omega)
    have hcj := hc j (by omega)
    refine ⟨b, off, rfl, block_lt_of_cell hcj, ?_⟩
    rw [hcj, List.getElem?_take_of_lt hj']
    rfl

set_option maxRecDepth 100000 in
/-- An Env of numbers that came in, opened. -/
theorem open_fenv {H : Type} {enc : TypeId × Value → H} {W : World} {base : Nat} {v : Value} {d : DataW H} {p : List MemPlace}
    (hv : Value.okWide Tryz.prog W .any base 24 v) (h : DataW.Trod enc Tryz.prog W 0 (fun _ => true) true 24 v d p) :
    ∃ (on : Bool) (a : Option Addr) (n cap : Nat) (l : List V), v = .agg #[.bool on, .slice a n cap] ∧ FE W a n l := by
  obtain ⟨c0, c1, y0, y1, m, rfl, _, _, hy0, hy1⟩ := open_agg2 Tryz.underlying24 (by kernel_rfl) cellsFE hv h
  obtain ⟨on, e0, _⟩ := DataW.trod_bool Tryz.underlying4 hy0
  simp at e0
  subst e0
  rcases Deep.open_slice_pairs Tryz.underlying22 Tryz.underlying53 cellsV rfl rfl cells3 cells3 hy1 with ⟨hcs, _⟩ | ⟨a, len, cap, mm, nn, V0, V1, D0, D1, P0, P1, hcs, _, hl, _, hmm, _, hx⟩
  · simp at hcs
    subst hcs
    exact ⟨on, none, 0, 0, [], rfl, FE.nil _ _⟩
  · simp at hcs
    subst hcs
    simp only [if_true] at hmm
    have hx' : ∀ i, i < len → ∃ x y : Int, V0 i = .int .i64 x ∧ V1 i = .int .i64 y := fun i hi => by
      obtain ⟨_, _, h0, h1⟩ := hx i (by omega)
      obtain ⟨x, e0, _, _⟩ := DataW.trod_int Tryz.underlying3 h0
      obtain ⟨y, e1, _, _⟩ := DataW.trod_int Tryz.underlying3 h1
      simp at e0 e1
      exact ⟨x, y, e0, e1⟩
    let num : Value → Int := fun v => match v with | .int _ x => x | _ => 0
    refine ⟨on, some a, len, cap, (List.range len).map fun i => ⟨num (V0 i), num (V1 i)⟩, rfl, fun j hj => ?_, by simp⟩
    have hj' : j < len := by simpa using hj
    obtain ⟨x, y, ex, ey⟩ := hx' j hj'
    obtain ⟨k0, k1, _, _⟩ := hx j (by omega)
    obtain ⟨b, off, spot⟩ := a
    have hspot : spot = none := by simpa [Addr.add] using World.cell?_spot (hx 0 (by omega)).1
    subst hspot
    rw [add_plain] at k0 k1
    refine ⟨b, off, rfl, block_lt_of_cell k0, ?_, ?_⟩
    · rw [k0]; simp [hj', num, ex]
    · rw [← Nat.add_assoc] at k1; rw [k1]; simp [hj', num, ey]
end Go.Proofs.YtmcbedlmgffckaaGreatDoor
