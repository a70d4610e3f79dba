import Derived.Carry
import Derived.Test.YtjlofjoekpoepaaDoorROpen
namespace Go.Proofs.YtjlofjoekpoepaaDoor
open Go.ChangeShapes Go.WideShapes Go.ChangeAt Go.RowKit Go.Joins

/-- A slice of numbers that came in, opened. -/
theorem open_list {H : Type} {enc : TypeId × Value → H} {W : World} {a1 : Option Addr} {len cap : Nat} {d : DataW H} {p : List MemPlace}
    (h : DataW.Trod enc Tryd.prog W 0 (fun _ => true) true 25 (.slice a1 len cap) d p) : ∃ l : List Int, l.length = len ∧ l.length ≤ maxLen ∧ Is W.heap.size W a1 l := by
  obtain ⟨fuel, hf⟩ := h
  rcases open_ints Tryd.underlying25 Tryd.underlying3 cells3 hf with ⟨hcs, _⟩ | ⟨a, len', cap', zs, hcs, _, hl, hm, hz, _, hcell, _⟩
  · simp [Value.cells] at hcs
    obtain ⟨rfl, rfl, rfl⟩ := hcs
    exact ⟨[], rfl, Nat.zero_le _, fun j hj => absurd hj (Nat.not_lt_zero _)⟩
  · simp [Value.cells] at hcs
    obtain ⟨rfl, rfl, rfl⟩ := hcs
    simp only [if_true] at hz
    refine ⟨zs.take len, by simp; omega, by simp; omega, fun j hj => ?_⟩
    have hj' : j < len := by simp at hj; omega
    obtain ⟨b, off, rfl, hc⟩ := ints_at hcell (by omega)
    have hcj := hc j (by omega)
    refine ⟨b, off, rfl, block_lt_of_cell hcj, ?_⟩
    rw [hcj, List.getElem?_take_of_lt hj']
    rfl
end Go.Proofs.YtjlofjoekpoepaaDoor
