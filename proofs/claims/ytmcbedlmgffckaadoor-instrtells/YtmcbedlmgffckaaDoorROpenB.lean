import Derived.Carry
import Derived.Test.YtmcbedlmgffckaaDoorRBaseI
import Derived.Test.YtmcbedlmgffckaaDoorBiG1
import Derived.Test.YtmcbedlmgffckaaDoorROpenI
namespace Go.Proofs.YtmcbedlmgffckaaDoor.Bi
open Go.ChangeShapes Go.WideShapes Go.ChangeAt Go.RowKit Go.Joins

theorem cellsU64 : Tryd.prog.cellsOf 85 = 1 := by kernel_rfl
theorem cellsRset : Tryd.prog.cellsOf 35 = 2 := by kernel_rfl
theorem cellsInstr : Tryd.prog.cellsOf 24 = 11 := by kernel_rfl
theorem cellsArr3 : Tryd.prog.cellsOf 22 = 3 := by kernel_rfl
set_option maxRecDepth 100000 in
/-- A set that came in, opened. -/
theorem open_set {H : Type} {enc : TypeId × Value → H} {W : World} {base : Nat} {v : Value} {d : DataW H} {p : List MemPlace}
    (hv : Value.okWide Tryd.prog W .any base 35 v) (h : DataW.Trod enc Tryd.prog W 0 (fun _ => true) true 35 v d p) :
    ∃ (n : Int) (a : Option Addr) (ws : List Nat) (cap : Nat), v = .agg #[.int .i64 n, .slice a ws.length cap] ∧ WB ws ∧ Wd W.heap.size W a ws := by
  obtain ⟨c0, c1, y0, y1, m, rfl, _, _, hy0, hy1⟩ := open_agg2 Tryd.underlying35 (by kernel_rfl) cellsRset hv h
  obtain ⟨n, e0, _, wn⟩ := DataW.trod_int Tryd.underlying3 hy0
  simp at e0
  subst e0
  rcases open_ints Tryd.underlying33 Tryd.underlying85 cellsU64 hy1 with ⟨hcs, _⟩ | ⟨a, len, cap, zs, hcs, _, hl, hm, hz, _, hcell, hwf⟩
  · simp at hcs
    subst hcs
    exact ⟨n, none, [], 0, rfl, fun _ hx => (by cases hx), Wd.nil _ _ _⟩
  · simp at hcs
    subst hcs
    simp only [if_true] at hz
    have hb : ∀ z ∈ zs, 0 ≤ z ∧ z < 18446744073709551616 := fun z hzm => by
      have := hwf z hzm
      simp [Lit.wf, IntKind.min, IntKind.max, IntKind.signed, IntKind.bits] at this
      omega
    refine ⟨n, some a, (zs.take len).map Int.toNat, cap, ?_, ?_, ?_⟩
    · simp; omega
    · intro x hx
      obtain ⟨z, hzm, rfl⟩ := List.mem_map.1 hx
      have := hb z (List.mem_of_mem_take hzm)
      show z.toNat < M64
      unfold M64
      omega
    · intro j hj
      have hj' : j < len := by simp at hj; omega
      have hjz : j < zs.length := by omega
      obtain ⟨b, off, rfl, hc⟩ := ints_at hcell (by omega)
      have hcj := hc j hjz
      refine ⟨b, off, rfl, block_lt_of_cell hcj, ?_⟩
      rw [hcj]
      have hz0 := (hb zs[j] (List.getElem_mem hjz)).1
      have e1 : zs.getD j 0 = zs[j] := by simp [List.getD, hjz]
      have e2 : ((zs.take len).map Int.toNat)[j]?.getD 0 = zs[j].toNat := by
        rw [List.getElem?_map, List.getElem?_take_of_lt hj']
        simp [hjz]
      rw [e1, e2, Int.toNat_of_nonneg hz0]
set_option maxRecDepth 100000 in
/-- A slice of numbers that came in, opened. -/
theorem open_list {H : Type} {enc : TypeId × Value → H} {W : World} {a1 : Option Addr} {len cap : Nat} {d : DataW H} {p : List MemPlace}
    (h : DataW.Trod enc Tryd.prog W 0 (fun _ => true) true 29 (.slice a1 len cap) d p) : ∃ l : List Int, l.length = len ∧ l.length ≤ maxLen ∧ Is W.heap.size W a1 l := by
  obtain ⟨fuel, hf⟩ := h
  rcases open_ints Tryd.underlying29 Tryd.underlying3 cells3 hf with ⟨hcs, _⟩ | ⟨a, len', cap', zs, hcs, _, hl, hm, hz, _, hcell, _⟩
  · simp [Value.cells] at hcs
    obtain ⟨rfl, rfl, rfl⟩ := hcs
    exact ⟨[], rfl, Nat.zero_le _, fun j hj => absurd hj (Nat.not_lt_zero _)⟩
  · simp [Value.cells] at hcs
    obtain ⟨rfl, rfl, rfl⟩ := hcs
    simp only [if_true] at hz
    refine ⟨zs.take len, by simp; omega, by simp; omega, fun j hj => ?_⟩
    have hj' : j < len := by simp at hj; omega
    obtain ⟨b, off, rfl, hc⟩ := ints_at hcell (by omega)
    have hcj := hc j (by omega)
    refine ⟨b, off, rfl, block_lt_of_cell hcj, ?_⟩
    rw [hcj, List.getElem?_take_of_lt hj']
    rfl

set_option maxRecDepth 100000 in
/-- An instruction that came in, opened. -/
theorem open_instr {H : Type} {enc : TypeId × Value → H} {W : World} {base : Nat} {v : Value} {d : DataW H} {p : List MemPlace}
    (hv : Value.okWide Tryd.prog W .any base 24 v) (h : DataW.Trod enc Tryd.prog W 0 (fun _ => true) true 24 v d p) : ∃ i : Ins, v = i.val := by
  obtain ⟨i, rfl⟩ := open_ins Tryd.underlying24 cellsInstr Tryd.underlying3 cells3 Tryd.underlying22 cellsArr3 rfl rfl hv h
  exact ⟨i, rfl⟩
end Go.Proofs.YtmcbedlmgffckaaDoor.Bi
