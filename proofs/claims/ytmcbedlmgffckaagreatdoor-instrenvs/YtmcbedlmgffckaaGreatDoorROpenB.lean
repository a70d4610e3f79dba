import Derived.Carry
import Derived.Test.YtmcbedlmgffckaaGreatDoorRBaseI
import Derived.Test.YtmcbedlmgffckaaGreatDoorROpenI
namespace Go.Proofs.YtmcbedlmgffckaaGreatDoor.Bi
open Go.ChangeShapes Go.WideShapes Go.ChangeAt Go.RowKit Go.Joins

theorem cellsInstr : Tryz.prog.cellsOf 30 = 11 := by kernel_rfl
theorem cellsArr3 : Tryz.prog.cellsOf 28 = 3 := by kernel_rfl
set_option maxRecDepth 100000 in
/-- An instruction that came in, opened. -/
theorem open_instr {H : Type} {enc : TypeId × Value → H} {W : World} {base : Nat} {v : Value} {d : DataW H} {p : List MemPlace}
    (hv : Value.okWide Tryz.prog W .any base 30 v) (h : DataW.Trod enc Tryz.prog W 0 (fun _ => true) true 30 v d p) : ∃ i : Ins, v = i.val := by
  obtain ⟨i, rfl⟩ := open_ins Tryz.underlying30 cellsInstr Tryz.underlying3 cells3 Tryz.underlying28 cellsArr3 rfl rfl hv h
  exact ⟨i, rfl⟩
end Go.Proofs.YtmcbedlmgffckaaGreatDoor.Bi
