/-
  DERIVED. GIVEN WITH THE SEED: THE CARDS: each row of YtmcbedlmgffckaaGreatDoorRows.lean that lists a variable, with what it lists TIED to the program's text (the seventh form; the later family's looks); each row that meets fmt, with fmt's text TOLD by the authors' own Lean function (tested against real Go, not proved from fmt's source: count such statements apart). THE CARD IS WHAT COUNTS. Prove the row's statement (the work); the ties are given (YtmcbedlmgffckaaGreatDoorTie.lean); close each card by the builder's one call (the guide's Derived/Test/ToyasCard.lean, 'card_holds'). Laid BY PROGRAM, IN A SANDBOX (cutbox-door.mjs). By AI agents, Wed Nov 11 2026. No macro, syntax, notation, axiom, sorry.
-/
import Derived.Test.YtmcbedlmgffckaaGreatDoorRows
import GoSem.ClaimSeven
namespace Go.Proofs.YtmcbedlmgffckaaGreatDoor
namespace Rows

/-- THE TIED CARD OF 'bywashlaw05.InstrEnvs'. -/
def instrEnvsCard : Claim7 := { stood := { row := instrEnvsRow, standIns := [], harness := (true, "81b6686960187ecbdb0b0b1c55114ea8a9e04a15bbb91ebab35f3b27b8046ff3"), looks := false }, kinds := [], alts := [], laidByText := true, laidKinds := [.data, .data, .data], laidTests := true, laidLooks := .later }
def InstrEnvsCardSaid : Prop := Claim7.holds Tryz.pinned (.plain (OpenSpec.ofChange instrEnvsSpec)) instrEnvsCard

/-- THE SECOND FORM's CARD OF 'bywashlaw05.InstrEnvs'. -/
def instrEnvsUptoCard : Claim7 := { stood := { row := instrEnvsUptoRow, standIns := [], harness := (true, "81b6686960187ecbdb0b0b1c55114ea8a9e04a15bbb91ebab35f3b27b8046ff3"), looks := false }, kinds := [], alts := [], laidByText := true, laidKinds := [.data, .data, .data], laidTests := true, laidLooks := .later }
def InstrEnvsUptoCardSaid : Prop := Claim7.holds Tryz.pinned (.plain (OpenSpec.upto instrEnvsSpec)) instrEnvsUptoCard
end Rows
end Go.Proofs.YtmcbedlmgffckaaGreatDoor
