/-
  DERIVED. GIVEN WITH THE SEED: THE CARDS: each row of YtjlofjoekpoepaaDoorRows.lean that lists a variable, with what it lists TIED to the program's text (the seventh form; the later family's looks); each row that meets fmt, with fmt's text TOLD by the authors' own Lean function (tested against real Go, not proved from fmt's source: count such statements apart). THE CARD IS WHAT COUNTS. Prove the row's statement (the work); the ties are given (YtjlofjoekpoepaaDoorTie.lean); close each card by the builder's one call (the guide's Derived/Test/ToyasCard.lean, 'card_holds'). Laid BY PROGRAM, IN A SANDBOX (cutbox-door.mjs). By AI agents, Wed Nov 11 2026. No macro, syntax, notation, axiom, sorry.
-/
import Derived.Test.YtjlofjoekpoepaaDoorRows
import GoSem.ClaimSeven
namespace Go.Proofs.YtjlofjoekpoepaaDoor
namespace Rows

/-- THE TIED CARD OF 'bywashlaw01.BitsAre'. -/
def bitsAreCard : Claim7 := { stood := { row := bitsAreRow, standIns := [], harness := (true, "33250eecee2c35d7612bc5109aeeb3f8d47acf11eddc35fa04365aafc14cdc77"), looks := false }, kinds := [], alts := [], laidByText := true, laidKinds := [.data], laidTests := true, laidLooks := .later }
def BitsAreCardSaid : Prop := Claim7.holds Tryd.pinned (.plain (OpenSpec.ofChange bitsAreSpec)) bitsAreCard

/-- THE TIED CARD OF 'bywashlaw01.BitsTwo'. -/
def bitsTwoCard : Claim7 := { stood := { row := bitsTwoRow, standIns := [], harness := (true, "33250eecee2c35d7612bc5109aeeb3f8d47acf11eddc35fa04365aafc14cdc77"), looks := false }, kinds := [], alts := [], laidByText := true, laidKinds := [.data], laidTests := true, laidLooks := .later }
def BitsTwoCardSaid : Prop := Claim7.holds Tryd.pinned (.plain (OpenSpec.ofChange bitsTwoSpec)) bitsTwoCard

/-- THE TIED CARD OF 'bywashlaw01.BitsOne'. -/
def bitsOneCard : Claim7 := { stood := { row := bitsOneRow, standIns := [], harness := (true, "33250eecee2c35d7612bc5109aeeb3f8d47acf11eddc35fa04365aafc14cdc77"), looks := false }, kinds := [], alts := [], laidByText := true, laidKinds := [.data], laidTests := true, laidLooks := .later }
def BitsOneCardSaid : Prop := Claim7.holds Tryd.pinned (.plain (OpenSpec.ofChange bitsOneSpec)) bitsOneCard

/-- THE TIED CARD OF 'bywashlaw01.BitsLattice'. -/
def bitsLatticeCard : Claim7 := { stood := { row := bitsLatticeRow, standIns := [], harness := (true, "33250eecee2c35d7612bc5109aeeb3f8d47acf11eddc35fa04365aafc14cdc77"), looks := false }, kinds := [], alts := [], laidByText := true, laidKinds := [.data], laidTests := true, laidLooks := .later }
def BitsLatticeCardSaid : Prop := Claim7.holds Tryd.pinned (.plain (OpenSpec.ofChange bitsLatticeSpec)) bitsLatticeCard

/-- THE TIED CARD OF 'bywashlaw01.BitsList'. -/
def bitsListCard : Claim7 := { stood := { row := bitsListRow, standIns := [], harness := (true, "33250eecee2c35d7612bc5109aeeb3f8d47acf11eddc35fa04365aafc14cdc77"), looks := false }, kinds := [], alts := [], laidByText := true, laidKinds := [.data], laidTests := true, laidLooks := .later }
def BitsListCardSaid : Prop := Claim7.holds Tryd.pinned (.plain (OpenSpec.ofChange bitsListSpec)) bitsListCard

/-- THE TIED CARD OF 'bywashlaw01.BitsChain'. -/
def bitsChainCard : Claim7 := { stood := { row := bitsChainRow, standIns := [], harness := (true, "33250eecee2c35d7612bc5109aeeb3f8d47acf11eddc35fa04365aafc14cdc77"), looks := false }, kinds := [], alts := [], laidByText := true, laidKinds := [.data], laidTests := true, laidLooks := .later }
def BitsChainCardSaid : Prop := Claim7.holds Tryd.pinned (.plain (OpenSpec.ofChange bitsChainSpec)) bitsChainCard

/-- THE TIED CARD OF 'bywashlaw01.BitsMinus'. -/
def bitsMinusCard : Claim7 := { stood := { row := bitsMinusRow, standIns := [], harness := (true, "33250eecee2c35d7612bc5109aeeb3f8d47acf11eddc35fa04365aafc14cdc77"), looks := false }, kinds := [], alts := [], laidByText := true, laidKinds := [.data], laidTests := true, laidLooks := .later }
def BitsMinusCardSaid : Prop := Claim7.holds Tryd.pinned (.plain (OpenSpec.ofChange bitsMinusSpec)) bitsMinusCard

/-- THE SECOND FORM's CARD OF 'bywashlaw01.BitsAre'. -/
def bitsAreUptoCard : Claim7 := { stood := { row := bitsAreUptoRow, standIns := [], harness := (true, "33250eecee2c35d7612bc5109aeeb3f8d47acf11eddc35fa04365aafc14cdc77"), looks := false }, kinds := [], alts := [], laidByText := true, laidKinds := [.data], laidTests := true, laidLooks := .later }
def BitsAreUptoCardSaid : Prop := Claim7.holds Tryd.pinned (.plain (OpenSpec.upto bitsAreSpec)) bitsAreUptoCard

/-- THE SECOND FORM's CARD OF 'bywashlaw01.BitsTwo'. -/
def bitsTwoUptoCard : Claim7 := { stood := { row := bitsTwoUptoRow, standIns := [], harness := (true, "33250eecee2c35d7612bc5109aeeb3f8d47acf11eddc35fa04365aafc14cdc77"), looks := false }, kinds := [], alts := [], laidByText := true, laidKinds := [.data], laidTests := true, laidLooks := .later }
def BitsTwoUptoCardSaid : Prop := Claim7.holds Tryd.pinned (.plain (OpenSpec.upto bitsTwoSpec)) bitsTwoUptoCard

/-- THE SECOND FORM's CARD OF 'bywashlaw01.BitsOne'. -/
def bitsOneUptoCard : Claim7 := { stood := { row := bitsOneUptoRow, standIns := [], harness := (true, "33250eecee2c35d7612bc5109aeeb3f8d47acf11eddc35fa04365aafc14cdc77"), looks := false }, kinds := [], alts := [], laidByText := true, laidKinds := [.data], laidTests := true, laidLooks := .later }
def BitsOneUptoCardSaid : Prop := Claim7.holds Tryd.pinned (.plain (OpenSpec.upto bitsOneSpec)) bitsOneUptoCard

/-- THE SECOND FORM's CARD OF 'bywashlaw01.BitsLattice'. -/
def bitsLatticeUptoCard : Claim7 := { stood := { row := bitsLatticeUptoRow, standIns := [], harness := (true, "33250eecee2c35d7612bc5109aeeb3f8d47acf11eddc35fa04365aafc14cdc77"), looks := false }, kinds := [], alts := [], laidByText := true, laidKinds := [.data], laidTests := true, laidLooks := .later }
def BitsLatticeUptoCardSaid : Prop := Claim7.holds Tryd.pinned (.plain (OpenSpec.upto bitsLatticeSpec)) bitsLatticeUptoCard

/-- THE SECOND FORM's CARD OF 'bywashlaw01.BitsList'. -/
def bitsListUptoCard : Claim7 := { stood := { row := bitsListUptoRow, standIns := [], harness := (true, "33250eecee2c35d7612bc5109aeeb3f8d47acf11eddc35fa04365aafc14cdc77"), looks := false }, kinds := [], alts := [], laidByText := true, laidKinds := [.data], laidTests := true, laidLooks := .later }
def BitsListUptoCardSaid : Prop := Claim7.holds Tryd.pinned (.plain (OpenSpec.upto bitsListSpec)) bitsListUptoCard

/-- THE SECOND FORM's CARD OF 'bywashlaw01.BitsChain'. -/
def bitsChainUptoCard : Claim7 := { stood := { row := bitsChainUptoRow, standIns := [], harness := (true, "33250eecee2c35d7612bc5109aeeb3f8d47acf11eddc35fa04365aafc14cdc77"), looks := false }, kinds := [], alts := [], laidByText := true, laidKinds := [.data], laidTests := true, laidLooks := .later }
def BitsChainUptoCardSaid : Prop := Claim7.holds Tryd.pinned (.plain (OpenSpec.upto bitsChainSpec)) bitsChainUptoCard

/-- THE SECOND FORM's CARD OF 'bywashlaw01.BitsMinus'. -/
def bitsMinusUptoCard : Claim7 := { stood := { row := bitsMinusUptoRow, standIns := [], harness := (true, "33250eecee2c35d7612bc5109aeeb3f8d47acf11eddc35fa04365aafc14cdc77"), looks := false }, kinds := [], alts := [], laidByText := true, laidKinds := [.data], laidTests := true, laidLooks := .later }
def BitsMinusUptoCardSaid : Prop := Claim7.holds Tryd.pinned (.plain (OpenSpec.upto bitsMinusSpec)) bitsMinusUptoCard
end Rows
end Go.Proofs.YtjlofjoekpoepaaDoor
