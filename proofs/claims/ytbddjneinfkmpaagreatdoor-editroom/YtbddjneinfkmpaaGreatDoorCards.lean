/-
  DERIVED. GIVEN WITH THE SEED: THE CARDS: each row of YtbddjneinfkmpaaGreatDoorRows.lean that lists a variable, with what it lists TIED to the program's text (the seventh form; the later family's looks); each row that meets fmt, with fmt's text TOLD by the authors' own Lean function (tested against real Go, not proved from fmt's source: count such statements apart). THE CARD IS WHAT COUNTS. Prove the row's statement (the work); the ties are given (YtbddjneinfkmpaaGreatDoorTie.lean); close each card by the builder's one call (the guide's Derived/Test/ToyasCard.lean, 'card_holds'). Laid BY PROGRAM, IN A SANDBOX (cutbox-door.mjs). By AI agents, Wed Nov 11 2026. No macro, syntax, notation, axiom, sorry.
-/
import Derived.Test.YtbddjneinfkmpaaGreatDoorRows
import GoSem.ClaimSeven
namespace Go.Proofs.YtbddjneinfkmpaaGreatDoor
namespace Rows

/-- THE TIED CARD OF 'bywashlaw06.ProgIs'. -/
def progIsCard : Claim7 := { stood := { row := progIsRow, standIns := [], harness := (true, "9eed5c7939d7b517554017b99db30e04a2e0cc654cd36e0be5133585a26c41c8"), looks := true }, kinds := [], alts := [], laidByText := true, laidKinds := [.handle, .data], laidTests := true, laidLooks := .later }
def ProgIsCardSaid : Prop := Claim7.holds Tryz.pinned (.plain (OpenSpec.ofChange progIsSpec)) progIsCard

/-- THE TIED CARD OF 'bywashlaw07.EditIs'. -/
def editIsCard : Claim7 := { stood := { row := editIsRow, standIns := [], harness := (true, "9eed5c7939d7b517554017b99db30e04a2e0cc654cd36e0be5133585a26c41c8"), looks := true }, kinds := [], alts := [], laidByText := true, laidKinds := [.handle, .data, .data], laidTests := true, laidLooks := .later }
def EditIsCardSaid : Prop := Claim7.holds Tryz.pinned (.plain (OpenSpec.ofChange editIsSpec)) editIsCard

/-- THE TIED CARD OF 'bywashlaw07.EditRoom'. -/
def editRoomCard : Claim7 := { stood := { row := editRoomRow, standIns := [], harness := (true, "9eed5c7939d7b517554017b99db30e04a2e0cc654cd36e0be5133585a26c41c8"), looks := true }, kinds := [], alts := [], laidByText := true, laidKinds := [.handle, .data, .data], laidTests := true, laidLooks := .later }
def EditRoomCardSaid : Prop := Claim7.holds Tryz.pinned (.plain (OpenSpec.ofChange editRoomSpec)) editRoomCard

/-- THE TIED CARD OF 'bywashlaw08.ApplyIs'. -/
def applyIsCard : Claim7 := { stood := { row := applyIsRow, standIns := [], harness := (true, "9eed5c7939d7b517554017b99db30e04a2e0cc654cd36e0be5133585a26c41c8"), looks := true }, kinds := [], alts := [], laidByText := true, laidKinds := [.handle, .data], laidTests := true, laidLooks := .later }
def ApplyIsCardSaid : Prop := Claim7.holds Tryz.pinned (.plain (OpenSpec.ofChange applyIsSpec)) applyIsCard

/-- THE TIED CARD OF 'bywashlaw08.ApplyAll'. -/
def applyAllCard : Claim7 := { stood := { row := applyAllRow, standIns := [], harness := (true, "9eed5c7939d7b517554017b99db30e04a2e0cc654cd36e0be5133585a26c41c8"), looks := true }, kinds := [], alts := [], laidByText := true, laidKinds := [.handle, .data], laidTests := true, laidLooks := .later }
def ApplyAllCardSaid : Prop := Claim7.holds Tryz.pinned (.plain (OpenSpec.ofChange applyAllSpec)) applyAllCard

/-- THE TIED CARD OF 'bywashlaw08.ApplyUndone'. -/
def applyUndoneCard : Claim7 := { stood := { row := applyUndoneRow, standIns := [], harness := (true, "9eed5c7939d7b517554017b99db30e04a2e0cc654cd36e0be5133585a26c41c8"), looks := true }, kinds := [], alts := [], laidByText := true, laidKinds := [.handle, .data], laidTests := true, laidLooks := .later }
def ApplyUndoneCardSaid : Prop := Claim7.holds Tryz.pinned (.plain (OpenSpec.ofChange applyUndoneSpec)) applyUndoneCard

/-- THE TIED CARD OF 'bywashlaw08.ApplyOne'. -/
def applyOneCard : Claim7 := { stood := { row := applyOneRow, standIns := [], harness := (true, "9eed5c7939d7b517554017b99db30e04a2e0cc654cd36e0be5133585a26c41c8"), looks := true }, kinds := [], alts := [], laidByText := true, laidKinds := [.handle, .data], laidTests := true, laidLooks := .later }
def ApplyOneCardSaid : Prop := Claim7.holds Tryz.pinned (.plain (OpenSpec.ofChange applyOneSpec)) applyOneCard

/-- THE TIED CARD OF 'bywashlaw08.ApplyCounts'. -/
def applyCountsCard : Claim7 := { stood := { row := applyCountsRow, standIns := [], harness := (true, "9eed5c7939d7b517554017b99db30e04a2e0cc654cd36e0be5133585a26c41c8"), looks := true }, kinds := [], alts := [], laidByText := true, laidKinds := [.handle, .data], laidTests := true, laidLooks := .later }
def ApplyCountsCardSaid : Prop := Claim7.holds Tryz.pinned (.plain (OpenSpec.ofChange applyCountsSpec)) applyCountsCard

/-- THE TIED CARD OF 'bywashlaw08.ApplyEdges'. -/
def applyEdgesCard : Claim7 := { stood := { row := applyEdgesRow, standIns := [], harness := (true, "9eed5c7939d7b517554017b99db30e04a2e0cc654cd36e0be5133585a26c41c8"), looks := true }, kinds := [], alts := [], laidByText := true, laidKinds := [.handle, .data], laidTests := true, laidLooks := .later }
def ApplyEdgesCardSaid : Prop := Claim7.holds Tryz.pinned (.plain (OpenSpec.ofChange applyEdgesSpec)) applyEdgesCard

/-- THE TIED CARD OF 'bywashlaw08.ApplyCode'. -/
def applyCodeCard : Claim7 := { stood := { row := applyCodeRow, standIns := [], harness := (true, "9eed5c7939d7b517554017b99db30e04a2e0cc654cd36e0be5133585a26c41c8"), looks := true }, kinds := [], alts := [], laidByText := true, laidKinds := [.handle, .data], laidTests := true, laidLooks := .later }
def ApplyCodeCardSaid : Prop := Claim7.holds Tryz.pinned (.plain (OpenSpec.ofChange applyCodeSpec)) applyCodeCard

/-- THE SECOND FORM's CARD OF 'bywashlaw06.ProgIs'. -/
def progIsUptoCard : Claim7 := { stood := { row := progIsUptoRow, standIns := [], harness := (true, "9eed5c7939d7b517554017b99db30e04a2e0cc654cd36e0be5133585a26c41c8"), looks := true }, kinds := [], alts := [], laidByText := true, laidKinds := [.handle, .data], laidTests := true, laidLooks := .later }
def ProgIsUptoCardSaid : Prop := Claim7.holds Tryz.pinned (.plain (OpenSpec.upto progIsSpec)) progIsUptoCard

/-- THE SECOND FORM's CARD OF 'bywashlaw07.EditIs'. -/
def editIsUptoCard : Claim7 := { stood := { row := editIsUptoRow, standIns := [], harness := (true, "9eed5c7939d7b517554017b99db30e04a2e0cc654cd36e0be5133585a26c41c8"), looks := true }, kinds := [], alts := [], laidByText := true, laidKinds := [.handle, .data, .data], laidTests := true, laidLooks := .later }
def EditIsUptoCardSaid : Prop := Claim7.holds Tryz.pinned (.plain (OpenSpec.upto editIsSpec)) editIsUptoCard

/-- THE SECOND FORM's CARD OF 'bywashlaw07.EditRoom'. -/
def editRoomUptoCard : Claim7 := { stood := { row := editRoomUptoRow, standIns := [], harness := (true, "9eed5c7939d7b517554017b99db30e04a2e0cc654cd36e0be5133585a26c41c8"), looks := true }, kinds := [], alts := [], laidByText := true, laidKinds := [.handle, .data, .data], laidTests := true, laidLooks := .later }
def EditRoomUptoCardSaid : Prop := Claim7.holds Tryz.pinned (.plain (OpenSpec.upto editRoomSpec)) editRoomUptoCard

/-- THE SECOND FORM's CARD OF 'bywashlaw08.ApplyIs'. -/
def applyIsUptoCard : Claim7 := { stood := { row := applyIsUptoRow, standIns := [], harness := (true, "9eed5c7939d7b517554017b99db30e04a2e0cc654cd36e0be5133585a26c41c8"), looks := true }, kinds := [], alts := [], laidByText := true, laidKinds := [.handle, .data], laidTests := true, laidLooks := .later }
def ApplyIsUptoCardSaid : Prop := Claim7.holds Tryz.pinned (.plain (OpenSpec.upto applyIsSpec)) applyIsUptoCard

/-- THE SECOND FORM's CARD OF 'bywashlaw08.ApplyAll'. -/
def applyAllUptoCard : Claim7 := { stood := { row := applyAllUptoRow, standIns := [], harness := (true, "9eed5c7939d7b517554017b99db30e04a2e0cc654cd36e0be5133585a26c41c8"), looks := true }, kinds := [], alts := [], laidByText := true, laidKinds := [.handle, .data], laidTests := true, laidLooks := .later }
def ApplyAllUptoCardSaid : Prop := Claim7.holds Tryz.pinned (.plain (OpenSpec.upto applyAllSpec)) applyAllUptoCard

/-- THE SECOND FORM's CARD OF 'bywashlaw08.ApplyUndone'. -/
def applyUndoneUptoCard : Claim7 := { stood := { row := applyUndoneUptoRow, standIns := [], harness := (true, "9eed5c7939d7b517554017b99db30e04a2e0cc654cd36e0be5133585a26c41c8"), looks := true }, kinds := [], alts := [], laidByText := true, laidKinds := [.handle, .data], laidTests := true, laidLooks := .later }
def ApplyUndoneUptoCardSaid : Prop := Claim7.holds Tryz.pinned (.plain (OpenSpec.upto applyUndoneSpec)) applyUndoneUptoCard

/-- THE SECOND FORM's CARD OF 'bywashlaw08.ApplyOne'. -/
def applyOneUptoCard : Claim7 := { stood := { row := applyOneUptoRow, standIns := [], harness := (true, "9eed5c7939d7b517554017b99db30e04a2e0cc654cd36e0be5133585a26c41c8"), looks := true }, kinds := [], alts := [], laidByText := true, laidKinds := [.handle, .data], laidTests := true, laidLooks := .later }
def ApplyOneUptoCardSaid : Prop := Claim7.holds Tryz.pinned (.plain (OpenSpec.upto applyOneSpec)) applyOneUptoCard

/-- THE SECOND FORM's CARD OF 'bywashlaw08.ApplyCounts'. -/
def applyCountsUptoCard : Claim7 := { stood := { row := applyCountsUptoRow, standIns := [], harness := (true, "9eed5c7939d7b517554017b99db30e04a2e0cc654cd36e0be5133585a26c41c8"), looks := true }, kinds := [], alts := [], laidByText := true, laidKinds := [.handle, .data], laidTests := true, laidLooks := .later }
def ApplyCountsUptoCardSaid : Prop := Claim7.holds Tryz.pinned (.plain (OpenSpec.upto applyCountsSpec)) applyCountsUptoCard

/-- THE SECOND FORM's CARD OF 'bywashlaw08.ApplyEdges'. -/
def applyEdgesUptoCard : Claim7 := { stood := { row := applyEdgesUptoRow, standIns := [], harness := (true, "9eed5c7939d7b517554017b99db30e04a2e0cc654cd36e0be5133585a26c41c8"), looks := true }, kinds := [], alts := [], laidByText := true, laidKinds := [.handle, .data], laidTests := true, laidLooks := .later }
def ApplyEdgesUptoCardSaid : Prop := Claim7.holds Tryz.pinned (.plain (OpenSpec.upto applyEdgesSpec)) applyEdgesUptoCard

/-- THE SECOND FORM's CARD OF 'bywashlaw08.ApplyCode'. -/
def applyCodeUptoCard : Claim7 := { stood := { row := applyCodeUptoRow, standIns := [], harness := (true, "9eed5c7939d7b517554017b99db30e04a2e0cc654cd36e0be5133585a26c41c8"), looks := true }, kinds := [], alts := [], laidByText := true, laidKinds := [.handle, .data], laidTests := true, laidLooks := .later }
def ApplyCodeUptoCardSaid : Prop := Claim7.holds Tryz.pinned (.plain (OpenSpec.upto applyCodeSpec)) applyCodeUptoCard
end Rows
end Go.Proofs.YtbddjneinfkmpaaGreatDoor
