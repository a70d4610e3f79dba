/-
  DERIVED. GIVEN WITH THE SEED: THE CARDS: each row of YtkcgbdggipijlaaDoorRows.lean that lists a variable, with what it lists TIED to the program's text (the seventh form; the later family's looks); each row that meets fmt, with fmt's text TOLD by the authors' own Lean function (tested against real Go, not proved from fmt's source: count such statements apart). THE CARD IS WHAT COUNTS. Prove the row's statement (the work); the ties are given (YtkcgbdggipijlaaDoorTie.lean); close each card by the builder's one call (the guide's Derived/Test/ToyasCard.lean, 'card_holds'). Laid BY PROGRAM, IN A SANDBOX (cutbox-door.mjs). By AI agents, Wed Nov 11 2026. No macro, syntax, notation, axiom, sorry.
-/
import Derived.Test.YtkcgbdggipijlaaDoorRows
import GoSem.ClaimSeven
namespace Go.Proofs.YtkcgbdggipijlaaDoor
namespace Rows

/-- THE TIED CARD OF 'bywashlaw03.SignIs'. -/
def signIsCard : Claim7 := { stood := { row := signIsRow, standIns := [], harness := (true, "8578a5b3a3e44419df5cb614d157ca4d77214b2b2d2793dc8b76531f435900c6"), looks := false }, kinds := [], alts := [], laidByText := true, laidKinds := [.data, .data], laidTests := true, laidLooks := .later }
def SignIsCardSaid : Prop := Claim7.holds Tryd.pinned (.plain (OpenSpec.ofChange signIsSpec)) signIsCard

/-- THE TIED CARD OF 'bywashlaw03.SignTells'. -/
def signTellsCard : Claim7 := { stood := { row := signTellsRow, standIns := [], harness := (true, "8578a5b3a3e44419df5cb614d157ca4d77214b2b2d2793dc8b76531f435900c6"), looks := false }, kinds := [], alts := [], laidByText := true, laidKinds := [.data, .data], laidTests := true, laidLooks := .later }
def SignTellsCardSaid : Prop := Claim7.holds Tryd.pinned (.plain (OpenSpec.ofChange signTellsSpec)) signTellsCard

/-- THE TIED CARD OF 'bywashlaw03.SignRises'. -/
def signRisesCard : Claim7 := { stood := { row := signRisesRow, standIns := [], harness := (true, "8578a5b3a3e44419df5cb614d157ca4d77214b2b2d2793dc8b76531f435900c6"), looks := false }, kinds := [], alts := [], laidByText := true, laidKinds := [.data, .data], laidTests := true, laidLooks := .later }
def SignRisesCardSaid : Prop := Claim7.holds Tryd.pinned (.plain (OpenSpec.ofChange signRisesSpec)) signRisesCard

/-- THE TIED CARD OF 'bywashlaw03.SignList'. -/
def signListCard : Claim7 := { stood := { row := signListRow, standIns := [], harness := (true, "8578a5b3a3e44419df5cb614d157ca4d77214b2b2d2793dc8b76531f435900c6"), looks := false }, kinds := [], alts := [], laidByText := true, laidKinds := [.data, .data], laidTests := true, laidLooks := .later }
def SignListCardSaid : Prop := Claim7.holds Tryd.pinned (.plain (OpenSpec.ofChange signListSpec)) signListCard

/-- THE TIED CARD OF 'bywashlaw03.SignMakes'. -/
def signMakesCard : Claim7 := { stood := { row := signMakesRow, standIns := [], harness := (true, "8578a5b3a3e44419df5cb614d157ca4d77214b2b2d2793dc8b76531f435900c6"), looks := false }, kinds := [], alts := [], laidByText := true, laidKinds := [.data, .data], laidTests := true, laidLooks := .later }
def SignMakesCardSaid : Prop := Claim7.holds Tryd.pinned (.plain (OpenSpec.ofChange signMakesSpec)) signMakesCard

/-- THE TIED CARD OF 'bywashlaw03.SignFlat'. -/
def signFlatCard : Claim7 := { stood := { row := signFlatRow, standIns := [], harness := (true, "8578a5b3a3e44419df5cb614d157ca4d77214b2b2d2793dc8b76531f435900c6"), looks := false }, kinds := [], alts := [], laidByText := true, laidKinds := [.data, .data], laidTests := true, laidLooks := .later }
def SignFlatCardSaid : Prop := Claim7.holds Tryd.pinned (.plain (OpenSpec.ofChange signFlatSpec)) signFlatCard

/-- THE SECOND FORM's CARD OF 'bywashlaw03.SignIs'. -/
def signIsUptoCard : Claim7 := { stood := { row := signIsUptoRow, standIns := [], harness := (true, "8578a5b3a3e44419df5cb614d157ca4d77214b2b2d2793dc8b76531f435900c6"), looks := false }, kinds := [], alts := [], laidByText := true, laidKinds := [.data, .data], laidTests := true, laidLooks := .later }
def SignIsUptoCardSaid : Prop := Claim7.holds Tryd.pinned (.plain (OpenSpec.upto signIsSpec)) signIsUptoCard

/-- THE SECOND FORM's CARD OF 'bywashlaw03.SignTells'. -/
def signTellsUptoCard : Claim7 := { stood := { row := signTellsUptoRow, standIns := [], harness := (true, "8578a5b3a3e44419df5cb614d157ca4d77214b2b2d2793dc8b76531f435900c6"), looks := false }, kinds := [], alts := [], laidByText := true, laidKinds := [.data, .data], laidTests := true, laidLooks := .later }
def SignTellsUptoCardSaid : Prop := Claim7.holds Tryd.pinned (.plain (OpenSpec.upto signTellsSpec)) signTellsUptoCard

/-- THE SECOND FORM's CARD OF 'bywashlaw03.SignRises'. -/
def signRisesUptoCard : Claim7 := { stood := { row := signRisesUptoRow, standIns := [], harness := (true, "8578a5b3a3e44419df5cb614d157ca4d77214b2b2d2793dc8b76531f435900c6"), looks := false }, kinds := [], alts := [], laidByText := true, laidKinds := [.data, .data], laidTests := true, laidLooks := .later }
def SignRisesUptoCardSaid : Prop := Claim7.holds Tryd.pinned (.plain (OpenSpec.upto signRisesSpec)) signRisesUptoCard

/-- THE SECOND FORM's CARD OF 'bywashlaw03.SignList'. -/
def signListUptoCard : Claim7 := { stood := { row := signListUptoRow, standIns := [], harness := (true, "8578a5b3a3e44419df5cb614d157ca4d77214b2b2d2793dc8b76531f435900c6"), looks := false }, kinds := [], alts := [], laidByText := true, laidKinds := [.data, .data], laidTests := true, laidLooks := .later }
def SignListUptoCardSaid : Prop := Claim7.holds Tryd.pinned (.plain (OpenSpec.upto signListSpec)) signListUptoCard

/-- THE SECOND FORM's CARD OF 'bywashlaw03.SignMakes'. -/
def signMakesUptoCard : Claim7 := { stood := { row := signMakesUptoRow, standIns := [], harness := (true, "8578a5b3a3e44419df5cb614d157ca4d77214b2b2d2793dc8b76531f435900c6"), looks := false }, kinds := [], alts := [], laidByText := true, laidKinds := [.data, .data], laidTests := true, laidLooks := .later }
def SignMakesUptoCardSaid : Prop := Claim7.holds Tryd.pinned (.plain (OpenSpec.upto signMakesSpec)) signMakesUptoCard

/-- THE SECOND FORM's CARD OF 'bywashlaw03.SignFlat'. -/
def signFlatUptoCard : Claim7 := { stood := { row := signFlatUptoRow, standIns := [], harness := (true, "8578a5b3a3e44419df5cb614d157ca4d77214b2b2d2793dc8b76531f435900c6"), looks := false }, kinds := [], alts := [], laidByText := true, laidKinds := [.data, .data], laidTests := true, laidLooks := .later }
def SignFlatUptoCardSaid : Prop := Claim7.holds Tryd.pinned (.plain (OpenSpec.upto signFlatSpec)) signFlatUptoCard
end Rows
end Go.Proofs.YtkcgbdggipijlaaDoor
