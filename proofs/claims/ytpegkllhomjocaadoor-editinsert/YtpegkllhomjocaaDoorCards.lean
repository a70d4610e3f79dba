/-
  DERIVED. GIVEN WITH THE SEED: THE CARDS: each row of YtpegkllhomjocaaDoorRows.lean that lists a variable, with what it lists TIED to the program's text (the seventh form; the later family's looks); each row that meets fmt, with fmt's text TOLD by the authors' own Lean function (tested against real Go, not proved from fmt's source: count such statements apart). THE CARD IS WHAT COUNTS. Prove the row's statement (the work); the ties are given (YtpegkllhomjocaaDoorTie.lean); close each card by the builder's one call (the guide's Derived/Test/ToyasCard.lean, 'card_holds'). Laid BY PROGRAM, IN A SANDBOX (cutbox-door.mjs). By AI agents, Wed Nov 11 2026. No macro, syntax, notation, axiom, sorry.
-/
import Derived.Test.YtpegkllhomjocaaDoorRows
import GoSem.ClaimSeven
namespace Go.Proofs.YtpegkllhomjocaaDoor
namespace Rows

/-- THE TIED CARD OF 'bywashlaw07.EditUnread'. -/
def editUnreadCard : Claim7 := { stood := { row := editUnreadRow, standIns := [], harness := (true, "35d166bb12bd5797f854d046995d78085d03cb4aa5afa65ea779b60d4c2b629e"), looks := true }, kinds := [], alts := [], laidByText := true, laidKinds := [.handle, .data, .data], laidTests := true, laidLooks := .later }
def EditUnreadCardSaid : Prop := Claim7.holds Tryd.pinned (.plain (OpenSpec.ofChange editUnreadSpec)) editUnreadCard

/-- THE TIED CARD OF 'bywashlaw07.EditInsert'. -/
def editInsertCard : Claim7 := { stood := { row := editInsertRow, standIns := [], harness := (true, "35d166bb12bd5797f854d046995d78085d03cb4aa5afa65ea779b60d4c2b629e"), looks := true }, kinds := [], alts := [], laidByText := true, laidKinds := [.handle, .data, .data], laidTests := true, laidLooks := .later }
def EditInsertCardSaid : Prop := Claim7.holds Tryd.pinned (.plain (OpenSpec.ofChange editInsertSpec)) editInsertCard

/-- THE SECOND FORM's CARD OF 'bywashlaw07.EditUnread'. -/
def editUnreadUptoCard : Claim7 := { stood := { row := editUnreadUptoRow, standIns := [], harness := (true, "35d166bb12bd5797f854d046995d78085d03cb4aa5afa65ea779b60d4c2b629e"), looks := true }, kinds := [], alts := [], laidByText := true, laidKinds := [.handle, .data, .data], laidTests := true, laidLooks := .later }
def EditUnreadUptoCardSaid : Prop := Claim7.holds Tryd.pinned (.plain (OpenSpec.upto editUnreadSpec)) editUnreadUptoCard

/-- THE SECOND FORM's CARD OF 'bywashlaw07.EditInsert'. -/
def editInsertUptoCard : Claim7 := { stood := { row := editInsertUptoRow, standIns := [], harness := (true, "35d166bb12bd5797f854d046995d78085d03cb4aa5afa65ea779b60d4c2b629e"), looks := true }, kinds := [], alts := [], laidByText := true, laidKinds := [.handle, .data, .data], laidTests := true, laidLooks := .later }
def EditInsertUptoCardSaid : Prop := Claim7.holds Tryd.pinned (.plain (OpenSpec.upto editInsertSpec)) editInsertUptoCard
end Rows
end Go.Proofs.YtpegkllhomjocaaDoor
