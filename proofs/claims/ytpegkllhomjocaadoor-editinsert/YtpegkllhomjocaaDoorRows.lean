/-
  NARROWER THAN 'FOR EVERY INPUT', by the rows' own cells (each row's printed sentence says how): EditUnread: laid · EditInsert: laid.
  DERIVED. THE GIVEN ROWS OF THIS SEAT. 2 by the template 'for every input the law returns true; each argument reads behind the call as it read before'; 0 by the template 'total and deterministic' (their statements: YtpegkllhomjocaaDoorTotals.lean).
  GIVEN WITH THE SEED: the statements are not yours to turn. If you find one false, say at which input.
  Laid BY PROGRAM, IN A SANDBOX (cutbox-rows.mjs): the forced cells as the released guide's own fill.sh prints them over the translation 95a18f4ac5981cac… (all of the seat's roots in one cut). By AI agents, Wed Nov 11 2026. No macro, syntax, notation, axiom, sorry.
-/
import Derived.Test.YtpegkllhomjocaaDoorChecked
import GoSem.Claim
import GoSem.ClaimJoined
import GoSem.ClaimMapViews
import Derived.JoinedTies
import Derived.KernelRfl
namespace Go.Proofs.YtpegkllhomjocaaDoor
/- THE CELL 'sum', in the pinned program and in every row, IS THE sha256 OF THE DUMP (.gsa) THAT YtpegkllhomjocaaDoorProg.lean LOADS. Nothing in Lean hashes anything: it is a label: what it is worth is what the hold of that sum in a sandbox is worth. -/
noncomputable def Tryd.pinned : Pinned := { name := "ytpegkllhomjocaadoor", sum := "95a18f4ac5981cac8040e0e9d5ea996e07b53fea69eb8d840c8d7c27a9657948", checked := Tryd.checked }
namespace Rows
def none {H : Type} : Left H := { results := [], args := [] }

/- WHAT THE LISTED PACKAGE-LEVEL VARIABLES READ AS WHEN THE CALL BEGINS. Each datum BY PROGRAM (the guide's laid-datum.mjs) off the statement by which the dump's own 'gosem.cut.vars' lays the variable. In a bare row this is a premise. The card (YtpegkllhomjocaaDoorCards.lean) ties it to the program's text. -/
def laid_errors_errorType {H : Type} : DataW H := .iface "internal/reflectlite.rtype" (.agg [.ptr (.lit (.string [101, 114, 114, 111, 114]))])
def laid_bywash_instr_kinds {H : Type} : DataW H := .agg [.agg [.lit (.string [99, 111, 110, 115, 116]), .lit (.bool true), .lit (.bool false), .lit (.bool false), .lit (.bool true), .lit (.bool false)], .agg [.lit (.string [99, 111, 112, 121]), .lit (.bool true), .lit (.bool true), .lit (.bool false), .lit (.bool false), .lit (.bool false)], .agg [.lit (.string [110, 101, 103]), .lit (.bool true), .lit (.bool true), .lit (.bool false), .lit (.bool false), .lit (.bool false)], .agg [.lit (.string [97, 100, 100]), .lit (.bool true), .lit (.bool true), .lit (.bool true), .lit (.bool false), .lit (.bool false)], .agg [.lit (.string [115, 117, 98]), .lit (.bool true), .lit (.bool true), .lit (.bool true), .lit (.bool false), .lit (.bool false)], .agg [.lit (.string [109, 117, 108]), .lit (.bool true), .lit (.bool true), .lit (.bool true), .lit (.bool false), .lit (.bool false)], .agg [.lit (.string [105, 110, 112, 117, 116]), .lit (.bool true), .lit (.bool false), .lit (.bool false), .lit (.bool false), .lit (.bool false)], .agg [.lit (.string [99, 97, 108, 108]), .lit (.bool true), .lit (.bool false), .lit (.bool false), .lit (.bool false), .lit (.bool true)], .agg [.lit (.string [117, 115, 101]), .lit (.bool false), .lit (.bool true), .lit (.bool false), .lit (.bool false), .lit (.bool false)], .agg [.lit (.string [114, 101, 116]), .lit (.bool false), .lit (.bool true), .lit (.bool false), .lit (.bool false), .lit (.bool false)]]
def laid_bywash_edit_names {H : Type} : DataW H := .agg [.lit (.string [97, 100, 100, 102, 117, 110]), .lit (.string [97, 100, 100, 98, 108, 111, 99, 107]), .lit (.string [100, 101, 108, 98, 108, 111, 99, 107]), .lit (.string [97, 100, 100, 101, 100, 103, 101]), .lit (.string [100, 101, 108, 101, 100, 103, 101]), .lit (.string [114, 101, 119, 105, 114, 101]), .lit (.string [105, 110, 115, 101, 114, 116]), .lit (.string [100, 101, 108, 101, 116, 101])]

/-- 'bywashlaw07.EditUnread': WHATEVER THE INPUT: true; the input reads as it did. -/
def editUnreadSpec : ChangeSpec := { name := "editUnread", fn := fun _ => fun
  | [d1, d2, d3] => { results := [.lit (.bool true)], args := [d1, d2, d3] }
  | _ => none }
def editUnreadRow : OpenClaim := { program := "ytpegkllhomjocaadoor", sum := "95a18f4ac5981cac8040e0e9d5ea996e07b53fea69eb8d840c8d7c27a9657948", func := "bywash/bywashlaw07.EditUnread", spec := "editUnread", inPlace := ["internal/reflectlite.ValueOf", "(internal/reflectlite.Value).Type", "(internal/reflectlite.Value).IsNil", "internal/reflectlite.TypeOf", "(internal/reflectlite.Value).Elem", "(internal/reflectlite.Value).Set"], unfollowed := true, recurses := true, named := ["bywash/instr.kinds", "errors.errorType", "bywash/edit.names"], apart := false, laid := [("errors.errorType", laid_errors_errorType), ("bywash/instr.kinds", laid_bywash_instr_kinds), ("bywash/edit.names", laid_bywash_edit_names)] }
def EditUnreadSaid : Prop := editUnreadRow.holds Tryd.pinned (OpenSpec.ofChange editUnreadSpec)

/-- ITS FALSE NEIGHBOUR: 'it returns false'. Refute it at one input. -/
def editUnreadWrong : ChangeSpec := { name := "editUnread", fn := fun _ => fun
  | [d1, d2, d3] => { results := [.lit (.bool false)], args := [d1, d2, d3] }
  | _ => none }
def EditUnreadWrongFalsely : Prop := editUnreadRow.holds Tryd.pinned (OpenSpec.ofChange editUnreadWrong)

/-- 'bywashlaw07.EditInsert': WHATEVER THE INPUT: true; the input reads as it did. -/
def editInsertSpec : ChangeSpec := { name := "editInsert", fn := fun _ => fun
  | [d1, d2, d3, d4, d5] => { results := [.lit (.bool true)], args := [d1, d2, d3, d4, d5] }
  | _ => none }
def editInsertRow : OpenClaim := { program := "ytpegkllhomjocaadoor", sum := "95a18f4ac5981cac8040e0e9d5ea996e07b53fea69eb8d840c8d7c27a9657948", func := "bywash/bywashlaw07.EditInsert", spec := "editInsert", inPlace := ["internal/reflectlite.ValueOf", "(internal/reflectlite.Value).Type", "(internal/reflectlite.Value).IsNil", "internal/reflectlite.TypeOf", "(internal/reflectlite.Value).Elem", "(internal/reflectlite.Value).Set"], unfollowed := true, recurses := true, named := ["bywash/instr.kinds", "errors.errorType", "bywash/edit.names"], apart := false, laid := [("errors.errorType", laid_errors_errorType), ("bywash/instr.kinds", laid_bywash_instr_kinds), ("bywash/edit.names", laid_bywash_edit_names)] }
def EditInsertSaid : Prop := editInsertRow.holds Tryd.pinned (OpenSpec.ofChange editInsertSpec)

/-- ITS FALSE NEIGHBOUR: 'it returns false'. Refute it at one input. -/
def editInsertWrong : ChangeSpec := { name := "editInsert", fn := fun _ => fun
  | [d1, d2, d3, d4, d5] => { results := [.lit (.bool false)], args := [d1, d2, d3, d4, d5] }
  | _ => none }
def EditInsertWrongFalsely : Prop := editInsertRow.holds Tryd.pinned (OpenSpec.ofChange editInsertWrong)

/- THE SECOND FORM. 'bulk': how many values and letters a reading holds, each counted each time it is reached (what is shared counts as often as it is met; a slice's spare places count too). A statement '..UptoSaid' is the law's where the arguments, and the package variables that the reading takes, are together of bulk at most 1048576: NARROWER than '..Said'. Prove '..Said' where nothing that the law and all that it calls make is longer than what came in: it says more and counts as full. Else prove '..UptoSaid'. A law counts once. -/
mutual
def uptoBulk {H : Type} : DataW H → Nat
  | .lit (.string bytes) => bytes.length + 1
  | .lit _ => 1
  | .nil => 1
  | .ptr d => uptoBulk d + 1
  | .slice elems spare => uptoBulkAll elems + uptoBulkAll spare + 1
  | .agg parts => uptoBulkAll parts + 1
  | .iface _ d => uptoBulk d + 1
  | .map entries => uptoBulkEntries entries + 1
  | .held _ => 1
def uptoBulkAll {H : Type} : List (DataW H) → Nat
  | [] => 0
  | d :: r => uptoBulk d + uptoBulkAll r
def uptoBulkEntries {H : Type} : List (Lit × DataW H) → Nat
  | [] => 0
  | x :: r => uptoBulkEntry x + uptoBulkEntries r
def uptoBulkEntry {H : Type} : Lit × DataW H → Nat
  | (.string bytes, d) => bytes.length + uptoBulk d + 1
  | (_, d) => uptoBulk d + 1
 end
def uptoSmall : (H : Type) → List (DataW H) → Bool := fun _ ds => decide (uptoBulkAll ds ≤ 1048576)
def OpenSpec.upto (s : _root_.Go.ChangeSpec) : _root_.Go.OpenSpec := { _root_.Go.OpenSpec.ofChange s with cond := some uptoSmall }

/-- 'bywashlaw07.EditUnread', WHERE WHAT IT READS IS OF BULK AT MOST 1048576: true; the input reads as it did. -/
def editUnreadUptoRow : OpenClaim := { program := "ytpegkllhomjocaadoor", sum := "95a18f4ac5981cac8040e0e9d5ea996e07b53fea69eb8d840c8d7c27a9657948", func := "bywash/bywashlaw07.EditUnread", spec := "editUnread", inPlace := ["internal/reflectlite.ValueOf", "(internal/reflectlite.Value).Type", "(internal/reflectlite.Value).IsNil", "internal/reflectlite.TypeOf", "(internal/reflectlite.Value).Elem", "(internal/reflectlite.Value).Set"], unfollowed := true, recurses := true, named := ["bywash/instr.kinds", "errors.errorType", "bywash/edit.names"], apart := false, laid := [("errors.errorType", laid_errors_errorType), ("bywash/instr.kinds", laid_bywash_instr_kinds), ("bywash/edit.names", laid_bywash_edit_names)], narrowed := true }
def EditUnreadUptoSaid : Prop := editUnreadUptoRow.holds Tryd.pinned (OpenSpec.upto editUnreadSpec)

/-- 'bywashlaw07.EditInsert', WHERE WHAT IT READS IS OF BULK AT MOST 1048576: true; the input reads as it did. -/
def editInsertUptoRow : OpenClaim := { program := "ytpegkllhomjocaadoor", sum := "95a18f4ac5981cac8040e0e9d5ea996e07b53fea69eb8d840c8d7c27a9657948", func := "bywash/bywashlaw07.EditInsert", spec := "editInsert", inPlace := ["internal/reflectlite.ValueOf", "(internal/reflectlite.Value).Type", "(internal/reflectlite.Value).IsNil", "internal/reflectlite.TypeOf", "(internal/reflectlite.Value).Elem", "(internal/reflectlite.Value).Set"], unfollowed := true, recurses := true, named := ["bywash/instr.kinds", "errors.errorType", "bywash/edit.names"], apart := false, laid := [("errors.errorType", laid_errors_errorType), ("bywash/instr.kinds", laid_bywash_instr_kinds), ("bywash/edit.names", laid_bywash_edit_names)], narrowed := true }
def EditInsertUptoSaid : Prop := editInsertUptoRow.holds Tryd.pinned (OpenSpec.upto editInsertSpec)

end Rows
end Go.Proofs.YtpegkllhomjocaaDoor
