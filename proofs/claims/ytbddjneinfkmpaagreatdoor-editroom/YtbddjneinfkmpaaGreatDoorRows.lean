/-
  NARROWER THAN 'FOR EVERY INPUT', by the rows' own cells (each row's printed sentence says how): ProgIs: laid · EditIs: laid · EditRoom: laid · ApplyIs: laid · ApplyAll: laid · ApplyUndone: laid · ApplyOne: laid · ApplyCounts: laid · ApplyEdges: laid · ApplyCode: laid.
  DERIVED. THE GIVEN ROWS OF THIS SEAT. 10 by the template 'for every input the law returns true; each argument reads behind the call as it read before'; 0 by the template 'total and deterministic' (their statements: YtbddjneinfkmpaaGreatDoorTotals.lean).
  GIVEN WITH THE SEED: the statements are not yours to turn. If you find one false, say at which input.
  Laid BY PROGRAM, IN A SANDBOX (cutbox-rows.mjs): the forced cells as the released guide's own fill.sh prints them over the translation b388e69383441dc6… (all of the seat's roots in one cut). By AI agents, Wed Nov 11 2026. No macro, syntax, notation, axiom, sorry.
-/
import Derived.Test.YtbddjneinfkmpaaGreatDoorChecked
import GoSem.Claim
import GoSem.ClaimJoined
import GoSem.ClaimMapViews
import Derived.JoinedTies
import Derived.KernelRfl
namespace Go.Proofs.YtbddjneinfkmpaaGreatDoor
/- THE CELL 'sum', in the pinned program and in every row, IS THE sha256 OF THE DUMP (.gsa) THAT YtbddjneinfkmpaaGreatDoorProg.lean LOADS. Nothing in Lean hashes anything: it is a label: what it is worth is what the hold of that sum in a sandbox is worth. -/
noncomputable def Tryz.pinned : Pinned := { name := "ytbddjneinfkmpaagreatdoor", sum := "b388e69383441dc685454816854a081cc8729981ee917b57b8dbe5bd65fcdf0e", checked := Tryz.checked }
namespace Rows
def none {H : Type} : Left H := { results := [], args := [] }

/- WHAT THE LISTED PACKAGE-LEVEL VARIABLES READ AS WHEN THE CALL BEGINS. Each datum BY PROGRAM (the guide's laid-datum.mjs) off the statement by which the dump's own 'gosem.cut.vars' lays the variable. In a bare row this is a premise. The card (YtbddjneinfkmpaaGreatDoorCards.lean) ties it to the program's text. -/
def laid_errors_errorType {H : Type} : DataW H := .iface "internal/reflectlite.rtype" (.agg [.ptr (.lit (.string [101, 114, 114, 111, 114]))])
def laid_bywash_instr_kinds {H : Type} : DataW H := .agg [.agg [.lit (.string [99, 111, 110, 115, 116]), .lit (.bool true), .lit (.bool false), .lit (.bool false), .lit (.bool true), .lit (.bool false)], .agg [.lit (.string [99, 111, 112, 121]), .lit (.bool true), .lit (.bool true), .lit (.bool false), .lit (.bool false), .lit (.bool false)], .agg [.lit (.string [110, 101, 103]), .lit (.bool true), .lit (.bool true), .lit (.bool false), .lit (.bool false), .lit (.bool false)], .agg [.lit (.string [97, 100, 100]), .lit (.bool true), .lit (.bool true), .lit (.bool true), .lit (.bool false), .lit (.bool false)], .agg [.lit (.string [115, 117, 98]), .lit (.bool true), .lit (.bool true), .lit (.bool true), .lit (.bool false), .lit (.bool false)], .agg [.lit (.string [109, 117, 108]), .lit (.bool true), .lit (.bool true), .lit (.bool true), .lit (.bool false), .lit (.bool false)], .agg [.lit (.string [105, 110, 112, 117, 116]), .lit (.bool true), .lit (.bool false), .lit (.bool false), .lit (.bool false), .lit (.bool false)], .agg [.lit (.string [99, 97, 108, 108]), .lit (.bool true), .lit (.bool false), .lit (.bool false), .lit (.bool false), .lit (.bool true)], .agg [.lit (.string [117, 115, 101]), .lit (.bool false), .lit (.bool true), .lit (.bool false), .lit (.bool false), .lit (.bool false)], .agg [.lit (.string [114, 101, 116]), .lit (.bool false), .lit (.bool true), .lit (.bool false), .lit (.bool false), .lit (.bool false)]]
def laid_bywash_edit_names {H : Type} : DataW H := .agg [.lit (.string [97, 100, 100, 102, 117, 110]), .lit (.string [97, 100, 100, 98, 108, 111, 99, 107]), .lit (.string [100, 101, 108, 98, 108, 111, 99, 107]), .lit (.string [97, 100, 100, 101, 100, 103, 101]), .lit (.string [100, 101, 108, 101, 100, 103, 101]), .lit (.string [114, 101, 119, 105, 114, 101]), .lit (.string [105, 110, 115, 101, 114, 116]), .lit (.string [100, 101, 108, 101, 116, 101])]

/-- 'bywashlaw06.ProgIs': WHATEVER THE INPUT: true; the input reads as it did. -/
def progIsSpec : ChangeSpec := { name := "progIs", fn := fun _ => fun
  | [d1, d2, d3, d4, d5] => { results := [.lit (.bool true)], args := [d1, d2, d3, d4, d5] }
  | _ => none }
def progIsRow : OpenClaim := { program := "ytbddjneinfkmpaagreatdoor", sum := "b388e69383441dc685454816854a081cc8729981ee917b57b8dbe5bd65fcdf0e", func := "bywash/bywashlaw06.ProgIs", spec := "progIs", inPlace := ["internal/reflectlite.ValueOf", "(internal/reflectlite.Value).Type", "(internal/reflectlite.Value).IsNil", "internal/reflectlite.TypeOf", "(internal/reflectlite.Value).Elem", "(internal/reflectlite.Value).Set"], unfollowed := true, recurses := true, named := ["bywash/instr.kinds", "errors.errorType"], apart := false, laid := [("errors.errorType", laid_errors_errorType), ("bywash/instr.kinds", laid_bywash_instr_kinds)] }
def ProgIsSaid : Prop := progIsRow.holds Tryz.pinned (OpenSpec.ofChange progIsSpec)

/-- ITS FALSE NEIGHBOUR: 'it returns false'. Refute it at one input. -/
def progIsWrong : ChangeSpec := { name := "progIs", fn := fun _ => fun
  | [d1, d2, d3, d4, d5] => { results := [.lit (.bool false)], args := [d1, d2, d3, d4, d5] }
  | _ => none }
def ProgIsWrongFalsely : Prop := progIsRow.holds Tryz.pinned (OpenSpec.ofChange progIsWrong)

/-- 'bywashlaw07.EditIs': WHATEVER THE INPUT: true; the input reads as it did. -/
def editIsSpec : ChangeSpec := { name := "editIs", fn := fun _ => fun
  | [d1, d2, d3] => { results := [.lit (.bool true)], args := [d1, d2, d3] }
  | _ => none }
def editIsRow : OpenClaim := { program := "ytbddjneinfkmpaagreatdoor", sum := "b388e69383441dc685454816854a081cc8729981ee917b57b8dbe5bd65fcdf0e", func := "bywash/bywashlaw07.EditIs", spec := "editIs", inPlace := ["internal/reflectlite.ValueOf", "(internal/reflectlite.Value).Type", "(internal/reflectlite.Value).IsNil", "internal/reflectlite.TypeOf", "(internal/reflectlite.Value).Elem", "(internal/reflectlite.Value).Set"], unfollowed := true, recurses := true, named := ["bywash/instr.kinds", "errors.errorType", "bywash/edit.names"], apart := false, laid := [("errors.errorType", laid_errors_errorType), ("bywash/instr.kinds", laid_bywash_instr_kinds), ("bywash/edit.names", laid_bywash_edit_names)] }
def EditIsSaid : Prop := editIsRow.holds Tryz.pinned (OpenSpec.ofChange editIsSpec)

/-- ITS FALSE NEIGHBOUR: 'it returns false'. Refute it at one input. -/
def editIsWrong : ChangeSpec := { name := "editIs", fn := fun _ => fun
  | [d1, d2, d3] => { results := [.lit (.bool false)], args := [d1, d2, d3] }
  | _ => none }
def EditIsWrongFalsely : Prop := editIsRow.holds Tryz.pinned (OpenSpec.ofChange editIsWrong)

/-- 'bywashlaw07.EditRoom': WHATEVER THE INPUT: true; the input reads as it did. -/
def editRoomSpec : ChangeSpec := { name := "editRoom", fn := fun _ => fun
  | [d1, d2, d3] => { results := [.lit (.bool true)], args := [d1, d2, d3] }
  | _ => none }
def editRoomRow : OpenClaim := { program := "ytbddjneinfkmpaagreatdoor", sum := "b388e69383441dc685454816854a081cc8729981ee917b57b8dbe5bd65fcdf0e", func := "bywash/bywashlaw07.EditRoom", spec := "editRoom", inPlace := ["internal/reflectlite.ValueOf", "(internal/reflectlite.Value).Type", "(internal/reflectlite.Value).IsNil", "internal/reflectlite.TypeOf", "(internal/reflectlite.Value).Elem", "(internal/reflectlite.Value).Set"], unfollowed := true, recurses := true, named := ["bywash/instr.kinds", "errors.errorType", "bywash/edit.names"], apart := false, laid := [("errors.errorType", laid_errors_errorType), ("bywash/instr.kinds", laid_bywash_instr_kinds), ("bywash/edit.names", laid_bywash_edit_names)] }
def EditRoomSaid : Prop := editRoomRow.holds Tryz.pinned (OpenSpec.ofChange editRoomSpec)

/-- ITS FALSE NEIGHBOUR: 'it returns false'. Refute it at one input. -/
def editRoomWrong : ChangeSpec := { name := "editRoom", fn := fun _ => fun
  | [d1, d2, d3] => { results := [.lit (.bool false)], args := [d1, d2, d3] }
  | _ => none }
def EditRoomWrongFalsely : Prop := editRoomRow.holds Tryz.pinned (OpenSpec.ofChange editRoomWrong)

/-- 'bywashlaw08.ApplyIs': WHATEVER THE INPUT: true; the input reads as it did. -/
def applyIsSpec : ChangeSpec := { name := "applyIs", fn := fun _ => fun
  | [d1, d2] => { results := [.lit (.bool true)], args := [d1, d2] }
  | _ => none }
def applyIsRow : OpenClaim := { program := "ytbddjneinfkmpaagreatdoor", sum := "b388e69383441dc685454816854a081cc8729981ee917b57b8dbe5bd65fcdf0e", func := "bywash/bywashlaw08.ApplyIs", spec := "applyIs", inPlace := ["internal/reflectlite.ValueOf", "(internal/reflectlite.Value).Type", "(internal/reflectlite.Value).IsNil", "internal/reflectlite.TypeOf", "(internal/reflectlite.Value).Elem", "(internal/reflectlite.Value).Set"], unfollowed := true, recurses := true, named := ["bywash/instr.kinds", "errors.errorType"], apart := false, laid := [("errors.errorType", laid_errors_errorType), ("bywash/instr.kinds", laid_bywash_instr_kinds)] }
def ApplyIsSaid : Prop := applyIsRow.holds Tryz.pinned (OpenSpec.ofChange applyIsSpec)

/-- ITS FALSE NEIGHBOUR: 'it returns false'. Refute it at one input. -/
def applyIsWrong : ChangeSpec := { name := "applyIs", fn := fun _ => fun
  | [d1, d2] => { results := [.lit (.bool false)], args := [d1, d2] }
  | _ => none }
def ApplyIsWrongFalsely : Prop := applyIsRow.holds Tryz.pinned (OpenSpec.ofChange applyIsWrong)

/-- 'bywashlaw08.ApplyAll': WHATEVER THE INPUT: true; the input reads as it did. -/
def applyAllSpec : ChangeSpec := { name := "applyAll", fn := fun _ => fun
  | [d1, d2] => { results := [.lit (.bool true)], args := [d1, d2] }
  | _ => none }
def applyAllRow : OpenClaim := { program := "ytbddjneinfkmpaagreatdoor", sum := "b388e69383441dc685454816854a081cc8729981ee917b57b8dbe5bd65fcdf0e", func := "bywash/bywashlaw08.ApplyAll", spec := "applyAll", inPlace := ["internal/reflectlite.ValueOf", "(internal/reflectlite.Value).Type", "(internal/reflectlite.Value).IsNil", "internal/reflectlite.TypeOf", "(internal/reflectlite.Value).Elem", "(internal/reflectlite.Value).Set"], unfollowed := true, recurses := true, named := ["bywash/instr.kinds", "errors.errorType"], apart := false, laid := [("errors.errorType", laid_errors_errorType), ("bywash/instr.kinds", laid_bywash_instr_kinds)] }
def ApplyAllSaid : Prop := applyAllRow.holds Tryz.pinned (OpenSpec.ofChange applyAllSpec)

/-- ITS FALSE NEIGHBOUR: 'it returns false'. Refute it at one input. -/
def applyAllWrong : ChangeSpec := { name := "applyAll", fn := fun _ => fun
  | [d1, d2] => { results := [.lit (.bool false)], args := [d1, d2] }
  | _ => none }
def ApplyAllWrongFalsely : Prop := applyAllRow.holds Tryz.pinned (OpenSpec.ofChange applyAllWrong)

/-- 'bywashlaw08.ApplyUndone': WHATEVER THE INPUT: true; the input reads as it did. -/
def applyUndoneSpec : ChangeSpec := { name := "applyUndone", fn := fun _ => fun
  | [d1, d2] => { results := [.lit (.bool true)], args := [d1, d2] }
  | _ => none }
def applyUndoneRow : OpenClaim := { program := "ytbddjneinfkmpaagreatdoor", sum := "b388e69383441dc685454816854a081cc8729981ee917b57b8dbe5bd65fcdf0e", func := "bywash/bywashlaw08.ApplyUndone", spec := "applyUndone", inPlace := ["internal/reflectlite.ValueOf", "(internal/reflectlite.Value).Type", "(internal/reflectlite.Value).IsNil", "internal/reflectlite.TypeOf", "(internal/reflectlite.Value).Elem", "(internal/reflectlite.Value).Set"], unfollowed := true, recurses := true, named := ["bywash/instr.kinds", "errors.errorType"], apart := false, laid := [("errors.errorType", laid_errors_errorType), ("bywash/instr.kinds", laid_bywash_instr_kinds)] }
def ApplyUndoneSaid : Prop := applyUndoneRow.holds Tryz.pinned (OpenSpec.ofChange applyUndoneSpec)

/-- ITS FALSE NEIGHBOUR: 'it returns false'. Refute it at one input. -/
def applyUndoneWrong : ChangeSpec := { name := "applyUndone", fn := fun _ => fun
  | [d1, d2] => { results := [.lit (.bool false)], args := [d1, d2] }
  | _ => none }
def ApplyUndoneWrongFalsely : Prop := applyUndoneRow.holds Tryz.pinned (OpenSpec.ofChange applyUndoneWrong)

/-- 'bywashlaw08.ApplyOne': WHATEVER THE INPUT: true; the input reads as it did. -/
def applyOneSpec : ChangeSpec := { name := "applyOne", fn := fun _ => fun
  | [d1, d2] => { results := [.lit (.bool true)], args := [d1, d2] }
  | _ => none }
def applyOneRow : OpenClaim := { program := "ytbddjneinfkmpaagreatdoor", sum := "b388e69383441dc685454816854a081cc8729981ee917b57b8dbe5bd65fcdf0e", func := "bywash/bywashlaw08.ApplyOne", spec := "applyOne", inPlace := ["internal/reflectlite.ValueOf", "(internal/reflectlite.Value).Type", "(internal/reflectlite.Value).IsNil", "internal/reflectlite.TypeOf", "(internal/reflectlite.Value).Elem", "(internal/reflectlite.Value).Set"], unfollowed := true, recurses := true, named := ["bywash/instr.kinds", "errors.errorType"], apart := false, laid := [("errors.errorType", laid_errors_errorType), ("bywash/instr.kinds", laid_bywash_instr_kinds)] }
def ApplyOneSaid : Prop := applyOneRow.holds Tryz.pinned (OpenSpec.ofChange applyOneSpec)

/-- ITS FALSE NEIGHBOUR: 'it returns false'. Refute it at one input. -/
def applyOneWrong : ChangeSpec := { name := "applyOne", fn := fun _ => fun
  | [d1, d2] => { results := [.lit (.bool false)], args := [d1, d2] }
  | _ => none }
def ApplyOneWrongFalsely : Prop := applyOneRow.holds Tryz.pinned (OpenSpec.ofChange applyOneWrong)

/-- 'bywashlaw08.ApplyCounts': WHATEVER THE INPUT: true; the input reads as it did. -/
def applyCountsSpec : ChangeSpec := { name := "applyCounts", fn := fun _ => fun
  | [d1, d2] => { results := [.lit (.bool true)], args := [d1, d2] }
  | _ => none }
def applyCountsRow : OpenClaim := { program := "ytbddjneinfkmpaagreatdoor", sum := "b388e69383441dc685454816854a081cc8729981ee917b57b8dbe5bd65fcdf0e", func := "bywash/bywashlaw08.ApplyCounts", spec := "applyCounts", inPlace := ["internal/reflectlite.ValueOf", "(internal/reflectlite.Value).Type", "(internal/reflectlite.Value).IsNil", "internal/reflectlite.TypeOf", "(internal/reflectlite.Value).Elem", "(internal/reflectlite.Value).Set"], unfollowed := true, recurses := true, named := ["bywash/instr.kinds", "errors.errorType"], apart := false, laid := [("errors.errorType", laid_errors_errorType), ("bywash/instr.kinds", laid_bywash_instr_kinds)] }
def ApplyCountsSaid : Prop := applyCountsRow.holds Tryz.pinned (OpenSpec.ofChange applyCountsSpec)

/-- ITS FALSE NEIGHBOUR: 'it returns false'. Refute it at one input. -/
def applyCountsWrong : ChangeSpec := { name := "applyCounts", fn := fun _ => fun
  | [d1, d2] => { results := [.lit (.bool false)], args := [d1, d2] }
  | _ => none }
def ApplyCountsWrongFalsely : Prop := applyCountsRow.holds Tryz.pinned (OpenSpec.ofChange applyCountsWrong)

/-- 'bywashlaw08.ApplyEdges': WHATEVER THE INPUT: true; the input reads as it did. -/
def applyEdgesSpec : ChangeSpec := { name := "applyEdges", fn := fun _ => fun
  | [d1, d2, d3, d4] => { results := [.lit (.bool true)], args := [d1, d2, d3, d4] }
  | _ => none }
def applyEdgesRow : OpenClaim := { program := "ytbddjneinfkmpaagreatdoor", sum := "b388e69383441dc685454816854a081cc8729981ee917b57b8dbe5bd65fcdf0e", func := "bywash/bywashlaw08.ApplyEdges", spec := "applyEdges", inPlace := ["internal/reflectlite.ValueOf", "(internal/reflectlite.Value).Type", "(internal/reflectlite.Value).IsNil", "internal/reflectlite.TypeOf", "(internal/reflectlite.Value).Elem", "(internal/reflectlite.Value).Set"], unfollowed := true, recurses := true, named := ["bywash/instr.kinds", "errors.errorType"], apart := false, laid := [("errors.errorType", laid_errors_errorType), ("bywash/instr.kinds", laid_bywash_instr_kinds)] }
def ApplyEdgesSaid : Prop := applyEdgesRow.holds Tryz.pinned (OpenSpec.ofChange applyEdgesSpec)

/-- ITS FALSE NEIGHBOUR: 'it returns false'. Refute it at one input. -/
def applyEdgesWrong : ChangeSpec := { name := "applyEdges", fn := fun _ => fun
  | [d1, d2, d3, d4] => { results := [.lit (.bool false)], args := [d1, d2, d3, d4] }
  | _ => none }
def ApplyEdgesWrongFalsely : Prop := applyEdgesRow.holds Tryz.pinned (OpenSpec.ofChange applyEdgesWrong)

/-- 'bywashlaw08.ApplyCode': WHATEVER THE INPUT: true; the input reads as it did. -/
def applyCodeSpec : ChangeSpec := { name := "applyCode", fn := fun _ => fun
  | [d1, d2, d3] => { results := [.lit (.bool true)], args := [d1, d2, d3] }
  | _ => none }
def applyCodeRow : OpenClaim := { program := "ytbddjneinfkmpaagreatdoor", sum := "b388e69383441dc685454816854a081cc8729981ee917b57b8dbe5bd65fcdf0e", func := "bywash/bywashlaw08.ApplyCode", spec := "applyCode", inPlace := ["internal/reflectlite.ValueOf", "(internal/reflectlite.Value).Type", "(internal/reflectlite.Value).IsNil", "internal/reflectlite.TypeOf", "(internal/reflectlite.Value).Elem", "(internal/reflectlite.Value).Set"], unfollowed := true, recurses := true, named := ["bywash/instr.kinds", "errors.errorType"], apart := false, laid := [("errors.errorType", laid_errors_errorType), ("bywash/instr.kinds", laid_bywash_instr_kinds)] }
def ApplyCodeSaid : Prop := applyCodeRow.holds Tryz.pinned (OpenSpec.ofChange applyCodeSpec)

/-- ITS FALSE NEIGHBOUR: 'it returns false'. Refute it at one input. -/
def applyCodeWrong : ChangeSpec := { name := "applyCode", fn := fun _ => fun
  | [d1, d2, d3] => { results := [.lit (.bool false)], args := [d1, d2, d3] }
  | _ => none }
def ApplyCodeWrongFalsely : Prop := applyCodeRow.holds Tryz.pinned (OpenSpec.ofChange applyCodeWrong)

/- THE SECOND FORM. 'bulk': how many values and letters a reading holds, each counted each time it is reached (what is shared counts as often as it is met; a slice's spare places count too). A statement '..UptoSaid' is the law's where the arguments, and the package variables that the reading takes, are together of bulk at most 1048576: NARROWER than '..Said'. Prove '..Said' where nothing that the law and all that it calls make is longer than what came in: it says more and counts as full. Else prove '..UptoSaid'. A law counts once. -/
mutual
def uptoBulk {H : Type} : DataW H → Nat
  | .lit (.string bytes) => bytes.length + 1
  | .lit _ => 1
  | .nil => 1
  | .ptr d => uptoBulk d + 1
  | .slice elems spare => uptoBulkAll elems + uptoBulkAll spare + 1
  | .agg parts => uptoBulkAll parts + 1
  | .iface _ d => uptoBulk d + 1
  | .map entries => uptoBulkEntries entries + 1
  | .held _ => 1
def uptoBulkAll {H : Type} : List (DataW H) → Nat
  | [] => 0
  | d :: r => uptoBulk d + uptoBulkAll r
def uptoBulkEntries {H : Type} : List (Lit × DataW H) → Nat
  | [] => 0
  | x :: r => uptoBulkEntry x + uptoBulkEntries r
def uptoBulkEntry {H : Type} : Lit × DataW H → Nat
  | (.string bytes, d) => bytes.length + uptoBulk d + 1
  | (_, d) => uptoBulk d + 1
 end
def uptoSmall : (H : Type) → List (DataW H) → Bool := fun _ ds => decide (uptoBulkAll ds ≤ 1048576)
def OpenSpec.upto (s : _root_.Go.ChangeSpec) : _root_.Go.OpenSpec := { _root_.Go.OpenSpec.ofChange s with cond := some uptoSmall }

/-- 'bywashlaw06.ProgIs', WHERE WHAT IT READS IS OF BULK AT MOST 1048576: true; the input reads as it did. -/
def progIsUptoRow : OpenClaim := { program := "ytbddjneinfkmpaagreatdoor", sum := "b388e69383441dc685454816854a081cc8729981ee917b57b8dbe5bd65fcdf0e", func := "bywash/bywashlaw06.ProgIs", spec := "progIs", inPlace := ["internal/reflectlite.ValueOf", "(internal/reflectlite.Value).Type", "(internal/reflectlite.Value).IsNil", "internal/reflectlite.TypeOf", "(internal/reflectlite.Value).Elem", "(internal/reflectlite.Value).Set"], unfollowed := true, recurses := true, named := ["bywash/instr.kinds", "errors.errorType"], apart := false, laid := [("errors.errorType", laid_errors_errorType), ("bywash/instr.kinds", laid_bywash_instr_kinds)], narrowed := true }
def ProgIsUptoSaid : Prop := progIsUptoRow.holds Tryz.pinned (OpenSpec.upto progIsSpec)

/-- 'bywashlaw07.EditIs', WHERE WHAT IT READS IS OF BULK AT MOST 1048576: true; the input reads as it did. -/
def editIsUptoRow : OpenClaim := { program := "ytbddjneinfkmpaagreatdoor", sum := "b388e69383441dc685454816854a081cc8729981ee917b57b8dbe5bd65fcdf0e", func := "bywash/bywashlaw07.EditIs", spec := "editIs", inPlace := ["internal/reflectlite.ValueOf", "(internal/reflectlite.Value).Type", "(internal/reflectlite.Value).IsNil", "internal/reflectlite.TypeOf", "(internal/reflectlite.Value).Elem", "(internal/reflectlite.Value).Set"], unfollowed := true, recurses := true, named := ["bywash/instr.kinds", "errors.errorType", "bywash/edit.names"], apart := false, laid := [("errors.errorType", laid_errors_errorType), ("bywash/instr.kinds", laid_bywash_instr_kinds), ("bywash/edit.names", laid_bywash_edit_names)], narrowed := true }
def EditIsUptoSaid : Prop := editIsUptoRow.holds Tryz.pinned (OpenSpec.upto editIsSpec)

/-- 'bywashlaw07.EditRoom', WHERE WHAT IT READS IS OF BULK AT MOST 1048576: true; the input reads as it did. -/
def editRoomUptoRow : OpenClaim := { program := "ytbddjneinfkmpaagreatdoor", sum := "b388e69383441dc685454816854a081cc8729981ee917b57b8dbe5bd65fcdf0e", func := "bywash/bywashlaw07.EditRoom", spec := "editRoom", inPlace := ["internal/reflectlite.ValueOf", "(internal/reflectlite.Value).Type", "(internal/reflectlite.Value).IsNil", "internal/reflectlite.TypeOf", "(internal/reflectlite.Value).Elem", "(internal/reflectlite.Value).Set"], unfollowed := true, recurses := true, named := ["bywash/instr.kinds", "errors.errorType", "bywash/edit.names"], apart := false, laid := [("errors.errorType", laid_errors_errorType), ("bywash/instr.kinds", laid_bywash_instr_kinds), ("bywash/edit.names", laid_bywash_edit_names)], narrowed := true }
def EditRoomUptoSaid : Prop := editRoomUptoRow.holds Tryz.pinned (OpenSpec.upto editRoomSpec)

/-- 'bywashlaw08.ApplyIs', WHERE WHAT IT READS IS OF BULK AT MOST 1048576: true; the input reads as it did. -/
def applyIsUptoRow : OpenClaim := { program := "ytbddjneinfkmpaagreatdoor", sum := "b388e69383441dc685454816854a081cc8729981ee917b57b8dbe5bd65fcdf0e", func := "bywash/bywashlaw08.ApplyIs", spec := "applyIs", inPlace := ["internal/reflectlite.ValueOf", "(internal/reflectlite.Value).Type", "(internal/reflectlite.Value).IsNil", "internal/reflectlite.TypeOf", "(internal/reflectlite.Value).Elem", "(internal/reflectlite.Value).Set"], unfollowed := true, recurses := true, named := ["bywash/instr.kinds", "errors.errorType"], apart := false, laid := [("errors.errorType", laid_errors_errorType), ("bywash/instr.kinds", laid_bywash_instr_kinds)], narrowed := true }
def ApplyIsUptoSaid : Prop := applyIsUptoRow.holds Tryz.pinned (OpenSpec.upto applyIsSpec)

/-- 'bywashlaw08.ApplyAll', WHERE WHAT IT READS IS OF BULK AT MOST 1048576: true; the input reads as it did. -/
def applyAllUptoRow : OpenClaim := { program := "ytbddjneinfkmpaagreatdoor", sum := "b388e69383441dc685454816854a081cc8729981ee917b57b8dbe5bd65fcdf0e", func := "bywash/bywashlaw08.ApplyAll", spec := "applyAll", inPlace := ["internal/reflectlite.ValueOf", "(internal/reflectlite.Value).Type", "(internal/reflectlite.Value).IsNil", "internal/reflectlite.TypeOf", "(internal/reflectlite.Value).Elem", "(internal/reflectlite.Value).Set"], unfollowed := true, recurses := true, named := ["bywash/instr.kinds", "errors.errorType"], apart := false, laid := [("errors.errorType", laid_errors_errorType), ("bywash/instr.kinds", laid_bywash_instr_kinds)], narrowed := true }
def ApplyAllUptoSaid : Prop := applyAllUptoRow.holds Tryz.pinned (OpenSpec.upto applyAllSpec)

/-- 'bywashlaw08.ApplyUndone', WHERE WHAT IT READS IS OF BULK AT MOST 1048576: true; the input reads as it did. -/
def applyUndoneUptoRow : OpenClaim := { program := "ytbddjneinfkmpaagreatdoor", sum := "b388e69383441dc685454816854a081cc8729981ee917b57b8dbe5bd65fcdf0e", func := "bywash/bywashlaw08.ApplyUndone", spec := "applyUndone", inPlace := ["internal/reflectlite.ValueOf", "(internal/reflectlite.Value).Type", "(internal/reflectlite.Value).IsNil", "internal/reflectlite.TypeOf", "(internal/reflectlite.Value).Elem", "(internal/reflectlite.Value).Set"], unfollowed := true, recurses := true, named := ["bywash/instr.kinds", "errors.errorType"], apart := false, laid := [("errors.errorType", laid_errors_errorType), ("bywash/instr.kinds", laid_bywash_instr_kinds)], narrowed := true }
def ApplyUndoneUptoSaid : Prop := applyUndoneUptoRow.holds Tryz.pinned (OpenSpec.upto applyUndoneSpec)

/-- 'bywashlaw08.ApplyOne', WHERE WHAT IT READS IS OF BULK AT MOST 1048576: true; the input reads as it did. -/
def applyOneUptoRow : OpenClaim := { program := "ytbddjneinfkmpaagreatdoor", sum := "b388e69383441dc685454816854a081cc8729981ee917b57b8dbe5bd65fcdf0e", func := "bywash/bywashlaw08.ApplyOne", spec := "applyOne", inPlace := ["internal/reflectlite.ValueOf", "(internal/reflectlite.Value).Type", "(internal/reflectlite.Value).IsNil", "internal/reflectlite.TypeOf", "(internal/reflectlite.Value).Elem", "(internal/reflectlite.Value).Set"], unfollowed := true, recurses := true, named := ["bywash/instr.kinds", "errors.errorType"], apart := false, laid := [("errors.errorType", laid_errors_errorType), ("bywash/instr.kinds", laid_bywash_instr_kinds)], narrowed := true }
def ApplyOneUptoSaid : Prop := applyOneUptoRow.holds Tryz.pinned (OpenSpec.upto applyOneSpec)

/-- 'bywashlaw08.ApplyCounts', WHERE WHAT IT READS IS OF BULK AT MOST 1048576: true; the input reads as it did. -/
def applyCountsUptoRow : OpenClaim := { program := "ytbddjneinfkmpaagreatdoor", sum := "b388e69383441dc685454816854a081cc8729981ee917b57b8dbe5bd65fcdf0e", func := "bywash/bywashlaw08.ApplyCounts", spec := "applyCounts", inPlace := ["internal/reflectlite.ValueOf", "(internal/reflectlite.Value).Type", "(internal/reflectlite.Value).IsNil", "internal/reflectlite.TypeOf", "(internal/reflectlite.Value).Elem", "(internal/reflectlite.Value).Set"], unfollowed := true, recurses := true, named := ["bywash/instr.kinds", "errors.errorType"], apart := false, laid := [("errors.errorType", laid_errors_errorType), ("bywash/instr.kinds", laid_bywash_instr_kinds)], narrowed := true }
def ApplyCountsUptoSaid : Prop := applyCountsUptoRow.holds Tryz.pinned (OpenSpec.upto applyCountsSpec)

/-- 'bywashlaw08.ApplyEdges', WHERE WHAT IT READS IS OF BULK AT MOST 1048576: true; the input reads as it did. -/
def applyEdgesUptoRow : OpenClaim := { program := "ytbddjneinfkmpaagreatdoor", sum := "b388e69383441dc685454816854a081cc8729981ee917b57b8dbe5bd65fcdf0e", func := "bywash/bywashlaw08.ApplyEdges", spec := "applyEdges", inPlace := ["internal/reflectlite.ValueOf", "(internal/reflectlite.Value).Type", "(internal/reflectlite.Value).IsNil", "internal/reflectlite.TypeOf", "(internal/reflectlite.Value).Elem", "(internal/reflectlite.Value).Set"], unfollowed := true, recurses := true, named := ["bywash/instr.kinds", "errors.errorType"], apart := false, laid := [("errors.errorType", laid_errors_errorType), ("bywash/instr.kinds", laid_bywash_instr_kinds)], narrowed := true }
def ApplyEdgesUptoSaid : Prop := applyEdgesUptoRow.holds Tryz.pinned (OpenSpec.upto applyEdgesSpec)

/-- 'bywashlaw08.ApplyCode', WHERE WHAT IT READS IS OF BULK AT MOST 1048576: true; the input reads as it did. -/
def applyCodeUptoRow : OpenClaim := { program := "ytbddjneinfkmpaagreatdoor", sum := "b388e69383441dc685454816854a081cc8729981ee917b57b8dbe5bd65fcdf0e", func := "bywash/bywashlaw08.ApplyCode", spec := "applyCode", inPlace := ["internal/reflectlite.ValueOf", "(internal/reflectlite.Value).Type", "(internal/reflectlite.Value).IsNil", "internal/reflectlite.TypeOf", "(internal/reflectlite.Value).Elem", "(internal/reflectlite.Value).Set"], unfollowed := true, recurses := true, named := ["bywash/instr.kinds", "errors.errorType"], apart := false, laid := [("errors.errorType", laid_errors_errorType), ("bywash/instr.kinds", laid_bywash_instr_kinds)], narrowed := true }
def ApplyCodeUptoSaid : Prop := applyCodeUptoRow.holds Tryz.pinned (OpenSpec.upto applyCodeSpec)

end Rows
end Go.Proofs.YtbddjneinfkmpaaGreatDoor
