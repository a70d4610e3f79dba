/-
  NARROWER THAN 'FOR EVERY INPUT', by the rows' own cells (each row's printed sentence says how): ProgEdges: laid · ProgFresh: laid · ProgUses: laid · ProgParts: laid.
  DERIVED. THE GIVEN ROWS OF THIS SEAT. 4 by the template 'for every input the law returns true; each argument reads behind the call as it read before'; 0 by the template 'total and deterministic' (their statements: YtdhdpfloaelngaaDoorTotals.lean).
  GIVEN WITH THE SEED: the statements are not yours to turn. If you find one false, say at which input.
  Laid BY PROGRAM, IN A SANDBOX (cutbox-rows.mjs): the forced cells as the released guide's own fill.sh prints them over the translation 1bbca738015d0047… (all of the seat's roots in one cut). By AI agents, Wed Nov 11 2026. No macro, syntax, notation, axiom, sorry.
-/
import Derived.Test.YtdhdpfloaelngaaDoorChecked
import GoSem.Claim
import GoSem.ClaimJoined
import GoSem.ClaimMapViews
import Derived.JoinedTies
import Derived.KernelRfl
namespace Go.Proofs.YtdhdpfloaelngaaDoor
/- THE CELL 'sum', in the pinned program and in every row, IS THE sha256 OF THE DUMP (.gsa) THAT YtdhdpfloaelngaaDoorProg.lean LOADS. Nothing in Lean hashes anything: it is a label: what it is worth is what the hold of that sum in a sandbox is worth. -/
noncomputable def Tryd.pinned : Pinned := { name := "ytdhdpfloaelngaadoor", sum := "1bbca738015d0047a711122150b8440174b09c12077fa0fcb431ba30f52c7480", checked := Tryd.checked }
namespace Rows
def none {H : Type} : Left H := { results := [], args := [] }

/- WHAT THE LISTED PACKAGE-LEVEL VARIABLES READ AS WHEN THE CALL BEGINS. Each datum BY PROGRAM (the guide's laid-datum.mjs) off the statement by which the dump's own 'gosem.cut.vars' lays the variable. In a bare row this is a premise. The card (YtdhdpfloaelngaaDoorCards.lean) ties it to the program's text. -/
def laid_errors_errorType {H : Type} : DataW H := .iface "internal/reflectlite.rtype" (.agg [.ptr (.lit (.string [101, 114, 114, 111, 114]))])
def laid_bywash_instr_kinds {H : Type} : DataW H := .agg [.agg [.lit (.string [99, 111, 110, 115, 116]), .lit (.bool true), .lit (.bool false), .lit (.bool false), .lit (.bool true), .lit (.bool false)], .agg [.lit (.string [99, 111, 112, 121]), .lit (.bool true), .lit (.bool true), .lit (.bool false), .lit (.bool false), .lit (.bool false)], .agg [.lit (.string [110, 101, 103]), .lit (.bool true), .lit (.bool true), .lit (.bool false), .lit (.bool false), .lit (.bool false)], .agg [.lit (.string [97, 100, 100]), .lit (.bool true), .lit (.bool true), .lit (.bool true), .lit (.bool false), .lit (.bool false)], .agg [.lit (.string [115, 117, 98]), .lit (.bool true), .lit (.bool true), .lit (.bool true), .lit (.bool false), .lit (.bool false)], .agg [.lit (.string [109, 117, 108]), .lit (.bool true), .lit (.bool true), .lit (.bool true), .lit (.bool false), .lit (.bool false)], .agg [.lit (.string [105, 110, 112, 117, 116]), .lit (.bool true), .lit (.bool false), .lit (.bool false), .lit (.bool false), .lit (.bool false)], .agg [.lit (.string [99, 97, 108, 108]), .lit (.bool true), .lit (.bool false), .lit (.bool false), .lit (.bool false), .lit (.bool true)], .agg [.lit (.string [117, 115, 101]), .lit (.bool false), .lit (.bool true), .lit (.bool false), .lit (.bool false), .lit (.bool false)], .agg [.lit (.string [114, 101, 116]), .lit (.bool false), .lit (.bool true), .lit (.bool false), .lit (.bool false), .lit (.bool false)]]

/-- 'bywashlaw06.ProgEdges': WHATEVER THE INPUT: true; the input reads as it did. -/
def progEdgesSpec : ChangeSpec := { name := "progEdges", fn := fun _ => fun
  | [d1, d2] => { results := [.lit (.bool true)], args := [d1, d2] }
  | _ => none }
def progEdgesRow : OpenClaim := { program := "ytdhdpfloaelngaadoor", sum := "1bbca738015d0047a711122150b8440174b09c12077fa0fcb431ba30f52c7480", func := "bywash/bywashlaw06.ProgEdges", spec := "progEdges", inPlace := ["internal/reflectlite.ValueOf", "(internal/reflectlite.Value).Type", "(internal/reflectlite.Value).IsNil", "internal/reflectlite.TypeOf", "(internal/reflectlite.Value).Elem", "(internal/reflectlite.Value).Set"], unfollowed := true, recurses := true, named := ["bywash/instr.kinds", "errors.errorType"], apart := false, laid := [("errors.errorType", laid_errors_errorType), ("bywash/instr.kinds", laid_bywash_instr_kinds)] }
def ProgEdgesSaid : Prop := progEdgesRow.holds Tryd.pinned (OpenSpec.ofChange progEdgesSpec)

/-- ITS FALSE NEIGHBOUR: 'it returns false'. Refute it at one input. -/
def progEdgesWrong : ChangeSpec := { name := "progEdges", fn := fun _ => fun
  | [d1, d2] => { results := [.lit (.bool false)], args := [d1, d2] }
  | _ => none }
def ProgEdgesWrongFalsely : Prop := progEdgesRow.holds Tryd.pinned (OpenSpec.ofChange progEdgesWrong)

/-- 'bywashlaw06.ProgFresh': WHATEVER THE INPUT: true; the input reads as it did. -/
def progFreshSpec : ChangeSpec := { name := "progFresh", fn := fun _ => fun
  | [d1, d2] => { results := [.lit (.bool true)], args := [d1, d2] }
  | _ => none }
def progFreshRow : OpenClaim := { program := "ytdhdpfloaelngaadoor", sum := "1bbca738015d0047a711122150b8440174b09c12077fa0fcb431ba30f52c7480", func := "bywash/bywashlaw06.ProgFresh", spec := "progFresh", inPlace := ["internal/reflectlite.ValueOf", "(internal/reflectlite.Value).Type", "(internal/reflectlite.Value).IsNil", "internal/reflectlite.TypeOf", "(internal/reflectlite.Value).Elem", "(internal/reflectlite.Value).Set"], unfollowed := true, recurses := true, named := ["bywash/instr.kinds", "errors.errorType"], apart := false, laid := [("errors.errorType", laid_errors_errorType), ("bywash/instr.kinds", laid_bywash_instr_kinds)] }
def ProgFreshSaid : Prop := progFreshRow.holds Tryd.pinned (OpenSpec.ofChange progFreshSpec)

/-- ITS FALSE NEIGHBOUR: 'it returns false'. Refute it at one input. -/
def progFreshWrong : ChangeSpec := { name := "progFresh", fn := fun _ => fun
  | [d1, d2] => { results := [.lit (.bool false)], args := [d1, d2] }
  | _ => none }
def ProgFreshWrongFalsely : Prop := progFreshRow.holds Tryd.pinned (OpenSpec.ofChange progFreshWrong)

/-- 'bywashlaw06.ProgUses': WHATEVER THE INPUT: true; the input reads as it did. -/
def progUsesSpec : ChangeSpec := { name := "progUses", fn := fun _ => fun
  | [d] => { results := [.lit (.bool true)], args := [d] }
  | _ => none }
def progUsesRow : OpenClaim := { program := "ytdhdpfloaelngaadoor", sum := "1bbca738015d0047a711122150b8440174b09c12077fa0fcb431ba30f52c7480", func := "bywash/bywashlaw06.ProgUses", spec := "progUses", inPlace := ["internal/reflectlite.ValueOf", "(internal/reflectlite.Value).Type", "(internal/reflectlite.Value).IsNil", "internal/reflectlite.TypeOf", "(internal/reflectlite.Value).Elem", "(internal/reflectlite.Value).Set"], unfollowed := true, recurses := true, named := ["bywash/instr.kinds", "errors.errorType"], apart := false, laid := [("errors.errorType", laid_errors_errorType), ("bywash/instr.kinds", laid_bywash_instr_kinds)] }
def ProgUsesSaid : Prop := progUsesRow.holds Tryd.pinned (OpenSpec.ofChange progUsesSpec)

/-- ITS FALSE NEIGHBOUR: 'it returns false'. Refute it at one input. -/
def progUsesWrong : ChangeSpec := { name := "progUses", fn := fun _ => fun
  | [d] => { results := [.lit (.bool false)], args := [d] }
  | _ => none }
def ProgUsesWrongFalsely : Prop := progUsesRow.holds Tryd.pinned (OpenSpec.ofChange progUsesWrong)

/-- 'bywashlaw06.ProgParts': WHATEVER THE INPUT: true; the input reads as it did. -/
def progPartsSpec : ChangeSpec := { name := "progParts", fn := fun _ => fun
  | [d1, d2, d3, d4] => { results := [.lit (.bool true)], args := [d1, d2, d3, d4] }
  | _ => none }
def progPartsRow : OpenClaim := { program := "ytdhdpfloaelngaadoor", sum := "1bbca738015d0047a711122150b8440174b09c12077fa0fcb431ba30f52c7480", func := "bywash/bywashlaw06.ProgParts", spec := "progParts", inPlace := ["internal/reflectlite.ValueOf", "(internal/reflectlite.Value).Type", "(internal/reflectlite.Value).IsNil", "internal/reflectlite.TypeOf", "(internal/reflectlite.Value).Elem", "(internal/reflectlite.Value).Set"], unfollowed := true, recurses := true, named := ["bywash/instr.kinds", "errors.errorType"], apart := false, laid := [("errors.errorType", laid_errors_errorType), ("bywash/instr.kinds", laid_bywash_instr_kinds)] }
def ProgPartsSaid : Prop := progPartsRow.holds Tryd.pinned (OpenSpec.ofChange progPartsSpec)

/-- ITS FALSE NEIGHBOUR: 'it returns false'. Refute it at one input. -/
def progPartsWrong : ChangeSpec := { name := "progParts", fn := fun _ => fun
  | [d1, d2, d3, d4] => { results := [.lit (.bool false)], args := [d1, d2, d3, d4] }
  | _ => none }
def ProgPartsWrongFalsely : Prop := progPartsRow.holds Tryd.pinned (OpenSpec.ofChange progPartsWrong)

/- THE SECOND FORM. 'bulk': how many values and letters a reading holds, each counted each time it is reached (what is shared counts as often as it is met; a slice's spare places count too). A statement '..UptoSaid' is the law's where the arguments, and the package variables that the reading takes, are together of bulk at most 1048576: NARROWER than '..Said'. Prove '..Said' where nothing that the law and all that it calls make is longer than what came in: it says more and counts as full. Else prove '..UptoSaid'. A law counts once. -/
mutual
def uptoBulk {H : Type} : DataW H → Nat
  | .lit (.string bytes) => bytes.length + 1
  | .lit _ => 1
  | .nil => 1
  | .ptr d => uptoBulk d + 1
  | .slice elems spare => uptoBulkAll elems + uptoBulkAll spare + 1
  | .agg parts => uptoBulkAll parts + 1
  | .iface _ d => uptoBulk d + 1
  | .map entries => uptoBulkEntries entries + 1
  | .held _ => 1
def uptoBulkAll {H : Type} : List (DataW H) → Nat
  | [] => 0
  | d :: r => uptoBulk d + uptoBulkAll r
def uptoBulkEntries {H : Type} : List (Lit × DataW H) → Nat
  | [] => 0
  | x :: r => uptoBulkEntry x + uptoBulkEntries r
def uptoBulkEntry {H : Type} : Lit × DataW H → Nat
  | (.string bytes, d) => bytes.length + uptoBulk d + 1
  | (_, d) => uptoBulk d + 1
 end
def uptoSmall : (H : Type) → List (DataW H) → Bool := fun _ ds => decide (uptoBulkAll ds ≤ 1048576)
def OpenSpec.upto (s : _root_.Go.ChangeSpec) : _root_.Go.OpenSpec := { _root_.Go.OpenSpec.ofChange s with cond := some uptoSmall }

/-- 'bywashlaw06.ProgEdges', WHERE WHAT IT READS IS OF BULK AT MOST 1048576: true; the input reads as it did. -/
def progEdgesUptoRow : OpenClaim := { program := "ytdhdpfloaelngaadoor", sum := "1bbca738015d0047a711122150b8440174b09c12077fa0fcb431ba30f52c7480", func := "bywash/bywashlaw06.ProgEdges", spec := "progEdges", inPlace := ["internal/reflectlite.ValueOf", "(internal/reflectlite.Value).Type", "(internal/reflectlite.Value).IsNil", "internal/reflectlite.TypeOf", "(internal/reflectlite.Value).Elem", "(internal/reflectlite.Value).Set"], unfollowed := true, recurses := true, named := ["bywash/instr.kinds", "errors.errorType"], apart := false, laid := [("errors.errorType", laid_errors_errorType), ("bywash/instr.kinds", laid_bywash_instr_kinds)], narrowed := true }
def ProgEdgesUptoSaid : Prop := progEdgesUptoRow.holds Tryd.pinned (OpenSpec.upto progEdgesSpec)

/-- 'bywashlaw06.ProgFresh', WHERE WHAT IT READS IS OF BULK AT MOST 1048576: true; the input reads as it did. -/
def progFreshUptoRow : OpenClaim := { program := "ytdhdpfloaelngaadoor", sum := "1bbca738015d0047a711122150b8440174b09c12077fa0fcb431ba30f52c7480", func := "bywash/bywashlaw06.ProgFresh", spec := "progFresh", inPlace := ["internal/reflectlite.ValueOf", "(internal/reflectlite.Value).Type", "(internal/reflectlite.Value).IsNil", "internal/reflectlite.TypeOf", "(internal/reflectlite.Value).Elem", "(internal/reflectlite.Value).Set"], unfollowed := true, recurses := true, named := ["bywash/instr.kinds", "errors.errorType"], apart := false, laid := [("errors.errorType", laid_errors_errorType), ("bywash/instr.kinds", laid_bywash_instr_kinds)], narrowed := true }
def ProgFreshUptoSaid : Prop := progFreshUptoRow.holds Tryd.pinned (OpenSpec.upto progFreshSpec)

/-- 'bywashlaw06.ProgUses', WHERE WHAT IT READS IS OF BULK AT MOST 1048576: true; the input reads as it did. -/
def progUsesUptoRow : OpenClaim := { program := "ytdhdpfloaelngaadoor", sum := "1bbca738015d0047a711122150b8440174b09c12077fa0fcb431ba30f52c7480", func := "bywash/bywashlaw06.ProgUses", spec := "progUses", inPlace := ["internal/reflectlite.ValueOf", "(internal/reflectlite.Value).Type", "(internal/reflectlite.Value).IsNil", "internal/reflectlite.TypeOf", "(internal/reflectlite.Value).Elem", "(internal/reflectlite.Value).Set"], unfollowed := true, recurses := true, named := ["bywash/instr.kinds", "errors.errorType"], apart := false, laid := [("errors.errorType", laid_errors_errorType), ("bywash/instr.kinds", laid_bywash_instr_kinds)], narrowed := true }
def ProgUsesUptoSaid : Prop := progUsesUptoRow.holds Tryd.pinned (OpenSpec.upto progUsesSpec)

/-- 'bywashlaw06.ProgParts', WHERE WHAT IT READS IS OF BULK AT MOST 1048576: true; the input reads as it did. -/
def progPartsUptoRow : OpenClaim := { program := "ytdhdpfloaelngaadoor", sum := "1bbca738015d0047a711122150b8440174b09c12077fa0fcb431ba30f52c7480", func := "bywash/bywashlaw06.ProgParts", spec := "progParts", inPlace := ["internal/reflectlite.ValueOf", "(internal/reflectlite.Value).Type", "(internal/reflectlite.Value).IsNil", "internal/reflectlite.TypeOf", "(internal/reflectlite.Value).Elem", "(internal/reflectlite.Value).Set"], unfollowed := true, recurses := true, named := ["bywash/instr.kinds", "errors.errorType"], apart := false, laid := [("errors.errorType", laid_errors_errorType), ("bywash/instr.kinds", laid_bywash_instr_kinds)], narrowed := true }
def ProgPartsUptoSaid : Prop := progPartsUptoRow.holds Tryd.pinned (OpenSpec.upto progPartsSpec)

end Rows
end Go.Proofs.YtdhdpfloaelngaaDoor
