/-
  No cell of these rows narrows 'for every input' (looked for: loops, veiled, ifaces, maps, wideKeys, modest, calm, conditions, laid).
  DERIVED. THE GIVEN ROWS OF THIS SEAT. 6 by the template 'for every input the law returns true; each argument reads behind the call as it read before'; 0 by the template 'total and deterministic' (their statements: YtcbfmplddjmiaaaTotals.lean).
  GIVEN WITH THE SEED: the statements are not yours to turn. If you find one false, say at which input.
  Laid BY PROGRAM, IN A SANDBOX (cutbox-rows.mjs): the forced cells as the released guide's own fill.sh prints them over the translation eaa3bea5bd256c7e… (all of the seat's roots in one cut). By AI agents, Wed Nov 11 2026. No macro, syntax, notation, axiom, sorry.
-/
import Derived.Test.YtcbfmplddjmiaaaChecked
import GoSem.Claim
import GoSem.ClaimJoined
import GoSem.ClaimMapViews
import Derived.JoinedTies
import Derived.KernelRfl
namespace Go.Proofs.Ytcbfmplddjmiaaa
/- THE CELL 'sum', in the pinned program and in every row, IS THE sha256 OF THE DUMP (.gsa) THAT YtcbfmplddjmiaaaProg.lean LOADS. Nothing in Lean hashes anything: it is a label: what it is worth is what the hold of that sum in a sandbox is worth. -/
noncomputable def Try.pinned : Pinned := { name := "ytcbfmplddjmiaaa", sum := "eaa3bea5bd256c7e7b8428aafdb863f9ef6bddff7f314837abb5482dfa6db847", checked := Try.checked }
namespace Rows
def none {H : Type} : Left H := { results := [], args := [] }

/-- 'bywashlaw10.GraphIs': WHATEVER THE INPUT: true; the input reads as it did. -/
def graphIsSpec : ChangeSpec := { name := "graphIs", fn := fun _ => fun
  | [d1, d2, d3, d4] => { results := [.lit (.bool true)], args := [d1, d2, d3, d4] }
  | _ => none }
def graphIsRow : OpenClaim := { program := "ytcbfmplddjmiaaa", sum := "eaa3bea5bd256c7e7b8428aafdb863f9ef6bddff7f314837abb5482dfa6db847", func := "bywash/bywashlaw10.GraphIs", spec := "graphIs", inPlace := ["slices.overlaps[int]"], unfollowed := true, recurses := true, apart := false }
def GraphIsSaid : Prop := graphIsRow.holds Try.pinned (OpenSpec.ofChange graphIsSpec)

/-- ITS FALSE NEIGHBOUR: 'it returns false'. Refute it at one input. -/
def graphIsWrong : ChangeSpec := { name := "graphIs", fn := fun _ => fun
  | [d1, d2, d3, d4] => { results := [.lit (.bool false)], args := [d1, d2, d3, d4] }
  | _ => none }
def GraphIsWrongFalsely : Prop := graphIsRow.holds Try.pinned (OpenSpec.ofChange graphIsWrong)

/-- 'bywashlaw10.GraphOrder': WHATEVER THE INPUT: true; the input reads as it did. -/
def graphOrderSpec : ChangeSpec := { name := "graphOrder", fn := fun _ => fun
  | [d1, d2] => { results := [.lit (.bool true)], args := [d1, d2] }
  | _ => none }
def graphOrderRow : OpenClaim := { program := "ytcbfmplddjmiaaa", sum := "eaa3bea5bd256c7e7b8428aafdb863f9ef6bddff7f314837abb5482dfa6db847", func := "bywash/bywashlaw10.GraphOrder", spec := "graphOrder", recurses := true, apart := false }
def GraphOrderSaid : Prop := graphOrderRow.holds Try.pinned (OpenSpec.ofChange graphOrderSpec)

/-- ITS FALSE NEIGHBOUR: 'it returns false'. Refute it at one input. -/
def graphOrderWrong : ChangeSpec := { name := "graphOrder", fn := fun _ => fun
  | [d1, d2] => { results := [.lit (.bool false)], args := [d1, d2] }
  | _ => none }
def GraphOrderWrongFalsely : Prop := graphOrderRow.holds Try.pinned (OpenSpec.ofChange graphOrderWrong)

/-- 'bywashlaw10.GraphTurned': WHATEVER THE INPUT: true; the input reads as it did. -/
def graphTurnedSpec : ChangeSpec := { name := "graphTurned", fn := fun _ => fun
  | [d1, d2, d3] => { results := [.lit (.bool true)], args := [d1, d2, d3] }
  | _ => none }
def graphTurnedRow : OpenClaim := { program := "ytcbfmplddjmiaaa", sum := "eaa3bea5bd256c7e7b8428aafdb863f9ef6bddff7f314837abb5482dfa6db847", func := "bywash/bywashlaw10.GraphTurned", spec := "graphTurned", unfollowed := true, recurses := true, apart := false }
def GraphTurnedSaid : Prop := graphTurnedRow.holds Try.pinned (OpenSpec.ofChange graphTurnedSpec)

/-- ITS FALSE NEIGHBOUR: 'it returns false'. Refute it at one input. -/
def graphTurnedWrong : ChangeSpec := { name := "graphTurned", fn := fun _ => fun
  | [d1, d2, d3] => { results := [.lit (.bool false)], args := [d1, d2, d3] }
  | _ => none }
def GraphTurnedWrongFalsely : Prop := graphTurnedRow.holds Try.pinned (OpenSpec.ofChange graphTurnedWrong)

/-- 'bywashlaw10.GraphEdges': WHATEVER THE INPUT: true; the input reads as it did. -/
def graphEdgesSpec : ChangeSpec := { name := "graphEdges", fn := fun _ => fun
  | [d1, d2, d3, d4] => { results := [.lit (.bool true)], args := [d1, d2, d3, d4] }
  | _ => none }
def graphEdgesRow : OpenClaim := { program := "ytcbfmplddjmiaaa", sum := "eaa3bea5bd256c7e7b8428aafdb863f9ef6bddff7f314837abb5482dfa6db847", func := "bywash/bywashlaw10.GraphEdges", spec := "graphEdges", inPlace := ["slices.overlaps[int]"], unfollowed := true, recurses := true, apart := false }
def GraphEdgesSaid : Prop := graphEdgesRow.holds Try.pinned (OpenSpec.ofChange graphEdgesSpec)

/-- ITS FALSE NEIGHBOUR: 'it returns false'. Refute it at one input. -/
def graphEdgesWrong : ChangeSpec := { name := "graphEdges", fn := fun _ => fun
  | [d1, d2, d3, d4] => { results := [.lit (.bool false)], args := [d1, d2, d3, d4] }
  | _ => none }
def GraphEdgesWrongFalsely : Prop := graphEdgesRow.holds Try.pinned (OpenSpec.ofChange graphEdgesWrong)

/-- 'bywashlaw10.GraphClean': WHATEVER THE INPUT: true; the input reads as it did. -/
def graphCleanSpec : ChangeSpec := { name := "graphClean", fn := fun _ => fun
  | [d1, d2, d3] => { results := [.lit (.bool true)], args := [d1, d2, d3] }
  | _ => none }
def graphCleanRow : OpenClaim := { program := "ytcbfmplddjmiaaa", sum := "eaa3bea5bd256c7e7b8428aafdb863f9ef6bddff7f314837abb5482dfa6db847", func := "bywash/bywashlaw10.GraphClean", spec := "graphClean", unfollowed := true, recurses := true, apart := false }
def GraphCleanSaid : Prop := graphCleanRow.holds Try.pinned (OpenSpec.ofChange graphCleanSpec)

/-- ITS FALSE NEIGHBOUR: 'it returns false'. Refute it at one input. -/
def graphCleanWrong : ChangeSpec := { name := "graphClean", fn := fun _ => fun
  | [d1, d2, d3] => { results := [.lit (.bool false)], args := [d1, d2, d3] }
  | _ => none }
def GraphCleanWrongFalsely : Prop := graphCleanRow.holds Try.pinned (OpenSpec.ofChange graphCleanWrong)

/-- 'bywashlaw10.GraphWay': WHATEVER THE INPUT: true; the input reads as it did. -/
def graphWaySpec : ChangeSpec := { name := "graphWay", fn := fun _ => fun
  | [d1, d2, d3] => { results := [.lit (.bool true)], args := [d1, d2, d3] }
  | _ => none }
def graphWayRow : OpenClaim := { program := "ytcbfmplddjmiaaa", sum := "eaa3bea5bd256c7e7b8428aafdb863f9ef6bddff7f314837abb5482dfa6db847", func := "bywash/bywashlaw10.GraphWay", spec := "graphWay", recurses := true, apart := false }
def GraphWaySaid : Prop := graphWayRow.holds Try.pinned (OpenSpec.ofChange graphWaySpec)

/-- ITS FALSE NEIGHBOUR: 'it returns false'. Refute it at one input. -/
def graphWayWrong : ChangeSpec := { name := "graphWay", fn := fun _ => fun
  | [d1, d2, d3] => { results := [.lit (.bool false)], args := [d1, d2, d3] }
  | _ => none }
def GraphWayWrongFalsely : Prop := graphWayRow.holds Try.pinned (OpenSpec.ofChange graphWayWrong)

/- THE SECOND FORM. 'bulk': how many values and letters a reading holds, each counted each time it is reached (what is shared counts as often as it is met; a slice's spare places count too). A statement '..UptoSaid' is the law's where the arguments, and the package variables that the reading takes, are together of bulk at most 1048576: NARROWER than '..Said'. Prove '..Said' where nothing that the law and all that it calls make is longer than what came in: it says more and counts as full. Else prove '..UptoSaid'. A law counts once. -/
mutual
def uptoBulk {H : Type} : DataW H → Nat
  | .lit (.string bytes) => bytes.length + 1
  | .lit _ => 1
  | .nil => 1
  | .ptr d => uptoBulk d + 1
  | .slice elems spare => uptoBulkAll elems + uptoBulkAll spare + 1
  | .agg parts => uptoBulkAll parts + 1
  | .iface _ d => uptoBulk d + 1
  | .map entries => uptoBulkEntries entries + 1
  | .held _ => 1
def uptoBulkAll {H : Type} : List (DataW H) → Nat
  | [] => 0
  | d :: r => uptoBulk d + uptoBulkAll r
def uptoBulkEntries {H : Type} : List (Lit × DataW H) → Nat
  | [] => 0
  | x :: r => uptoBulkEntry x + uptoBulkEntries r
def uptoBulkEntry {H : Type} : Lit × DataW H → Nat
  | (.string bytes, d) => bytes.length + uptoBulk d + 1
  | (_, d) => uptoBulk d + 1
 end
def uptoSmall : (H : Type) → List (DataW H) → Bool := fun _ ds => decide (uptoBulkAll ds ≤ 1048576)
def OpenSpec.upto (s : _root_.Go.ChangeSpec) : _root_.Go.OpenSpec := { _root_.Go.OpenSpec.ofChange s with cond := some uptoSmall }

/-- 'bywashlaw10.GraphIs', WHERE WHAT IT READS IS OF BULK AT MOST 1048576: true; the input reads as it did. -/
def graphIsUptoRow : OpenClaim := { program := "ytcbfmplddjmiaaa", sum := "eaa3bea5bd256c7e7b8428aafdb863f9ef6bddff7f314837abb5482dfa6db847", func := "bywash/bywashlaw10.GraphIs", spec := "graphIs", inPlace := ["slices.overlaps[int]"], unfollowed := true, recurses := true, apart := false, narrowed := true }
def GraphIsUptoSaid : Prop := graphIsUptoRow.holds Try.pinned (OpenSpec.upto graphIsSpec)

/-- 'bywashlaw10.GraphOrder', WHERE WHAT IT READS IS OF BULK AT MOST 1048576: true; the input reads as it did. -/
def graphOrderUptoRow : OpenClaim := { program := "ytcbfmplddjmiaaa", sum := "eaa3bea5bd256c7e7b8428aafdb863f9ef6bddff7f314837abb5482dfa6db847", func := "bywash/bywashlaw10.GraphOrder", spec := "graphOrder", recurses := true, apart := false, narrowed := true }
def GraphOrderUptoSaid : Prop := graphOrderUptoRow.holds Try.pinned (OpenSpec.upto graphOrderSpec)

/-- 'bywashlaw10.GraphTurned', WHERE WHAT IT READS IS OF BULK AT MOST 1048576: true; the input reads as it did. -/
def graphTurnedUptoRow : OpenClaim := { program := "ytcbfmplddjmiaaa", sum := "eaa3bea5bd256c7e7b8428aafdb863f9ef6bddff7f314837abb5482dfa6db847", func := "bywash/bywashlaw10.GraphTurned", spec := "graphTurned", unfollowed := true, recurses := true, apart := false, narrowed := true }
def GraphTurnedUptoSaid : Prop := graphTurnedUptoRow.holds Try.pinned (OpenSpec.upto graphTurnedSpec)

/-- 'bywashlaw10.GraphEdges', WHERE WHAT IT READS IS OF BULK AT MOST 1048576: true; the input reads as it did. -/
def graphEdgesUptoRow : OpenClaim := { program := "ytcbfmplddjmiaaa", sum := "eaa3bea5bd256c7e7b8428aafdb863f9ef6bddff7f314837abb5482dfa6db847", func := "bywash/bywashlaw10.GraphEdges", spec := "graphEdges", inPlace := ["slices.overlaps[int]"], unfollowed := true, recurses := true, apart := false, narrowed := true }
def GraphEdgesUptoSaid : Prop := graphEdgesUptoRow.holds Try.pinned (OpenSpec.upto graphEdgesSpec)

/-- 'bywashlaw10.GraphClean', WHERE WHAT IT READS IS OF BULK AT MOST 1048576: true; the input reads as it did. -/
def graphCleanUptoRow : OpenClaim := { program := "ytcbfmplddjmiaaa", sum := "eaa3bea5bd256c7e7b8428aafdb863f9ef6bddff7f314837abb5482dfa6db847", func := "bywash/bywashlaw10.GraphClean", spec := "graphClean", unfollowed := true, recurses := true, apart := false, narrowed := true }
def GraphCleanUptoSaid : Prop := graphCleanUptoRow.holds Try.pinned (OpenSpec.upto graphCleanSpec)

/-- 'bywashlaw10.GraphWay', WHERE WHAT IT READS IS OF BULK AT MOST 1048576: true; the input reads as it did. -/
def graphWayUptoRow : OpenClaim := { program := "ytcbfmplddjmiaaa", sum := "eaa3bea5bd256c7e7b8428aafdb863f9ef6bddff7f314837abb5482dfa6db847", func := "bywash/bywashlaw10.GraphWay", spec := "graphWay", recurses := true, apart := false, narrowed := true }
def GraphWayUptoSaid : Prop := graphWayUptoRow.holds Try.pinned (OpenSpec.upto graphWaySpec)

end Rows
end Go.Proofs.Ytcbfmplddjmiaaa
