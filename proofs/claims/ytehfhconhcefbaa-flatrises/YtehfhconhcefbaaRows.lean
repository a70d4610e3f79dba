/-
  No cell of these rows narrows 'for every input' (looked for: loops, veiled, ifaces, maps, wideKeys, modest, calm, conditions, laid).
  DERIVED. THE GIVEN ROWS OF THIS SEAT. 6 by the template 'for every input the law returns true; each argument reads behind the call as it read before'; 0 by the template 'total and deterministic' (their statements: YtehfhconhcefbaaTotals.lean).
  GIVEN WITH THE SEED: the statements are not yours to turn. If you find one false, say at which input.
  Laid BY PROGRAM, IN A SANDBOX (cutbox-rows.mjs): the forced cells as the released guide's own fill.sh prints them over the translation 1247e485772c8c50… (all of the seat's roots in one cut). By AI agents, Wed Nov 11 2026. No macro, syntax, notation, axiom, sorry.
-/
import Derived.Test.YtehfhconhcefbaaChecked
import GoSem.Claim
import GoSem.ClaimJoined
import GoSem.ClaimMapViews
import Derived.JoinedTies
import Derived.KernelRfl
namespace Go.Proofs.Ytehfhconhcefbaa
/- THE CELL 'sum', in the pinned program and in every row, IS THE sha256 OF THE DUMP (.gsa) THAT YtehfhconhcefbaaProg.lean LOADS. Nothing in Lean hashes anything: it is a label: what it is worth is what the hold of that sum in a sandbox is worth. -/
noncomputable def Try.pinned : Pinned := { name := "ytehfhconhcefbaa", sum := "1247e485772c8c506d334e1a02901f18f4d18f718440b31c8f382e959a4ff421", checked := Try.checked }
namespace Rows
def none {H : Type} : Left H := { results := [], args := [] }

/-- 'bywashlaw02.FlatIs': WHATEVER THE INPUT: true; the input reads as it did. -/
def flatIsSpec : ChangeSpec := { name := "flatIs", fn := fun _ => fun
  | [d1, d2, d3] => { results := [.lit (.bool true)], args := [d1, d2, d3] }
  | _ => none }
def flatIsRow : OpenClaim := { program := "ytehfhconhcefbaa", sum := "1247e485772c8c506d334e1a02901f18f4d18f718440b31c8f382e959a4ff421", func := "bywash/bywashlaw02.FlatIs", spec := "flatIs", unfollowed := true, recurses := true, apart := false }
def FlatIsSaid : Prop := flatIsRow.holds Try.pinned (OpenSpec.ofChange flatIsSpec)

/-- ITS FALSE NEIGHBOUR: 'it returns false'. Refute it at one input. -/
def flatIsWrong : ChangeSpec := { name := "flatIs", fn := fun _ => fun
  | [d1, d2, d3] => { results := [.lit (.bool false)], args := [d1, d2, d3] }
  | _ => none }
def FlatIsWrongFalsely : Prop := flatIsRow.holds Try.pinned (OpenSpec.ofChange flatIsWrong)

/-- 'bywashlaw02.FlatLattice': WHATEVER THE INPUT: true; the input reads as it did. -/
def flatLatticeSpec : ChangeSpec := { name := "flatLattice", fn := fun _ => fun
  | [d1, d2, d3] => { results := [.lit (.bool true)], args := [d1, d2, d3] }
  | _ => none }
def flatLatticeRow : OpenClaim := { program := "ytehfhconhcefbaa", sum := "1247e485772c8c506d334e1a02901f18f4d18f718440b31c8f382e959a4ff421", func := "bywash/bywashlaw02.FlatLattice", spec := "flatLattice", unfollowed := true, recurses := true, apart := false }
def FlatLatticeSaid : Prop := flatLatticeRow.holds Try.pinned (OpenSpec.ofChange flatLatticeSpec)

/-- ITS FALSE NEIGHBOUR: 'it returns false'. Refute it at one input. -/
def flatLatticeWrong : ChangeSpec := { name := "flatLattice", fn := fun _ => fun
  | [d1, d2, d3] => { results := [.lit (.bool false)], args := [d1, d2, d3] }
  | _ => none }
def FlatLatticeWrongFalsely : Prop := flatLatticeRow.holds Try.pinned (OpenSpec.ofChange flatLatticeWrong)

/-- 'bywashlaw02.FlatRises': WHATEVER THE INPUT: true; the input reads as it did. -/
def flatRisesSpec : ChangeSpec := { name := "flatRises", fn := fun _ => fun
  | [d1, d2, d3, d4] => { results := [.lit (.bool true)], args := [d1, d2, d3, d4] }
  | _ => none }
def flatRisesRow : OpenClaim := { program := "ytehfhconhcefbaa", sum := "1247e485772c8c506d334e1a02901f18f4d18f718440b31c8f382e959a4ff421", func := "bywash/bywashlaw02.FlatRises", spec := "flatRises", unfollowed := true, recurses := true, apart := false }
def FlatRisesSaid : Prop := flatRisesRow.holds Try.pinned (OpenSpec.ofChange flatRisesSpec)

/-- ITS FALSE NEIGHBOUR: 'it returns false'. Refute it at one input. -/
def flatRisesWrong : ChangeSpec := { name := "flatRises", fn := fun _ => fun
  | [d1, d2, d3, d4] => { results := [.lit (.bool false)], args := [d1, d2, d3, d4] }
  | _ => none }
def FlatRisesWrongFalsely : Prop := flatRisesRow.holds Try.pinned (OpenSpec.ofChange flatRisesWrong)

/-- 'bywashlaw02.FlatNumbers': WHATEVER THE INPUT: true; the input reads as it did. -/
def flatNumbersSpec : ChangeSpec := { name := "flatNumbers", fn := fun _ => fun
  | [d1, d2, d3] => { results := [.lit (.bool true)], args := [d1, d2, d3] }
  | _ => none }
def flatNumbersRow : OpenClaim := { program := "ytehfhconhcefbaa", sum := "1247e485772c8c506d334e1a02901f18f4d18f718440b31c8f382e959a4ff421", func := "bywash/bywashlaw02.FlatNumbers", spec := "flatNumbers", unfollowed := true, recurses := true, apart := false }
def FlatNumbersSaid : Prop := flatNumbersRow.holds Try.pinned (OpenSpec.ofChange flatNumbersSpec)

/-- ITS FALSE NEIGHBOUR: 'it returns false'. Refute it at one input. -/
def flatNumbersWrong : ChangeSpec := { name := "flatNumbers", fn := fun _ => fun
  | [d1, d2, d3] => { results := [.lit (.bool false)], args := [d1, d2, d3] }
  | _ => none }
def FlatNumbersWrongFalsely : Prop := flatNumbersRow.holds Try.pinned (OpenSpec.ofChange flatNumbersWrong)

/-- 'bywashlaw02.FlatHeight': WHATEVER THE INPUT: true; the input reads as it did. -/
def flatHeightSpec : ChangeSpec := { name := "flatHeight", fn := fun _ => fun
  | [d1, d2] => { results := [.lit (.bool true)], args := [d1, d2] }
  | _ => none }
def flatHeightRow : OpenClaim := { program := "ytehfhconhcefbaa", sum := "1247e485772c8c506d334e1a02901f18f4d18f718440b31c8f382e959a4ff421", func := "bywash/bywashlaw02.FlatHeight", spec := "flatHeight", unfollowed := true, recurses := true, apart := false }
def FlatHeightSaid : Prop := flatHeightRow.holds Try.pinned (OpenSpec.ofChange flatHeightSpec)

/-- ITS FALSE NEIGHBOUR: 'it returns false'. Refute it at one input. -/
def flatHeightWrong : ChangeSpec := { name := "flatHeight", fn := fun _ => fun
  | [d1, d2] => { results := [.lit (.bool false)], args := [d1, d2] }
  | _ => none }
def FlatHeightWrongFalsely : Prop := flatHeightRow.holds Try.pinned (OpenSpec.ofChange flatHeightWrong)

/-- 'bywashlaw02.FlatStrict': WHATEVER THE INPUT: true; the input reads as it did. -/
def flatStrictSpec : ChangeSpec := { name := "flatStrict", fn := fun _ => fun
  | [d1, d2] => { results := [.lit (.bool true)], args := [d1, d2] }
  | _ => none }
def flatStrictRow : OpenClaim := { program := "ytehfhconhcefbaa", sum := "1247e485772c8c506d334e1a02901f18f4d18f718440b31c8f382e959a4ff421", func := "bywash/bywashlaw02.FlatStrict", spec := "flatStrict", unfollowed := true, recurses := true, apart := false }
def FlatStrictSaid : Prop := flatStrictRow.holds Try.pinned (OpenSpec.ofChange flatStrictSpec)

/-- ITS FALSE NEIGHBOUR: 'it returns false'. Refute it at one input. -/
def flatStrictWrong : ChangeSpec := { name := "flatStrict", fn := fun _ => fun
  | [d1, d2] => { results := [.lit (.bool false)], args := [d1, d2] }
  | _ => none }
def FlatStrictWrongFalsely : Prop := flatStrictRow.holds Try.pinned (OpenSpec.ofChange flatStrictWrong)

/- THE SECOND FORM. 'bulk': how many values and letters a reading holds, each counted each time it is reached (what is shared counts as often as it is met; a slice's spare places count too). A statement '..UptoSaid' is the law's where the arguments, and the package variables that the reading takes, are together of bulk at most 1048576: NARROWER than '..Said'. Prove '..Said' where nothing that the law and all that it calls make is longer than what came in: it says more and counts as full. Else prove '..UptoSaid'. A law counts once. -/
mutual
def uptoBulk {H : Type} : DataW H → Nat
  | .lit (.string bytes) => bytes.length + 1
  | .lit _ => 1
  | .nil => 1
  | .ptr d => uptoBulk d + 1
  | .slice elems spare => uptoBulkAll elems + uptoBulkAll spare + 1
  | .agg parts => uptoBulkAll parts + 1
  | .iface _ d => uptoBulk d + 1
  | .map entries => uptoBulkEntries entries + 1
  | .held _ => 1
def uptoBulkAll {H : Type} : List (DataW H) → Nat
  | [] => 0
  | d :: r => uptoBulk d + uptoBulkAll r
def uptoBulkEntries {H : Type} : List (Lit × DataW H) → Nat
  | [] => 0
  | x :: r => uptoBulkEntry x + uptoBulkEntries r
def uptoBulkEntry {H : Type} : Lit × DataW H → Nat
  | (.string bytes, d) => bytes.length + uptoBulk d + 1
  | (_, d) => uptoBulk d + 1
 end
def uptoSmall : (H : Type) → List (DataW H) → Bool := fun _ ds => decide (uptoBulkAll ds ≤ 1048576)
def OpenSpec.upto (s : _root_.Go.ChangeSpec) : _root_.Go.OpenSpec := { _root_.Go.OpenSpec.ofChange s with cond := some uptoSmall }

/-- 'bywashlaw02.FlatIs', WHERE WHAT IT READS IS OF BULK AT MOST 1048576: true; the input reads as it did. -/
def flatIsUptoRow : OpenClaim := { program := "ytehfhconhcefbaa", sum := "1247e485772c8c506d334e1a02901f18f4d18f718440b31c8f382e959a4ff421", func := "bywash/bywashlaw02.FlatIs", spec := "flatIs", unfollowed := true, recurses := true, apart := false, narrowed := true }
def FlatIsUptoSaid : Prop := flatIsUptoRow.holds Try.pinned (OpenSpec.upto flatIsSpec)

/-- 'bywashlaw02.FlatLattice', WHERE WHAT IT READS IS OF BULK AT MOST 1048576: true; the input reads as it did. -/
def flatLatticeUptoRow : OpenClaim := { program := "ytehfhconhcefbaa", sum := "1247e485772c8c506d334e1a02901f18f4d18f718440b31c8f382e959a4ff421", func := "bywash/bywashlaw02.FlatLattice", spec := "flatLattice", unfollowed := true, recurses := true, apart := false, narrowed := true }
def FlatLatticeUptoSaid : Prop := flatLatticeUptoRow.holds Try.pinned (OpenSpec.upto flatLatticeSpec)

/-- 'bywashlaw02.FlatRises', WHERE WHAT IT READS IS OF BULK AT MOST 1048576: true; the input reads as it did. -/
def flatRisesUptoRow : OpenClaim := { program := "ytehfhconhcefbaa", sum := "1247e485772c8c506d334e1a02901f18f4d18f718440b31c8f382e959a4ff421", func := "bywash/bywashlaw02.FlatRises", spec := "flatRises", unfollowed := true, recurses := true, apart := false, narrowed := true }
def FlatRisesUptoSaid : Prop := flatRisesUptoRow.holds Try.pinned (OpenSpec.upto flatRisesSpec)

/-- 'bywashlaw02.FlatNumbers', WHERE WHAT IT READS IS OF BULK AT MOST 1048576: true; the input reads as it did. -/
def flatNumbersUptoRow : OpenClaim := { program := "ytehfhconhcefbaa", sum := "1247e485772c8c506d334e1a02901f18f4d18f718440b31c8f382e959a4ff421", func := "bywash/bywashlaw02.FlatNumbers", spec := "flatNumbers", unfollowed := true, recurses := true, apart := false, narrowed := true }
def FlatNumbersUptoSaid : Prop := flatNumbersUptoRow.holds Try.pinned (OpenSpec.upto flatNumbersSpec)

/-- 'bywashlaw02.FlatHeight', WHERE WHAT IT READS IS OF BULK AT MOST 1048576: true; the input reads as it did. -/
def flatHeightUptoRow : OpenClaim := { program := "ytehfhconhcefbaa", sum := "1247e485772c8c506d334e1a02901f18f4d18f718440b31c8f382e959a4ff421", func := "bywash/bywashlaw02.FlatHeight", spec := "flatHeight", unfollowed := true, recurses := true, apart := false, narrowed := true }
def FlatHeightUptoSaid : Prop := flatHeightUptoRow.holds Try.pinned (OpenSpec.upto flatHeightSpec)

/-- 'bywashlaw02.FlatStrict', WHERE WHAT IT READS IS OF BULK AT MOST 1048576: true; the input reads as it did. -/
def flatStrictUptoRow : OpenClaim := { program := "ytehfhconhcefbaa", sum := "1247e485772c8c506d334e1a02901f18f4d18f718440b31c8f382e959a4ff421", func := "bywash/bywashlaw02.FlatStrict", spec := "flatStrict", unfollowed := true, recurses := true, apart := false, narrowed := true }
def FlatStrictUptoSaid : Prop := flatStrictUptoRow.holds Try.pinned (OpenSpec.upto flatStrictSpec)

end Rows
end Go.Proofs.Ytehfhconhcefbaa
