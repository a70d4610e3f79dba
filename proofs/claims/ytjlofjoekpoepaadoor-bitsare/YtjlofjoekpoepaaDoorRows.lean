/-
  NARROWER THAN 'FOR EVERY INPUT', by the rows' own cells (each row's printed sentence says how): BitsAre: laid · BitsTwo: laid · BitsOne: laid · BitsLattice: laid · BitsList: laid · BitsChain: laid · BitsMinus: laid.
  DERIVED. THE GIVEN ROWS OF THIS SEAT. 7 by the template 'for every input the law returns true; each argument reads behind the call as it read before'; 0 by the template 'total and deterministic' (their statements: YtjlofjoekpoepaaDoorTotals.lean).
  GIVEN WITH THE SEED: the statements are not yours to turn. If you find one false, say at which input.
  Laid BY PROGRAM, IN A SANDBOX (cutbox-rows.mjs): the forced cells as the released guide's own fill.sh prints them over the translation c2abd7e0e3828927… (all of the seat's roots in one cut). By AI agents, Wed Nov 11 2026. No macro, syntax, notation, axiom, sorry.
-/
import Derived.Test.YtjlofjoekpoepaaDoorChecked
import GoSem.Claim
import GoSem.ClaimJoined
import GoSem.ClaimMapViews
import Derived.JoinedTies
import Derived.KernelRfl
namespace Go.Proofs.YtjlofjoekpoepaaDoor
/- THE CELL 'sum', in the pinned program and in every row, IS THE sha256 OF THE DUMP (.gsa) THAT YtjlofjoekpoepaaDoorProg.lean LOADS. Nothing in Lean hashes anything: it is a label: what it is worth is what the hold of that sum in a sandbox is worth. -/
noncomputable def Tryd.pinned : Pinned := { name := "ytjlofjoekpoepaadoor", sum := "c2abd7e0e3828927b5c5feeeeba6afad9d9b27435f8f2a736824ede62c902ab5", checked := Tryd.checked }
namespace Rows
def none {H : Type} : Left H := { results := [], args := [] }

/- WHAT THE LISTED PACKAGE-LEVEL VARIABLES READ AS WHEN THE CALL BEGINS. Each datum BY PROGRAM (the guide's laid-datum.mjs) off the statement by which the dump's own 'gosem.cut.vars' lays the variable. In a bare row this is a premise. The card (YtjlofjoekpoepaaDoorCards.lean) ties it to the program's text. -/
def laid_math_bits_deBruijn64tab {H : Type} : DataW H := .agg [.lit (.int .u8 0), .lit (.int .u8 1), .lit (.int .u8 56), .lit (.int .u8 2), .lit (.int .u8 57), .lit (.int .u8 49), .lit (.int .u8 28), .lit (.int .u8 3), .lit (.int .u8 61), .lit (.int .u8 58), .lit (.int .u8 42), .lit (.int .u8 50), .lit (.int .u8 38), .lit (.int .u8 29), .lit (.int .u8 17), .lit (.int .u8 4), .lit (.int .u8 62), .lit (.int .u8 47), .lit (.int .u8 59), .lit (.int .u8 36), .lit (.int .u8 45), .lit (.int .u8 43), .lit (.int .u8 51), .lit (.int .u8 22), .lit (.int .u8 53), .lit (.int .u8 39), .lit (.int .u8 33), .lit (.int .u8 30), .lit (.int .u8 24), .lit (.int .u8 18), .lit (.int .u8 12), .lit (.int .u8 5), .lit (.int .u8 63), .lit (.int .u8 55), .lit (.int .u8 48), .lit (.int .u8 27), .lit (.int .u8 60), .lit (.int .u8 41), .lit (.int .u8 37), .lit (.int .u8 16), .lit (.int .u8 46), .lit (.int .u8 35), .lit (.int .u8 44), .lit (.int .u8 21), .lit (.int .u8 52), .lit (.int .u8 32), .lit (.int .u8 23), .lit (.int .u8 11), .lit (.int .u8 54), .lit (.int .u8 26), .lit (.int .u8 40), .lit (.int .u8 15), .lit (.int .u8 34), .lit (.int .u8 20), .lit (.int .u8 31), .lit (.int .u8 10), .lit (.int .u8 25), .lit (.int .u8 14), .lit (.int .u8 19), .lit (.int .u8 9), .lit (.int .u8 13), .lit (.int .u8 8), .lit (.int .u8 7), .lit (.int .u8 6)]

/-- 'bywashlaw01.BitsAre': WHATEVER THE INPUT: true; the input reads as it did. -/
def bitsAreSpec : ChangeSpec := { name := "bitsAre", fn := fun _ => fun
  | [d1, d2, d3, d4] => { results := [.lit (.bool true)], args := [d1, d2, d3, d4] }
  | _ => none }
def bitsAreRow : OpenClaim := { program := "ytjlofjoekpoepaadoor", sum := "c2abd7e0e3828927b5c5feeeeba6afad9d9b27435f8f2a736824ede62c902ab5", func := "bywash/bywashlaw01.BitsAre", spec := "bitsAre", unfollowed := true, recurses := true, named := ["math/bits.deBruijn64tab"], apart := false, laid := [("math/bits.deBruijn64tab", laid_math_bits_deBruijn64tab)] }
def BitsAreSaid : Prop := bitsAreRow.holds Tryd.pinned (OpenSpec.ofChange bitsAreSpec)

/-- ITS FALSE NEIGHBOUR: 'it returns false'. Refute it at one input. -/
def bitsAreWrong : ChangeSpec := { name := "bitsAre", fn := fun _ => fun
  | [d1, d2, d3, d4] => { results := [.lit (.bool false)], args := [d1, d2, d3, d4] }
  | _ => none }
def BitsAreWrongFalsely : Prop := bitsAreRow.holds Tryd.pinned (OpenSpec.ofChange bitsAreWrong)

/-- 'bywashlaw01.BitsTwo': WHATEVER THE INPUT: true; the input reads as it did. -/
def bitsTwoSpec : ChangeSpec := { name := "bitsTwo", fn := fun _ => fun
  | [d1, d2] => { results := [.lit (.bool true)], args := [d1, d2] }
  | _ => none }
def bitsTwoRow : OpenClaim := { program := "ytjlofjoekpoepaadoor", sum := "c2abd7e0e3828927b5c5feeeeba6afad9d9b27435f8f2a736824ede62c902ab5", func := "bywash/bywashlaw01.BitsTwo", spec := "bitsTwo", unfollowed := true, recurses := true, named := ["math/bits.deBruijn64tab"], apart := false, laid := [("math/bits.deBruijn64tab", laid_math_bits_deBruijn64tab)] }
def BitsTwoSaid : Prop := bitsTwoRow.holds Tryd.pinned (OpenSpec.ofChange bitsTwoSpec)

/-- ITS FALSE NEIGHBOUR: 'it returns false'. Refute it at one input. -/
def bitsTwoWrong : ChangeSpec := { name := "bitsTwo", fn := fun _ => fun
  | [d1, d2] => { results := [.lit (.bool false)], args := [d1, d2] }
  | _ => none }
def BitsTwoWrongFalsely : Prop := bitsTwoRow.holds Tryd.pinned (OpenSpec.ofChange bitsTwoWrong)

/-- 'bywashlaw01.BitsOne': WHATEVER THE INPUT: true; the input reads as it did. -/
def bitsOneSpec : ChangeSpec := { name := "bitsOne", fn := fun _ => fun
  | [d1, d2, d3] => { results := [.lit (.bool true)], args := [d1, d2, d3] }
  | _ => none }
def bitsOneRow : OpenClaim := { program := "ytjlofjoekpoepaadoor", sum := "c2abd7e0e3828927b5c5feeeeba6afad9d9b27435f8f2a736824ede62c902ab5", func := "bywash/bywashlaw01.BitsOne", spec := "bitsOne", unfollowed := true, recurses := true, named := ["math/bits.deBruijn64tab"], apart := false, laid := [("math/bits.deBruijn64tab", laid_math_bits_deBruijn64tab)] }
def BitsOneSaid : Prop := bitsOneRow.holds Tryd.pinned (OpenSpec.ofChange bitsOneSpec)

/-- ITS FALSE NEIGHBOUR: 'it returns false'. Refute it at one input. -/
def bitsOneWrong : ChangeSpec := { name := "bitsOne", fn := fun _ => fun
  | [d1, d2, d3] => { results := [.lit (.bool false)], args := [d1, d2, d3] }
  | _ => none }
def BitsOneWrongFalsely : Prop := bitsOneRow.holds Tryd.pinned (OpenSpec.ofChange bitsOneWrong)

/-- 'bywashlaw01.BitsLattice': WHATEVER THE INPUT: true; the input reads as it did. -/
def bitsLatticeSpec : ChangeSpec := { name := "bitsLattice", fn := fun _ => fun
  | [d1, d2, d3] => { results := [.lit (.bool true)], args := [d1, d2, d3] }
  | _ => none }
def bitsLatticeRow : OpenClaim := { program := "ytjlofjoekpoepaadoor", sum := "c2abd7e0e3828927b5c5feeeeba6afad9d9b27435f8f2a736824ede62c902ab5", func := "bywash/bywashlaw01.BitsLattice", spec := "bitsLattice", unfollowed := true, recurses := true, named := ["math/bits.deBruijn64tab"], apart := false, laid := [("math/bits.deBruijn64tab", laid_math_bits_deBruijn64tab)] }
def BitsLatticeSaid : Prop := bitsLatticeRow.holds Tryd.pinned (OpenSpec.ofChange bitsLatticeSpec)

/-- ITS FALSE NEIGHBOUR: 'it returns false'. Refute it at one input. -/
def bitsLatticeWrong : ChangeSpec := { name := "bitsLattice", fn := fun _ => fun
  | [d1, d2, d3] => { results := [.lit (.bool false)], args := [d1, d2, d3] }
  | _ => none }
def BitsLatticeWrongFalsely : Prop := bitsLatticeRow.holds Tryd.pinned (OpenSpec.ofChange bitsLatticeWrong)

/-- 'bywashlaw01.BitsList': WHATEVER THE INPUT: true; the input reads as it did. -/
def bitsListSpec : ChangeSpec := { name := "bitsList", fn := fun _ => fun
  | [d] => { results := [.lit (.bool true)], args := [d] }
  | _ => none }
def bitsListRow : OpenClaim := { program := "ytjlofjoekpoepaadoor", sum := "c2abd7e0e3828927b5c5feeeeba6afad9d9b27435f8f2a736824ede62c902ab5", func := "bywash/bywashlaw01.BitsList", spec := "bitsList", unfollowed := true, recurses := true, named := ["math/bits.deBruijn64tab"], apart := false, laid := [("math/bits.deBruijn64tab", laid_math_bits_deBruijn64tab)] }
def BitsListSaid : Prop := bitsListRow.holds Tryd.pinned (OpenSpec.ofChange bitsListSpec)

/-- ITS FALSE NEIGHBOUR: 'it returns false'. Refute it at one input. -/
def bitsListWrong : ChangeSpec := { name := "bitsList", fn := fun _ => fun
  | [d] => { results := [.lit (.bool false)], args := [d] }
  | _ => none }
def BitsListWrongFalsely : Prop := bitsListRow.holds Tryd.pinned (OpenSpec.ofChange bitsListWrong)

/-- 'bywashlaw01.BitsChain': WHATEVER THE INPUT: true; the input reads as it did. -/
def bitsChainSpec : ChangeSpec := { name := "bitsChain", fn := fun _ => fun
  | [d1, d2] => { results := [.lit (.bool true)], args := [d1, d2] }
  | _ => none }
def bitsChainRow : OpenClaim := { program := "ytjlofjoekpoepaadoor", sum := "c2abd7e0e3828927b5c5feeeeba6afad9d9b27435f8f2a736824ede62c902ab5", func := "bywash/bywashlaw01.BitsChain", spec := "bitsChain", unfollowed := true, recurses := true, named := ["math/bits.deBruijn64tab"], apart := false, laid := [("math/bits.deBruijn64tab", laid_math_bits_deBruijn64tab)] }
def BitsChainSaid : Prop := bitsChainRow.holds Tryd.pinned (OpenSpec.ofChange bitsChainSpec)

/-- ITS FALSE NEIGHBOUR: 'it returns false'. Refute it at one input. -/
def bitsChainWrong : ChangeSpec := { name := "bitsChain", fn := fun _ => fun
  | [d1, d2] => { results := [.lit (.bool false)], args := [d1, d2] }
  | _ => none }
def BitsChainWrongFalsely : Prop := bitsChainRow.holds Tryd.pinned (OpenSpec.ofChange bitsChainWrong)

/-- 'bywashlaw01.BitsMinus': WHATEVER THE INPUT: true; the input reads as it did. -/
def bitsMinusSpec : ChangeSpec := { name := "bitsMinus", fn := fun _ => fun
  | [d1, d2] => { results := [.lit (.bool true)], args := [d1, d2] }
  | _ => none }
def bitsMinusRow : OpenClaim := { program := "ytjlofjoekpoepaadoor", sum := "c2abd7e0e3828927b5c5feeeeba6afad9d9b27435f8f2a736824ede62c902ab5", func := "bywash/bywashlaw01.BitsMinus", spec := "bitsMinus", unfollowed := true, recurses := true, named := ["math/bits.deBruijn64tab"], apart := false, laid := [("math/bits.deBruijn64tab", laid_math_bits_deBruijn64tab)] }
def BitsMinusSaid : Prop := bitsMinusRow.holds Tryd.pinned (OpenSpec.ofChange bitsMinusSpec)

/-- ITS FALSE NEIGHBOUR: 'it returns false'. Refute it at one input. -/
def bitsMinusWrong : ChangeSpec := { name := "bitsMinus", fn := fun _ => fun
  | [d1, d2] => { results := [.lit (.bool false)], args := [d1, d2] }
  | _ => none }
def BitsMinusWrongFalsely : Prop := bitsMinusRow.holds Tryd.pinned (OpenSpec.ofChange bitsMinusWrong)

/- THE SECOND FORM. 'bulk': how many values and letters a reading holds, each counted each time it is reached (what is shared counts as often as it is met; a slice's spare places count too). A statement '..UptoSaid' is the law's where the arguments, and the package variables that the reading takes, are together of bulk at most 1048576: NARROWER than '..Said'. Prove '..Said' where nothing that the law and all that it calls make is longer than what came in: it says more and counts as full. Else prove '..UptoSaid'. A law counts once. -/
mutual
def uptoBulk {H : Type} : DataW H → Nat
  | .lit (.string bytes) => bytes.length + 1
  | .lit _ => 1
  | .nil => 1
  | .ptr d => uptoBulk d + 1
  | .slice elems spare => uptoBulkAll elems + uptoBulkAll spare + 1
  | .agg parts => uptoBulkAll parts + 1
  | .iface _ d => uptoBulk d + 1
  | .map entries => uptoBulkEntries entries + 1
  | .held _ => 1
def uptoBulkAll {H : Type} : List (DataW H) → Nat
  | [] => 0
  | d :: r => uptoBulk d + uptoBulkAll r
def uptoBulkEntries {H : Type} : List (Lit × DataW H) → Nat
  | [] => 0
  | x :: r => uptoBulkEntry x + uptoBulkEntries r
def uptoBulkEntry {H : Type} : Lit × DataW H → Nat
  | (.string bytes, d) => bytes.length + uptoBulk d + 1
  | (_, d) => uptoBulk d + 1
 end
def uptoSmall : (H : Type) → List (DataW H) → Bool := fun _ ds => decide (uptoBulkAll ds ≤ 1048576)
def OpenSpec.upto (s : _root_.Go.ChangeSpec) : _root_.Go.OpenSpec := { _root_.Go.OpenSpec.ofChange s with cond := some uptoSmall }

/-- 'bywashlaw01.BitsAre', WHERE WHAT IT READS IS OF BULK AT MOST 1048576: true; the input reads as it did. -/
def bitsAreUptoRow : OpenClaim := { program := "ytjlofjoekpoepaadoor", sum := "c2abd7e0e3828927b5c5feeeeba6afad9d9b27435f8f2a736824ede62c902ab5", func := "bywash/bywashlaw01.BitsAre", spec := "bitsAre", unfollowed := true, recurses := true, named := ["math/bits.deBruijn64tab"], apart := false, laid := [("math/bits.deBruijn64tab", laid_math_bits_deBruijn64tab)], narrowed := true }
def BitsAreUptoSaid : Prop := bitsAreUptoRow.holds Tryd.pinned (OpenSpec.upto bitsAreSpec)

/-- 'bywashlaw01.BitsTwo', WHERE WHAT IT READS IS OF BULK AT MOST 1048576: true; the input reads as it did. -/
def bitsTwoUptoRow : OpenClaim := { program := "ytjlofjoekpoepaadoor", sum := "c2abd7e0e3828927b5c5feeeeba6afad9d9b27435f8f2a736824ede62c902ab5", func := "bywash/bywashlaw01.BitsTwo", spec := "bitsTwo", unfollowed := true, recurses := true, named := ["math/bits.deBruijn64tab"], apart := false, laid := [("math/bits.deBruijn64tab", laid_math_bits_deBruijn64tab)], narrowed := true }
def BitsTwoUptoSaid : Prop := bitsTwoUptoRow.holds Tryd.pinned (OpenSpec.upto bitsTwoSpec)

/-- 'bywashlaw01.BitsOne', WHERE WHAT IT READS IS OF BULK AT MOST 1048576: true; the input reads as it did. -/
def bitsOneUptoRow : OpenClaim := { program := "ytjlofjoekpoepaadoor", sum := "c2abd7e0e3828927b5c5feeeeba6afad9d9b27435f8f2a736824ede62c902ab5", func := "bywash/bywashlaw01.BitsOne", spec := "bitsOne", unfollowed := true, recurses := true, named := ["math/bits.deBruijn64tab"], apart := false, laid := [("math/bits.deBruijn64tab", laid_math_bits_deBruijn64tab)], narrowed := true }
def BitsOneUptoSaid : Prop := bitsOneUptoRow.holds Tryd.pinned (OpenSpec.upto bitsOneSpec)

/-- 'bywashlaw01.BitsLattice', WHERE WHAT IT READS IS OF BULK AT MOST 1048576: true; the input reads as it did. -/
def bitsLatticeUptoRow : OpenClaim := { program := "ytjlofjoekpoepaadoor", sum := "c2abd7e0e3828927b5c5feeeeba6afad9d9b27435f8f2a736824ede62c902ab5", func := "bywash/bywashlaw01.BitsLattice", spec := "bitsLattice", unfollowed := true, recurses := true, named := ["math/bits.deBruijn64tab"], apart := false, laid := [("math/bits.deBruijn64tab", laid_math_bits_deBruijn64tab)], narrowed := true }
def BitsLatticeUptoSaid : Prop := bitsLatticeUptoRow.holds Tryd.pinned (OpenSpec.upto bitsLatticeSpec)

/-- 'bywashlaw01.BitsList', WHERE WHAT IT READS IS OF BULK AT MOST 1048576: true; the input reads as it did. -/
def bitsListUptoRow : OpenClaim := { program := "ytjlofjoekpoepaadoor", sum := "c2abd7e0e3828927b5c5feeeeba6afad9d9b27435f8f2a736824ede62c902ab5", func := "bywash/bywashlaw01.BitsList", spec := "bitsList", unfollowed := true, recurses := true, named := ["math/bits.deBruijn64tab"], apart := false, laid := [("math/bits.deBruijn64tab", laid_math_bits_deBruijn64tab)], narrowed := true }
def BitsListUptoSaid : Prop := bitsListUptoRow.holds Tryd.pinned (OpenSpec.upto bitsListSpec)

/-- 'bywashlaw01.BitsChain', WHERE WHAT IT READS IS OF BULK AT MOST 1048576: true; the input reads as it did. -/
def bitsChainUptoRow : OpenClaim := { program := "ytjlofjoekpoepaadoor", sum := "c2abd7e0e3828927b5c5feeeeba6afad9d9b27435f8f2a736824ede62c902ab5", func := "bywash/bywashlaw01.BitsChain", spec := "bitsChain", unfollowed := true, recurses := true, named := ["math/bits.deBruijn64tab"], apart := false, laid := [("math/bits.deBruijn64tab", laid_math_bits_deBruijn64tab)], narrowed := true }
def BitsChainUptoSaid : Prop := bitsChainUptoRow.holds Tryd.pinned (OpenSpec.upto bitsChainSpec)

/-- 'bywashlaw01.BitsMinus', WHERE WHAT IT READS IS OF BULK AT MOST 1048576: true; the input reads as it did. -/
def bitsMinusUptoRow : OpenClaim := { program := "ytjlofjoekpoepaadoor", sum := "c2abd7e0e3828927b5c5feeeeba6afad9d9b27435f8f2a736824ede62c902ab5", func := "bywash/bywashlaw01.BitsMinus", spec := "bitsMinus", unfollowed := true, recurses := true, named := ["math/bits.deBruijn64tab"], apart := false, laid := [("math/bits.deBruijn64tab", laid_math_bits_deBruijn64tab)], narrowed := true }
def BitsMinusUptoSaid : Prop := bitsMinusUptoRow.holds Tryd.pinned (OpenSpec.upto bitsMinusSpec)

end Rows
end Go.Proofs.YtjlofjoekpoepaaDoor
