/-
  NARROWER THAN 'FOR EVERY INPUT', by the rows' own cells (each row's printed sentence says how): InstrIs: laid · InstrSets: laid · InstrRises: laid · InstrTells: laid · InstrReach: laid · InstrLive: laid.
  DERIVED. THE GIVEN ROWS OF THIS SEAT. 6 by the template 'for every input the law returns true; each argument reads behind the call as it read before'; 0 by the template 'total and deterministic' (their statements: YtmcbedlmgffckaaDoorTotals.lean).
  GIVEN WITH THE SEED: the statements are not yours to turn. If you find one false, say at which input.
  Laid BY PROGRAM, IN A SANDBOX (cutbox-rows.mjs): the forced cells as the released guide's own fill.sh prints them over the translation 6353504006c9041e… (all of the seat's roots in one cut). By AI agents, Wed Nov 11 2026. No macro, syntax, notation, axiom, sorry.
-/
import Derived.Test.YtmcbedlmgffckaaDoorChecked
import GoSem.Claim
import GoSem.ClaimJoined
import GoSem.ClaimMapViews
import Derived.JoinedTies
import Derived.KernelRfl
namespace Go.Proofs.YtmcbedlmgffckaaDoor
/- THE CELL 'sum', in the pinned program and in every row, IS THE sha256 OF THE DUMP (.gsa) THAT YtmcbedlmgffckaaDoorProg.lean LOADS. Nothing in Lean hashes anything: it is a label: what it is worth is what the hold of that sum in a sandbox is worth. -/
noncomputable def Tryd.pinned : Pinned := { name := "ytmcbedlmgffckaadoor", sum := "6353504006c9041e650b1b1af9d0a951f124f42c67de8044fa09b46f6762dd5d", checked := Tryd.checked }
namespace Rows
def none {H : Type} : Left H := { results := [], args := [] }

/- WHAT THE LISTED PACKAGE-LEVEL VARIABLES READ AS WHEN THE CALL BEGINS. Each datum BY PROGRAM (the guide's laid-datum.mjs) off the statement by which the dump's own 'gosem.cut.vars' lays the variable. In a bare row this is a premise. The card (YtmcbedlmgffckaaDoorCards.lean) ties it to the program's text. -/
def laid_bywash_instr_kinds {H : Type} : DataW H := .agg [.agg [.lit (.string [99, 111, 110, 115, 116]), .lit (.bool true), .lit (.bool false), .lit (.bool false), .lit (.bool true), .lit (.bool false)], .agg [.lit (.string [99, 111, 112, 121]), .lit (.bool true), .lit (.bool true), .lit (.bool false), .lit (.bool false), .lit (.bool false)], .agg [.lit (.string [110, 101, 103]), .lit (.bool true), .lit (.bool true), .lit (.bool false), .lit (.bool false), .lit (.bool false)], .agg [.lit (.string [97, 100, 100]), .lit (.bool true), .lit (.bool true), .lit (.bool true), .lit (.bool false), .lit (.bool false)], .agg [.lit (.string [115, 117, 98]), .lit (.bool true), .lit (.bool true), .lit (.bool true), .lit (.bool false), .lit (.bool false)], .agg [.lit (.string [109, 117, 108]), .lit (.bool true), .lit (.bool true), .lit (.bool true), .lit (.bool false), .lit (.bool false)], .agg [.lit (.string [105, 110, 112, 117, 116]), .lit (.bool true), .lit (.bool false), .lit (.bool false), .lit (.bool false), .lit (.bool false)], .agg [.lit (.string [99, 97, 108, 108]), .lit (.bool true), .lit (.bool false), .lit (.bool false), .lit (.bool false), .lit (.bool true)], .agg [.lit (.string [117, 115, 101]), .lit (.bool false), .lit (.bool true), .lit (.bool false), .lit (.bool false), .lit (.bool false)], .agg [.lit (.string [114, 101, 116]), .lit (.bool false), .lit (.bool true), .lit (.bool false), .lit (.bool false), .lit (.bool false)]]
def laid_math_bits_deBruijn64tab {H : Type} : DataW H := .agg [.lit (.int .u8 0), .lit (.int .u8 1), .lit (.int .u8 56), .lit (.int .u8 2), .lit (.int .u8 57), .lit (.int .u8 49), .lit (.int .u8 28), .lit (.int .u8 3), .lit (.int .u8 61), .lit (.int .u8 58), .lit (.int .u8 42), .lit (.int .u8 50), .lit (.int .u8 38), .lit (.int .u8 29), .lit (.int .u8 17), .lit (.int .u8 4), .lit (.int .u8 62), .lit (.int .u8 47), .lit (.int .u8 59), .lit (.int .u8 36), .lit (.int .u8 45), .lit (.int .u8 43), .lit (.int .u8 51), .lit (.int .u8 22), .lit (.int .u8 53), .lit (.int .u8 39), .lit (.int .u8 33), .lit (.int .u8 30), .lit (.int .u8 24), .lit (.int .u8 18), .lit (.int .u8 12), .lit (.int .u8 5), .lit (.int .u8 63), .lit (.int .u8 55), .lit (.int .u8 48), .lit (.int .u8 27), .lit (.int .u8 60), .lit (.int .u8 41), .lit (.int .u8 37), .lit (.int .u8 16), .lit (.int .u8 46), .lit (.int .u8 35), .lit (.int .u8 44), .lit (.int .u8 21), .lit (.int .u8 52), .lit (.int .u8 32), .lit (.int .u8 23), .lit (.int .u8 11), .lit (.int .u8 54), .lit (.int .u8 26), .lit (.int .u8 40), .lit (.int .u8 15), .lit (.int .u8 34), .lit (.int .u8 20), .lit (.int .u8 31), .lit (.int .u8 10), .lit (.int .u8 25), .lit (.int .u8 14), .lit (.int .u8 19), .lit (.int .u8 9), .lit (.int .u8 13), .lit (.int .u8 8), .lit (.int .u8 7), .lit (.int .u8 6)]
def laid_bywash_sign_sums {H : Type} : DataW H := .agg [.agg [.lit (.int .i64 1), .lit (.int .i64 1), .lit (.int .i64 7)], .agg [.lit (.int .i64 1), .lit (.int .i64 2), .lit (.int .i64 4)], .agg [.lit (.int .i64 7), .lit (.int .i64 4), .lit (.int .i64 4)]]
def laid_bywash_sign_products {H : Type} : DataW H := .agg [.agg [.lit (.int .i64 4), .lit (.int .i64 2), .lit (.int .i64 1)], .agg [.lit (.int .i64 2), .lit (.int .i64 2), .lit (.int .i64 2)], .agg [.lit (.int .i64 1), .lit (.int .i64 2), .lit (.int .i64 4)]]

/-- 'bywashlaw05.InstrIs': WHATEVER THE INPUT: true; the input reads as it did. -/
def instrIsSpec : ChangeSpec := { name := "instrIs", fn := fun _ => fun
  | [d1, d2] => { results := [.lit (.bool true)], args := [d1, d2] }
  | _ => none }
def instrIsRow : OpenClaim := { program := "ytmcbedlmgffckaadoor", sum := "6353504006c9041e650b1b1af9d0a951f124f42c67de8044fa09b46f6762dd5d", func := "bywash/bywashlaw05.InstrIs", spec := "instrIs", recurses := true, named := ["bywash/instr.kinds"], apart := false, laid := [("bywash/instr.kinds", laid_bywash_instr_kinds)] }
def InstrIsSaid : Prop := instrIsRow.holds Tryd.pinned (OpenSpec.ofChange instrIsSpec)

/-- ITS FALSE NEIGHBOUR: 'it returns false'. Refute it at one input. -/
def instrIsWrong : ChangeSpec := { name := "instrIs", fn := fun _ => fun
  | [d1, d2] => { results := [.lit (.bool false)], args := [d1, d2] }
  | _ => none }
def InstrIsWrongFalsely : Prop := instrIsRow.holds Tryd.pinned (OpenSpec.ofChange instrIsWrong)

/-- 'bywashlaw05.InstrSets': WHATEVER THE INPUT: true; the input reads as it did. -/
def instrSetsSpec : ChangeSpec := { name := "instrSets", fn := fun _ => fun
  | [d1, d2, d3] => { results := [.lit (.bool true)], args := [d1, d2, d3] }
  | _ => none }
def instrSetsRow : OpenClaim := { program := "ytmcbedlmgffckaadoor", sum := "6353504006c9041e650b1b1af9d0a951f124f42c67de8044fa09b46f6762dd5d", func := "bywash/bywashlaw05.InstrSets", spec := "instrSets", unfollowed := true, recurses := true, named := ["bywash/instr.kinds"], apart := false, laid := [("bywash/instr.kinds", laid_bywash_instr_kinds)] }
def InstrSetsSaid : Prop := instrSetsRow.holds Tryd.pinned (OpenSpec.ofChange instrSetsSpec)

/-- ITS FALSE NEIGHBOUR: 'it returns false'. Refute it at one input. -/
def instrSetsWrong : ChangeSpec := { name := "instrSets", fn := fun _ => fun
  | [d1, d2, d3] => { results := [.lit (.bool false)], args := [d1, d2, d3] }
  | _ => none }
def InstrSetsWrongFalsely : Prop := instrSetsRow.holds Tryd.pinned (OpenSpec.ofChange instrSetsWrong)

/-- 'bywashlaw05.InstrRises': WHATEVER THE INPUT: true; the input reads as it did. -/
def instrRisesSpec : ChangeSpec := { name := "instrRises", fn := fun _ => fun
  | [d1, d2, d3, d4, d5, d6, d7, d8, d9] => { results := [.lit (.bool true)], args := [d1, d2, d3, d4, d5, d6, d7, d8, d9] }
  | _ => none }
def instrRisesRow : OpenClaim := { program := "ytmcbedlmgffckaadoor", sum := "6353504006c9041e650b1b1af9d0a951f124f42c67de8044fa09b46f6762dd5d", func := "bywash/bywashlaw05.InstrRises", spec := "instrRises", unfollowed := true, recurses := true, named := ["bywash/instr.kinds", "math/bits.deBruijn64tab", "bywash/sign.products", "bywash/sign.sums"], apart := false, laid := [("math/bits.deBruijn64tab", laid_math_bits_deBruijn64tab), ("bywash/sign.sums", laid_bywash_sign_sums), ("bywash/sign.products", laid_bywash_sign_products), ("bywash/instr.kinds", laid_bywash_instr_kinds)] }
def InstrRisesSaid : Prop := instrRisesRow.holds Tryd.pinned (OpenSpec.ofChange instrRisesSpec)

/-- ITS FALSE NEIGHBOUR: 'it returns false'. Refute it at one input. -/
def instrRisesWrong : ChangeSpec := { name := "instrRises", fn := fun _ => fun
  | [d1, d2, d3, d4, d5, d6, d7, d8, d9] => { results := [.lit (.bool false)], args := [d1, d2, d3, d4, d5, d6, d7, d8, d9] }
  | _ => none }
def InstrRisesWrongFalsely : Prop := instrRisesRow.holds Tryd.pinned (OpenSpec.ofChange instrRisesWrong)

/-- 'bywashlaw05.InstrTells': WHATEVER THE INPUT: true; the input reads as it did. -/
def instrTellsSpec : ChangeSpec := { name := "instrTells", fn := fun _ => fun
  | [d1, d2, d3] => { results := [.lit (.bool true)], args := [d1, d2, d3] }
  | _ => none }
def instrTellsRow : OpenClaim := { program := "ytmcbedlmgffckaadoor", sum := "6353504006c9041e650b1b1af9d0a951f124f42c67de8044fa09b46f6762dd5d", func := "bywash/bywashlaw05.InstrTells", spec := "instrTells", unfollowed := true, recurses := true, named := ["bywash/instr.kinds"], apart := false, laid := [("bywash/instr.kinds", laid_bywash_instr_kinds)] }
def InstrTellsSaid : Prop := instrTellsRow.holds Tryd.pinned (OpenSpec.ofChange instrTellsSpec)

/-- ITS FALSE NEIGHBOUR: 'it returns false'. Refute it at one input. -/
def instrTellsWrong : ChangeSpec := { name := "instrTells", fn := fun _ => fun
  | [d1, d2, d3] => { results := [.lit (.bool false)], args := [d1, d2, d3] }
  | _ => none }
def InstrTellsWrongFalsely : Prop := instrTellsRow.holds Tryd.pinned (OpenSpec.ofChange instrTellsWrong)

/-- 'bywashlaw05.InstrReach': WHATEVER THE INPUT: true; the input reads as it did. -/
def instrReachSpec : ChangeSpec := { name := "instrReach", fn := fun _ => fun
  | [d1, d2, d3, d4] => { results := [.lit (.bool true)], args := [d1, d2, d3, d4] }
  | _ => none }
def instrReachRow : OpenClaim := { program := "ytmcbedlmgffckaadoor", sum := "6353504006c9041e650b1b1af9d0a951f124f42c67de8044fa09b46f6762dd5d", func := "bywash/bywashlaw05.InstrReach", spec := "instrReach", unfollowed := true, recurses := true, named := ["bywash/instr.kinds"], apart := false, laid := [("bywash/instr.kinds", laid_bywash_instr_kinds)] }
def InstrReachSaid : Prop := instrReachRow.holds Tryd.pinned (OpenSpec.ofChange instrReachSpec)

/-- ITS FALSE NEIGHBOUR: 'it returns false'. Refute it at one input. -/
def instrReachWrong : ChangeSpec := { name := "instrReach", fn := fun _ => fun
  | [d1, d2, d3, d4] => { results := [.lit (.bool false)], args := [d1, d2, d3, d4] }
  | _ => none }
def InstrReachWrongFalsely : Prop := instrReachRow.holds Tryd.pinned (OpenSpec.ofChange instrReachWrong)

/-- 'bywashlaw05.InstrLive': WHATEVER THE INPUT: true; the input reads as it did. -/
def instrLiveSpec : ChangeSpec := { name := "instrLive", fn := fun _ => fun
  | [d1, d2, d3] => { results := [.lit (.bool true)], args := [d1, d2, d3] }
  | _ => none }
def instrLiveRow : OpenClaim := { program := "ytmcbedlmgffckaadoor", sum := "6353504006c9041e650b1b1af9d0a951f124f42c67de8044fa09b46f6762dd5d", func := "bywash/bywashlaw05.InstrLive", spec := "instrLive", named := ["bywash/instr.kinds"], apart := false, laid := [("bywash/instr.kinds", laid_bywash_instr_kinds)] }
def InstrLiveSaid : Prop := instrLiveRow.holds Tryd.pinned (OpenSpec.ofChange instrLiveSpec)

/-- ITS FALSE NEIGHBOUR: 'it returns false'. Refute it at one input. -/
def instrLiveWrong : ChangeSpec := { name := "instrLive", fn := fun _ => fun
  | [d1, d2, d3] => { results := [.lit (.bool false)], args := [d1, d2, d3] }
  | _ => none }
def InstrLiveWrongFalsely : Prop := instrLiveRow.holds Tryd.pinned (OpenSpec.ofChange instrLiveWrong)

/- THE SECOND FORM. 'bulk': how many values and letters a reading holds, each counted each time it is reached (what is shared counts as often as it is met; a slice's spare places count too). A statement '..UptoSaid' is the law's where the arguments, and the package variables that the reading takes, are together of bulk at most 1048576: NARROWER than '..Said'. Prove '..Said' where nothing that the law and all that it calls make is longer than what came in: it says more and counts as full. Else prove '..UptoSaid'. A law counts once. -/
mutual
def uptoBulk {H : Type} : DataW H → Nat
  | .lit (.string bytes) => bytes.length + 1
  | .lit _ => 1
  | .nil => 1
  | .ptr d => uptoBulk d + 1
  | .slice elems spare => uptoBulkAll elems + uptoBulkAll spare + 1
  | .agg parts => uptoBulkAll parts + 1
  | .iface _ d => uptoBulk d + 1
  | .map entries => uptoBulkEntries entries + 1
  | .held _ => 1
def uptoBulkAll {H : Type} : List (DataW H) → Nat
  | [] => 0
  | d :: r => uptoBulk d + uptoBulkAll r
def uptoBulkEntries {H : Type} : List (Lit × DataW H) → Nat
  | [] => 0
  | x :: r => uptoBulkEntry x + uptoBulkEntries r
def uptoBulkEntry {H : Type} : Lit × DataW H → Nat
  | (.string bytes, d) => bytes.length + uptoBulk d + 1
  | (_, d) => uptoBulk d + 1
 end
def uptoSmall : (H : Type) → List (DataW H) → Bool := fun _ ds => decide (uptoBulkAll ds ≤ 1048576)
def OpenSpec.upto (s : _root_.Go.ChangeSpec) : _root_.Go.OpenSpec := { _root_.Go.OpenSpec.ofChange s with cond := some uptoSmall }

/-- 'bywashlaw05.InstrIs', WHERE WHAT IT READS IS OF BULK AT MOST 1048576: true; the input reads as it did. -/
def instrIsUptoRow : OpenClaim := { program := "ytmcbedlmgffckaadoor", sum := "6353504006c9041e650b1b1af9d0a951f124f42c67de8044fa09b46f6762dd5d", func := "bywash/bywashlaw05.InstrIs", spec := "instrIs", recurses := true, named := ["bywash/instr.kinds"], apart := false, laid := [("bywash/instr.kinds", laid_bywash_instr_kinds)], narrowed := true }
def InstrIsUptoSaid : Prop := instrIsUptoRow.holds Tryd.pinned (OpenSpec.upto instrIsSpec)

/-- 'bywashlaw05.InstrSets', WHERE WHAT IT READS IS OF BULK AT MOST 1048576: true; the input reads as it did. -/
def instrSetsUptoRow : OpenClaim := { program := "ytmcbedlmgffckaadoor", sum := "6353504006c9041e650b1b1af9d0a951f124f42c67de8044fa09b46f6762dd5d", func := "bywash/bywashlaw05.InstrSets", spec := "instrSets", unfollowed := true, recurses := true, named := ["bywash/instr.kinds"], apart := false, laid := [("bywash/instr.kinds", laid_bywash_instr_kinds)], narrowed := true }
def InstrSetsUptoSaid : Prop := instrSetsUptoRow.holds Tryd.pinned (OpenSpec.upto instrSetsSpec)

/-- 'bywashlaw05.InstrRises', WHERE WHAT IT READS IS OF BULK AT MOST 1048576: true; the input reads as it did. -/
def instrRisesUptoRow : OpenClaim := { program := "ytmcbedlmgffckaadoor", sum := "6353504006c9041e650b1b1af9d0a951f124f42c67de8044fa09b46f6762dd5d", func := "bywash/bywashlaw05.InstrRises", spec := "instrRises", unfollowed := true, recurses := true, named := ["bywash/instr.kinds", "math/bits.deBruijn64tab", "bywash/sign.products", "bywash/sign.sums"], apart := false, laid := [("math/bits.deBruijn64tab", laid_math_bits_deBruijn64tab), ("bywash/sign.sums", laid_bywash_sign_sums), ("bywash/sign.products", laid_bywash_sign_products), ("bywash/instr.kinds", laid_bywash_instr_kinds)], narrowed := true }
def InstrRisesUptoSaid : Prop := instrRisesUptoRow.holds Tryd.pinned (OpenSpec.upto instrRisesSpec)

/-- 'bywashlaw05.InstrTells', WHERE WHAT IT READS IS OF BULK AT MOST 1048576: true; the input reads as it did. -/
def instrTellsUptoRow : OpenClaim := { program := "ytmcbedlmgffckaadoor", sum := "6353504006c9041e650b1b1af9d0a951f124f42c67de8044fa09b46f6762dd5d", func := "bywash/bywashlaw05.InstrTells", spec := "instrTells", unfollowed := true, recurses := true, named := ["bywash/instr.kinds"], apart := false, laid := [("bywash/instr.kinds", laid_bywash_instr_kinds)], narrowed := true }
def InstrTellsUptoSaid : Prop := instrTellsUptoRow.holds Tryd.pinned (OpenSpec.upto instrTellsSpec)

/-- 'bywashlaw05.InstrReach', WHERE WHAT IT READS IS OF BULK AT MOST 1048576: true; the input reads as it did. -/
def instrReachUptoRow : OpenClaim := { program := "ytmcbedlmgffckaadoor", sum := "6353504006c9041e650b1b1af9d0a951f124f42c67de8044fa09b46f6762dd5d", func := "bywash/bywashlaw05.InstrReach", spec := "instrReach", unfollowed := true, recurses := true, named := ["bywash/instr.kinds"], apart := false, laid := [("bywash/instr.kinds", laid_bywash_instr_kinds)], narrowed := true }
def InstrReachUptoSaid : Prop := instrReachUptoRow.holds Tryd.pinned (OpenSpec.upto instrReachSpec)

/-- 'bywashlaw05.InstrLive', WHERE WHAT IT READS IS OF BULK AT MOST 1048576: true; the input reads as it did. -/
def instrLiveUptoRow : OpenClaim := { program := "ytmcbedlmgffckaadoor", sum := "6353504006c9041e650b1b1af9d0a951f124f42c67de8044fa09b46f6762dd5d", func := "bywash/bywashlaw05.InstrLive", spec := "instrLive", named := ["bywash/instr.kinds"], apart := false, laid := [("bywash/instr.kinds", laid_bywash_instr_kinds)], narrowed := true }
def InstrLiveUptoSaid : Prop := instrLiveUptoRow.holds Tryd.pinned (OpenSpec.upto instrLiveSpec)

end Rows
end Go.Proofs.YtmcbedlmgffckaaDoor
