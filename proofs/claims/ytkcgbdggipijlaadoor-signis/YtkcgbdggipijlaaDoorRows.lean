/-
  NARROWER THAN 'FOR EVERY INPUT', by the rows' own cells (each row's printed sentence says how): SignIs: laid · SignTells: laid · SignRises: laid · SignList: laid · SignMakes: laid · SignFlat: laid.
  DERIVED. THE GIVEN ROWS OF THIS SEAT. 6 by the template 'for every input the law returns true; each argument reads behind the call as it read before'; 0 by the template 'total and deterministic' (their statements: YtkcgbdggipijlaaDoorTotals.lean).
  GIVEN WITH THE SEED: the statements are not yours to turn. If you find one false, say at which input.
  Laid BY PROGRAM, IN A SANDBOX (cutbox-rows.mjs): the forced cells as the released guide's own fill.sh prints them over the translation b17a9b5fd5022b17… (all of the seat's roots in one cut). By AI agents, Wed Nov 11 2026. No macro, syntax, notation, axiom, sorry.
-/
import Derived.Test.YtkcgbdggipijlaaDoorChecked
import GoSem.Claim
import GoSem.ClaimJoined
import GoSem.ClaimMapViews
import Derived.JoinedTies
import Derived.KernelRfl
namespace Go.Proofs.YtkcgbdggipijlaaDoor
/- THE CELL 'sum', in the pinned program and in every row, IS THE sha256 OF THE DUMP (.gsa) THAT YtkcgbdggipijlaaDoorProg.lean LOADS. Nothing in Lean hashes anything: it is a label: what it is worth is what the hold of that sum in a sandbox is worth. -/
noncomputable def Tryd.pinned : Pinned := { name := "ytkcgbdggipijlaadoor", sum := "b17a9b5fd5022b17940a5b43f9a5a22919a997d29a72f3a381d3527390e7283f", checked := Tryd.checked }
namespace Rows
def none {H : Type} : Left H := { results := [], args := [] }

/- WHAT THE LISTED PACKAGE-LEVEL VARIABLES READ AS WHEN THE CALL BEGINS. Each datum BY PROGRAM (the guide's laid-datum.mjs) off the statement by which the dump's own 'gosem.cut.vars' lays the variable. In a bare row this is a premise. The card (YtkcgbdggipijlaaDoorCards.lean) ties it to the program's text. -/
def laid_bywash_sign_sums {H : Type} : DataW H := .agg [.agg [.lit (.int .i64 1), .lit (.int .i64 1), .lit (.int .i64 7)], .agg [.lit (.int .i64 1), .lit (.int .i64 2), .lit (.int .i64 4)], .agg [.lit (.int .i64 7), .lit (.int .i64 4), .lit (.int .i64 4)]]
def laid_bywash_sign_products {H : Type} : DataW H := .agg [.agg [.lit (.int .i64 4), .lit (.int .i64 2), .lit (.int .i64 1)], .agg [.lit (.int .i64 2), .lit (.int .i64 2), .lit (.int .i64 2)], .agg [.lit (.int .i64 1), .lit (.int .i64 2), .lit (.int .i64 4)]]

/-- 'bywashlaw03.SignIs': WHATEVER THE INPUT: true; the input reads as it did. -/
def signIsSpec : ChangeSpec := { name := "signIs", fn := fun _ => fun
  | [d1, d2, d3, d4] => { results := [.lit (.bool true)], args := [d1, d2, d3, d4] }
  | _ => none }
def signIsRow : OpenClaim := { program := "ytkcgbdggipijlaadoor", sum := "b17a9b5fd5022b17940a5b43f9a5a22919a997d29a72f3a381d3527390e7283f", func := "bywash/bywashlaw03.SignIs", spec := "signIs", unfollowed := true, recurses := true, named := ["bywash/sign.sums", "bywash/sign.products"], apart := false, laid := [("bywash/sign.sums", laid_bywash_sign_sums), ("bywash/sign.products", laid_bywash_sign_products)] }
def SignIsSaid : Prop := signIsRow.holds Tryd.pinned (OpenSpec.ofChange signIsSpec)

/-- ITS FALSE NEIGHBOUR: 'it returns false'. Refute it at one input. -/
def signIsWrong : ChangeSpec := { name := "signIs", fn := fun _ => fun
  | [d1, d2, d3, d4] => { results := [.lit (.bool false)], args := [d1, d2, d3, d4] }
  | _ => none }
def SignIsWrongFalsely : Prop := signIsRow.holds Tryd.pinned (OpenSpec.ofChange signIsWrong)

/-- 'bywashlaw03.SignTells': WHATEVER THE INPUT: true; the input reads as it did. -/
def signTellsSpec : ChangeSpec := { name := "signTells", fn := fun _ => fun
  | [d1, d2] => { results := [.lit (.bool true)], args := [d1, d2] }
  | _ => none }
def signTellsRow : OpenClaim := { program := "ytkcgbdggipijlaadoor", sum := "b17a9b5fd5022b17940a5b43f9a5a22919a997d29a72f3a381d3527390e7283f", func := "bywash/bywashlaw03.SignTells", spec := "signTells", unfollowed := true, recurses := true, named := ["bywash/sign.sums", "bywash/sign.products"], apart := false, laid := [("bywash/sign.sums", laid_bywash_sign_sums), ("bywash/sign.products", laid_bywash_sign_products)] }
def SignTellsSaid : Prop := signTellsRow.holds Tryd.pinned (OpenSpec.ofChange signTellsSpec)

/-- ITS FALSE NEIGHBOUR: 'it returns false'. Refute it at one input. -/
def signTellsWrong : ChangeSpec := { name := "signTells", fn := fun _ => fun
  | [d1, d2] => { results := [.lit (.bool false)], args := [d1, d2] }
  | _ => none }
def SignTellsWrongFalsely : Prop := signTellsRow.holds Tryd.pinned (OpenSpec.ofChange signTellsWrong)

/-- 'bywashlaw03.SignRises': WHATEVER THE INPUT: true; the input reads as it did. -/
def signRisesSpec : ChangeSpec := { name := "signRises", fn := fun _ => fun
  | [d1, d2, d3] => { results := [.lit (.bool true)], args := [d1, d2, d3] }
  | _ => none }
def signRisesRow : OpenClaim := { program := "ytkcgbdggipijlaadoor", sum := "b17a9b5fd5022b17940a5b43f9a5a22919a997d29a72f3a381d3527390e7283f", func := "bywash/bywashlaw03.SignRises", spec := "signRises", unfollowed := true, recurses := true, named := ["bywash/sign.sums", "bywash/sign.products"], apart := false, laid := [("bywash/sign.sums", laid_bywash_sign_sums), ("bywash/sign.products", laid_bywash_sign_products)] }
def SignRisesSaid : Prop := signRisesRow.holds Tryd.pinned (OpenSpec.ofChange signRisesSpec)

/-- ITS FALSE NEIGHBOUR: 'it returns false'. Refute it at one input. -/
def signRisesWrong : ChangeSpec := { name := "signRises", fn := fun _ => fun
  | [d1, d2, d3] => { results := [.lit (.bool false)], args := [d1, d2, d3] }
  | _ => none }
def SignRisesWrongFalsely : Prop := signRisesRow.holds Tryd.pinned (OpenSpec.ofChange signRisesWrong)

/-- 'bywashlaw03.SignList': WHATEVER THE INPUT: true; the input reads as it did. -/
def signListSpec : ChangeSpec := { name := "signList", fn := fun _ => fun
  | [d] => { results := [.lit (.bool true)], args := [d] }
  | _ => none }
def signListRow : OpenClaim := { program := "ytkcgbdggipijlaadoor", sum := "b17a9b5fd5022b17940a5b43f9a5a22919a997d29a72f3a381d3527390e7283f", func := "bywash/bywashlaw03.SignList", spec := "signList", unfollowed := true, recurses := true, named := ["bywash/sign.sums", "bywash/sign.products"], apart := false, laid := [("bywash/sign.sums", laid_bywash_sign_sums), ("bywash/sign.products", laid_bywash_sign_products)] }
def SignListSaid : Prop := signListRow.holds Tryd.pinned (OpenSpec.ofChange signListSpec)

/-- ITS FALSE NEIGHBOUR: 'it returns false'. Refute it at one input. -/
def signListWrong : ChangeSpec := { name := "signList", fn := fun _ => fun
  | [d] => { results := [.lit (.bool false)], args := [d] }
  | _ => none }
def SignListWrongFalsely : Prop := signListRow.holds Tryd.pinned (OpenSpec.ofChange signListWrong)

/-- 'bywashlaw03.SignMakes': WHATEVER THE INPUT: true; the input reads as it did. -/
def signMakesSpec : ChangeSpec := { name := "signMakes", fn := fun _ => fun
  | [d1, d2] => { results := [.lit (.bool true)], args := [d1, d2] }
  | _ => none }
def signMakesRow : OpenClaim := { program := "ytkcgbdggipijlaadoor", sum := "b17a9b5fd5022b17940a5b43f9a5a22919a997d29a72f3a381d3527390e7283f", func := "bywash/bywashlaw03.SignMakes", spec := "signMakes", unfollowed := true, recurses := true, named := ["bywash/sign.sums", "bywash/sign.products"], apart := false, laid := [("bywash/sign.sums", laid_bywash_sign_sums), ("bywash/sign.products", laid_bywash_sign_products)] }
def SignMakesSaid : Prop := signMakesRow.holds Tryd.pinned (OpenSpec.ofChange signMakesSpec)

/-- ITS FALSE NEIGHBOUR: 'it returns false'. Refute it at one input. -/
def signMakesWrong : ChangeSpec := { name := "signMakes", fn := fun _ => fun
  | [d1, d2] => { results := [.lit (.bool false)], args := [d1, d2] }
  | _ => none }
def SignMakesWrongFalsely : Prop := signMakesRow.holds Tryd.pinned (OpenSpec.ofChange signMakesWrong)

/-- 'bywashlaw03.SignFlat': WHATEVER THE INPUT: true; the input reads as it did. -/
def signFlatSpec : ChangeSpec := { name := "signFlat", fn := fun _ => fun
  | [d1, d2] => { results := [.lit (.bool true)], args := [d1, d2] }
  | _ => none }
def signFlatRow : OpenClaim := { program := "ytkcgbdggipijlaadoor", sum := "b17a9b5fd5022b17940a5b43f9a5a22919a997d29a72f3a381d3527390e7283f", func := "bywash/bywashlaw03.SignFlat", spec := "signFlat", unfollowed := true, recurses := true, named := ["bywash/sign.sums", "bywash/sign.products"], apart := false, laid := [("bywash/sign.sums", laid_bywash_sign_sums), ("bywash/sign.products", laid_bywash_sign_products)] }
def SignFlatSaid : Prop := signFlatRow.holds Tryd.pinned (OpenSpec.ofChange signFlatSpec)

/-- ITS FALSE NEIGHBOUR: 'it returns false'. Refute it at one input. -/
def signFlatWrong : ChangeSpec := { name := "signFlat", fn := fun _ => fun
  | [d1, d2] => { results := [.lit (.bool false)], args := [d1, d2] }
  | _ => none }
def SignFlatWrongFalsely : Prop := signFlatRow.holds Tryd.pinned (OpenSpec.ofChange signFlatWrong)

/- THE SECOND FORM. 'bulk': how many values and letters a reading holds, each counted each time it is reached (what is shared counts as often as it is met; a slice's spare places count too). A statement '..UptoSaid' is the law's where the arguments, and the package variables that the reading takes, are together of bulk at most 1048576: NARROWER than '..Said'. Prove '..Said' where nothing that the law and all that it calls make is longer than what came in: it says more and counts as full. Else prove '..UptoSaid'. A law counts once. -/
mutual
def uptoBulk {H : Type} : DataW H → Nat
  | .lit (.string bytes) => bytes.length + 1
  | .lit _ => 1
  | .nil => 1
  | .ptr d => uptoBulk d + 1
  | .slice elems spare => uptoBulkAll elems + uptoBulkAll spare + 1
  | .agg parts => uptoBulkAll parts + 1
  | .iface _ d => uptoBulk d + 1
  | .map entries => uptoBulkEntries entries + 1
  | .held _ => 1
def uptoBulkAll {H : Type} : List (DataW H) → Nat
  | [] => 0
  | d :: r => uptoBulk d + uptoBulkAll r
def uptoBulkEntries {H : Type} : List (Lit × DataW H) → Nat
  | [] => 0
  | x :: r => uptoBulkEntry x + uptoBulkEntries r
def uptoBulkEntry {H : Type} : Lit × DataW H → Nat
  | (.string bytes, d) => bytes.length + uptoBulk d + 1
  | (_, d) => uptoBulk d + 1
 end
def uptoSmall : (H : Type) → List (DataW H) → Bool := fun _ ds => decide (uptoBulkAll ds ≤ 1048576)
def OpenSpec.upto (s : _root_.Go.ChangeSpec) : _root_.Go.OpenSpec := { _root_.Go.OpenSpec.ofChange s with cond := some uptoSmall }

/-- 'bywashlaw03.SignIs', WHERE WHAT IT READS IS OF BULK AT MOST 1048576: true; the input reads as it did. -/
def signIsUptoRow : OpenClaim := { program := "ytkcgbdggipijlaadoor", sum := "b17a9b5fd5022b17940a5b43f9a5a22919a997d29a72f3a381d3527390e7283f", func := "bywash/bywashlaw03.SignIs", spec := "signIs", unfollowed := true, recurses := true, named := ["bywash/sign.sums", "bywash/sign.products"], apart := false, laid := [("bywash/sign.sums", laid_bywash_sign_sums), ("bywash/sign.products", laid_bywash_sign_products)], narrowed := true }
def SignIsUptoSaid : Prop := signIsUptoRow.holds Tryd.pinned (OpenSpec.upto signIsSpec)

/-- 'bywashlaw03.SignTells', WHERE WHAT IT READS IS OF BULK AT MOST 1048576: true; the input reads as it did. -/
def signTellsUptoRow : OpenClaim := { program := "ytkcgbdggipijlaadoor", sum := "b17a9b5fd5022b17940a5b43f9a5a22919a997d29a72f3a381d3527390e7283f", func := "bywash/bywashlaw03.SignTells", spec := "signTells", unfollowed := true, recurses := true, named := ["bywash/sign.sums", "bywash/sign.products"], apart := false, laid := [("bywash/sign.sums", laid_bywash_sign_sums), ("bywash/sign.products", laid_bywash_sign_products)], narrowed := true }
def SignTellsUptoSaid : Prop := signTellsUptoRow.holds Tryd.pinned (OpenSpec.upto signTellsSpec)

/-- 'bywashlaw03.SignRises', WHERE WHAT IT READS IS OF BULK AT MOST 1048576: true; the input reads as it did. -/
def signRisesUptoRow : OpenClaim := { program := "ytkcgbdggipijlaadoor", sum := "b17a9b5fd5022b17940a5b43f9a5a22919a997d29a72f3a381d3527390e7283f", func := "bywash/bywashlaw03.SignRises", spec := "signRises", unfollowed := true, recurses := true, named := ["bywash/sign.sums", "bywash/sign.products"], apart := false, laid := [("bywash/sign.sums", laid_bywash_sign_sums), ("bywash/sign.products", laid_bywash_sign_products)], narrowed := true }
def SignRisesUptoSaid : Prop := signRisesUptoRow.holds Tryd.pinned (OpenSpec.upto signRisesSpec)

/-- 'bywashlaw03.SignList', WHERE WHAT IT READS IS OF BULK AT MOST 1048576: true; the input reads as it did. -/
def signListUptoRow : OpenClaim := { program := "ytkcgbdggipijlaadoor", sum := "b17a9b5fd5022b17940a5b43f9a5a22919a997d29a72f3a381d3527390e7283f", func := "bywash/bywashlaw03.SignList", spec := "signList", unfollowed := true, recurses := true, named := ["bywash/sign.sums", "bywash/sign.products"], apart := false, laid := [("bywash/sign.sums", laid_bywash_sign_sums), ("bywash/sign.products", laid_bywash_sign_products)], narrowed := true }
def SignListUptoSaid : Prop := signListUptoRow.holds Tryd.pinned (OpenSpec.upto signListSpec)

/-- 'bywashlaw03.SignMakes', WHERE WHAT IT READS IS OF BULK AT MOST 1048576: true; the input reads as it did. -/
def signMakesUptoRow : OpenClaim := { program := "ytkcgbdggipijlaadoor", sum := "b17a9b5fd5022b17940a5b43f9a5a22919a997d29a72f3a381d3527390e7283f", func := "bywash/bywashlaw03.SignMakes", spec := "signMakes", unfollowed := true, recurses := true, named := ["bywash/sign.sums", "bywash/sign.products"], apart := false, laid := [("bywash/sign.sums", laid_bywash_sign_sums), ("bywash/sign.products", laid_bywash_sign_products)], narrowed := true }
def SignMakesUptoSaid : Prop := signMakesUptoRow.holds Tryd.pinned (OpenSpec.upto signMakesSpec)

/-- 'bywashlaw03.SignFlat', WHERE WHAT IT READS IS OF BULK AT MOST 1048576: true; the input reads as it did. -/
def signFlatUptoRow : OpenClaim := { program := "ytkcgbdggipijlaadoor", sum := "b17a9b5fd5022b17940a5b43f9a5a22919a997d29a72f3a381d3527390e7283f", func := "bywash/bywashlaw03.SignFlat", spec := "signFlat", unfollowed := true, recurses := true, named := ["bywash/sign.sums", "bywash/sign.products"], apart := false, laid := [("bywash/sign.sums", laid_bywash_sign_sums), ("bywash/sign.products", laid_bywash_sign_products)], narrowed := true }
def SignFlatUptoSaid : Prop := signFlatUptoRow.holds Tryd.pinned (OpenSpec.upto signFlatSpec)

end Rows
end Go.Proofs.YtkcgbdggipijlaaDoor
