/- Sets of signs: the pure side. -/
import GoSem.Claim
namespace Go.Proofs.Ytcmncclibhjepaa
open Go

/-- What a set of signs is taken for. -/
def sS (s : Int) : Nat := if 0 ≤ s ∧ s ≤ 7 then s.toNat else 7
theorem sS_lt (s : Int) : sS s < 8 := by unfold sS; split <;> omega
theorem sS_of {s : Nat} (h : s < 8) : sS (s : Int) = s := by unfold sS; rw [if_pos (by omega)]; simp
theorem sS_in {s : Int} (h : 0 ≤ s ∧ s ≤ 7) : ((sS s : Nat) : Int) = s := by unfold sS; rw [if_pos h]; omega
theorem sS_out {s : Int} (h : ¬ (0 ≤ s ∧ s ≤ 7)) : sS s = 7 := by unfold sS; rw [if_neg h]

/-- A number's sign. -/
def sg (c : Int) : Nat := if c < 0 then 1 else if 0 < c then 4 else 2
theorem sg_cases (c : Int) : (c < 0 ∧ sg c = 1) ∨ (c = 0 ∧ sg c = 2) ∨ (0 < c ∧ sg c = 4) := by unfold sg; split <;> (try split) <;> omega
theorem sg_lt (c : Int) : sg c < 8 := by rcases sg_cases c with h | h | h <;> omega

/-- Its signs, rising; how many. -/
def tol (p : Int → Bool) (lo : Int) (q : Nat) : List Int := ((List.range q).map fun (i : Nat) => lo + (i : Int)).filter p
theorem tol_succ (p : Int → Bool) (lo : Int) (q : Nat) : tol p lo (q + 1) = tol p lo q ++ (if p (lo + q) then [lo + (q : Int)] else []) := by
  unfold tol
  rw [List.range_succ, List.map_append, List.filter_append]
  congr 1
  cases h : p (lo + q) <;> simp [h]
theorem tol_le (p : Int → Bool) (lo : Int) (q : Nat) : (tol p lo q).length ≤ q := by
  unfold tol
  have := List.length_filter_le p ((List.range q).map fun (i : Nat) => lo + (i : Int))
  simpa using this
def hasN (s : Nat) (x : Int) : Bool := s &&& sg x != 0
def lst (s : Nat) : List Int := tol (hasN s) (-1) 3
/-- The numbers that stand for signs. -/
def som (s : Nat) : List Int := tol (hasN s) (-2) 5
def tbl (l : List Nat) (x y : Int) : Nat := l.getD ((x + 1).toNat * 3 + (y + 1).toNat) 0
def sumsL : List Nat := [1, 1, 7, 1, 2, 4, 7, 4, 4]
def prodsL : List Nat := [4, 2, 1, 2, 2, 2, 1, 2, 4]
/-- What each of one list makes with each of another. -/
def row (f : Int → Int → Nat) (x : Int) (l : List Int) (m : Nat) : Nat := l.foldl (fun m y => m ||| f x y) m
def cmb (f : Int → Int → Nat) (k l : List Int) : Nat := k.foldl (fun m x => row f x l m) 0
def addN (a b : Nat) : Nat := cmb (tbl sumsL) (lst a) (lst b)
def mulN (a b : Nat) : Nat := cmb (tbl prodsL) (lst a) (lst b)
def negN (a : Nat) : Nat := mulN 1 a
def subN (a b : Nat) : Nat := addN a (negN b)
def leqN (a b : Nat) : Bool := (a ||| b) == b
theorem fin8 {p : Nat → Prop} (h : ∀ x : Fin 8, p x.val) {a : Nat} (ha : a < 8) : p a := h ⟨a, ha⟩
theorem addN_lt {a b : Nat} (ha : a < 8) (hb : b < 8) : addN a b < 8 := by
  revert a b
  have h : ∀ x y : Fin 8, addN x.val y.val < 8 := by decide
  exact fun {a b} ha hb => h ⟨a, ha⟩ ⟨b, hb⟩
theorem mulN_lt {a b : Nat} (ha : a < 8) (hb : b < 8) : mulN a b < 8 := by
  have h : ∀ x y : Fin 8, mulN x.val y.val < 8 := by decide
  exact h ⟨a, ha⟩ ⟨b, hb⟩
theorem negN_lt {a : Nat} (ha : a < 8) : negN a < 8 := mulN_lt (by decide) ha
theorem subN_lt {a b : Nat} (ha : a < 8) (hb : b < 8) : subN a b < 8 := addN_lt ha (negN_lt hb)
theorem or_lt {a b : Nat} (ha : a < 8) (hb : b < 8) : a ||| b < 8 := by
  have h : ∀ x y : Fin 8, x.val ||| y.val < 8 := by decide
  exact h ⟨a, ha⟩ ⟨b, hb⟩
end Go.Proofs.Ytcmncclibhjepaa
