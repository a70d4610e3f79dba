/- What is known of variables: the pure side. -/
import Derived.Test.YtcmncclibhjepaaFlatM
import Derived.Test.YtcmncclibhjepaaSigM
namespace Go.Proofs.Ytcmncclibhjepaa
open Go

section
variable {α : Type}
/-- How many variables have a value. -/
def szG (on : Bool) (l : List α) : Nat := if on then l.length else 0
/-- The value at a place, as it stands; d where there is none. -/
def atG (d : α) (on : Bool) (l : List α) (i : Int) : α := if 0 ≤ i ∧ i < (szG on l : Int) then l[i.toNat]?.getD d else d
theorem atG_out {d : α} {on : Bool} {l : List α} {i : Int} (h : ¬ (0 ≤ i ∧ i < (szG on l : Int))) : atG d on l i = d := if_neg h
theorem atG_in {d : α} {l : List α} {k : Nat} (h : k < l.length) : atG d true l (k : Int) = l[k]?.getD d := by
  unfold atG szG; rw [if_pos ⟨by omega, by simpa using h⟩]; simp
/-- A list of n, f of each place. -/
def tabG (f : Nat → α) (n : Nat) : List α := (List.range n).map f
theorem tabG_length (f : Nat → α) (n : Nat) : (tabG f n).length = n := by simp [tabG]
theorem tabG_succ (f : Nat → α) (n : Nat) : tabG f (n + 1) = tabG f n ++ [f n] := by simp [tabG, List.range_succ]
theorem tabG_at (f : Nat → α) {n k : Nat} (h : k < n) (d : α) : (tabG f n)[k]?.getD d = f k := by simp [tabG, h]
/-- The first k of n laid, the rest as it was made. -/
def midG (f : Nat → α) (d : α) (n k : Nat) : List α := tabG f k ++ List.replicate (n - k) d
theorem midG_zero (f : Nat → α) (d : α) (n : Nat) : midG f d n 0 = List.replicate n d := by simp [midG, tabG]
theorem midG_full (f : Nat → α) (d : α) (n : Nat) : midG f d n n = tabG f n := by simp [midG]
theorem midG_length (f : Nat → α) (d : α) {n k : Nat} (h : k ≤ n) : (midG f d n k).length = n := by simp [midG, tabG]; omega
theorem midG_set (f : Nat → α) (d : α) {n k : Nat} (h : k < n) : (midG f d n k).set k (f k) = midG f d n (k + 1) := by
  unfold midG
  rw [tabG_succ, List.set_append_right _ _ (by rw [tabG_length]; exact Nat.le_refl _), tabG_length, Nat.sub_self]
  obtain ⟨m, hm⟩ : ∃ m, n - k = m + 1 := ⟨n - k - 1, by omega⟩
  rw [hm, List.replicate_succ, List.set_cons_zero, show n - (k + 1) = m by omega]
  simp
def joinG (d : α) (jn : α → α → α) (on1 : Bool) (l1 : List α) (on2 : Bool) (l2 : List α) : List α :=
  tabG (fun k => jn (atG d on1 l1 (k : Int)) (atG d on2 l2 (k : Int))) (max (szG on1 l1) (szG on2 l2))
/-- All of the first n places. -/
def allG (p : Nat → Bool) (n : Nat) : Bool := (List.range n).all p
theorem allG_succ (p : Nat → Bool) (n : Nat) : allG p (n + 1) = (allG p n && p n) := by simp [allG, List.range_succ]
theorem allG_false {p : Nat → Bool} {n k : Nat} (hk : k < n) (h : p k = false) : allG p n = false := by
  simp only [allG, List.all_eq_false]; exact ⟨k, List.mem_range.2 hk, by simp [h]⟩
theorem allG_iff {p : Nat → Bool} {n : Nat} : allG p n = true ↔ ∀ k, k < n → p k = true := by simp [allG]
def leqG (d : α) (le : α → α → Bool) (on1 : Bool) (l1 : List α) (on2 : Bool) (l2 : List α) : Bool :=
  (!on1 || on2) && allG (fun k => le (atG d on1 l1 (k : Int)) (atG d on2 l2 (k : Int))) (szG on1 l1)
def putG (l : List α) (i : Int) (v : α) : List α := if 0 ≤ i ∧ i < (l.length : Int) then l.set i.toNat v else l
def setG (sn : α → α) (on : Bool) (l : List α) (i : Int) (v : α) : List α := if on then putG (l.map sn) i (sn v) else []
end
def clG (n : Int) (m : Nat) : Nat := if n < 0 then 0 else if (m : Int) < n then m else n.toNat
theorem clG_le (n : Int) (m : Nat) : clG n m ≤ m := by unfold clG; split <;> (try split) <;> omega
end Go.Proofs.Ytcmncclibhjepaa
