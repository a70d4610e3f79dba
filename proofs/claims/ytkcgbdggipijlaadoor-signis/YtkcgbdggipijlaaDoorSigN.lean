/- What follows of sets of signs: the pure side of the laws. -/
import Derived.Test.YtkcgbdggipijlaaDoorSigM
namespace Go.Proofs.YtkcgbdggipijlaaDoor
open Go
theorem leq_or1 {x y : Nat} (hx : x < 8) (hy : y < 8) : leqN x (x ||| y) = true := by
  have h : ∀ x y : Fin 8, leqN x.val (x.val ||| y.val) = true := by decide +kernel
  exact h ⟨x, hx⟩ ⟨y, hy⟩
theorem leq_or2 {x y : Nat} (hx : x < 8) (hy : y < 8) : leqN y (x ||| y) = true := by
  have h : ∀ x y : Fin 8, leqN y.val (x.val ||| y.val) = true := by decide +kernel
  exact h ⟨x, hx⟩ ⟨y, hy⟩
theorem add_or {x y z : Nat} (hx : x < 8) (hy : y < 8) (hz : z < 8) : addN x z ||| addN y z = addN (x ||| y) z := by
  have h : ∀ x y z : Fin 8, addN x.val z.val ||| addN y.val z.val = addN (x.val ||| y.val) z.val := by decide +kernel
  exact h ⟨x, hx⟩ ⟨y, hy⟩ ⟨z, hz⟩
theorem mul_or {x y z : Nat} (hx : x < 8) (hy : y < 8) (hz : z < 8) : mulN x z ||| mulN y z = mulN (x ||| y) z := by
  have h : ∀ x y z : Fin 8, mulN x.val z.val ||| mulN y.val z.val = mulN (x.val ||| y.val) z.val := by decide +kernel
  exact h ⟨x, hx⟩ ⟨y, hy⟩ ⟨z, hz⟩
theorem sub_or {x y z : Nat} (hx : x < 8) (hy : y < 8) (hz : z < 8) : subN x z ||| subN y z = subN (x ||| y) z := add_or hx hy (negN_lt hz)
theorem neg_or {x y : Nat} (hx : x < 8) (hy : y < 8) : negN x ||| negN y = negN (x ||| y) := by
  have h : ∀ x y : Fin 8, negN x.val ||| negN y.val = negN (x.val ||| y.val) := by decide +kernel
  exact h ⟨x, hx⟩ ⟨y, hy⟩
theorem add_commN {x y : Nat} (hx : x < 8) (hy : y < 8) : addN x y = addN y x := by
  have h : ∀ x y : Fin 8, addN x.val y.val = addN y.val x.val := by decide +kernel
  exact h ⟨x, hx⟩ ⟨y, hy⟩
theorem mul_commN {x y : Nat} (hx : x < 8) (hy : y < 8) : mulN x y = mulN y x := by
  have h : ∀ x y : Fin 8, mulN x.val y.val = mulN y.val x.val := by decide +kernel
  exact h ⟨x, hx⟩ ⟨y, hy⟩
theorem lst_len (s : Nat) : (lst s).length ≤ 3 := tol_le _ _ _
theorem neg_neg {x : Nat} (hx : x < 8) : negN (negN x) = x := by
  have h : ∀ x : Fin 8, negN (negN x.val) = x.val := by decide +kernel
  exact h ⟨x, hx⟩
theorem add_zeroN {x : Nat} (hx : x < 8) : addN 0 x = 0 := by
  have h : ∀ x : Fin 8, addN 0 x.val = 0 := by decide +kernel
  exact h ⟨x, hx⟩
theorem mul_zeroN {x : Nat} (hx : x < 8) : mulN x 0 = 0 := by
  have h : ∀ x : Fin 8, mulN x.val 0 = 0 := by decide +kernel
  exact h ⟨x, hx⟩
theorem add_two {x : Nat} (hx : x < 8) : addN x 2 = x := by
  have h : ∀ x : Fin 8, addN x.val 2 = x.val := by decide +kernel
  exact h ⟨x, hx⟩
/-- A set is its signs. -/
def orL (l : List Int) : Nat := l.foldl (fun m x => m ||| sg x) 0
theorem orL_lt (l : List Int) : orL l < 8 := by
  have : ∀ (l : List Int) m, m < 8 → l.foldl (fun m x => m ||| sg x) m < 8 := by
    intro l
    induction l with
    | nil => intro m h; exact h
    | cons y r ih => intro m h; exact ih _ (or_lt h (sg_lt _))
  exact this l 0 (by decide)
theorem orL_lst {x : Nat} (hx : x < 8) : orL (lst x) = x := by
  have h : ∀ x : Fin 8, orL (lst x.val) = x.val := by decide +kernel
  exact h ⟨x, hx⟩
theorem lst_up (x : Nat) : (lst x).Pairwise (· < ·) := by
  unfold lst tol
  refine List.Pairwise.filter _ ?_
  decide
/-- A number's sign is among those that its parts make. -/
theorem sg_add (x y : Int) : leqN (sg (x + y)) (addN (sg x) (sg y)) = true := by
  rcases sg_cases x with ⟨h1, e1⟩ | ⟨h1, e1⟩ | ⟨h1, e1⟩ <;> rcases sg_cases y with ⟨h2, e2⟩ | ⟨h2, e2⟩ | ⟨h2, e2⟩ <;> rcases sg_cases (x + y) with ⟨h3, e3⟩ | ⟨h3, e3⟩ | ⟨h3, e3⟩ <;> rw [e1, e2, e3] <;> first | rfl | omega
theorem sg_neg (x : Int) : sg (-x) = negN (sg x) := by
  rcases sg_cases x with ⟨h1, e1⟩ | ⟨h1, e1⟩ | ⟨h1, e1⟩ <;> rcases sg_cases (-x) with ⟨h3, e3⟩ | ⟨h3, e3⟩ | ⟨h3, e3⟩ <;> rw [e1, e3] <;> first | rfl | omega
theorem sg_sub (x y : Int) : leqN (sg (x - y)) (subN (sg x) (sg y)) = true := by
  unfold subN
  rw [← sg_neg, Int.sub_eq_add_neg]
  exact sg_add x (-y)
theorem sg_mul (x y : Int) : leqN (sg (x * y)) (mulN (sg x) (sg y)) = true := by
  rcases sg_cases x with ⟨h1, e1⟩ | ⟨h1, e1⟩ | ⟨h1, e1⟩ <;> rcases sg_cases y with ⟨h2, e2⟩ | ⟨h2, e2⟩ | ⟨h2, e2⟩ <;> rw [e1, e2]
  · have := Int.mul_pos_of_neg_of_neg h1 h2
    rcases sg_cases (x * y) with ⟨h3, e3⟩ | ⟨h3, e3⟩ | ⟨h3, e3⟩ <;> rw [e3] <;> first | rfl | omega
  · subst h2; rw [Int.mul_zero]; rfl
  · have := Int.mul_neg_of_neg_of_pos h1 h2
    rcases sg_cases (x * y) with ⟨h3, e3⟩ | ⟨h3, e3⟩ | ⟨h3, e3⟩ <;> rw [e3] <;> first | rfl | omega
  · subst h1; rw [Int.zero_mul]; rfl
  · subst h1; rw [Int.zero_mul]; rfl
  · subst h1; rw [Int.zero_mul]; rfl
  · have := Int.mul_neg_of_pos_of_neg h1 h2
    rcases sg_cases (x * y) with ⟨h3, e3⟩ | ⟨h3, e3⟩ | ⟨h3, e3⟩ <;> rw [e3] <;> first | rfl | omega
  · subst h2; rw [Int.mul_zero]; rfl
  · have := Int.mul_pos h1 h2
    rcases sg_cases (x * y) with ⟨h3, e3⟩ | ⟨h3, e3⟩ | ⟨h3, e3⟩ <;> rw [e3] <;> first | rfl | omega
end Go.Proofs.YtkcgbdggipijlaaDoor
