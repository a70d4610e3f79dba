/- What is known of numbers is known of signs: the pure side. -/
import Derived.Test.YtkcgbdggipijlaaDoorSigN
import Derived.Test.YtkcgbdggipijlaaDoorFlatM
namespace Go.Proofs.YtkcgbdggipijlaaDoor
open Go
def fromS (v : V) : Nat := if v.k = 2 then 7 else if v.k = 0 then 0 else sg v.c
theorem fromS_lt (v : V) : fromS v < 8 := by
  unfold fromS
  split
  · decide
  · split
    · decide
    · exact sg_lt _
theorem leqN_refl (x : Nat) : leqN x x = true := by simp [leqN]
theorem leqN_zero (x : Nat) : leqN 0 x = true := by simp [leqN]
theorem leqN_seven {x : Nat} (h : x < 8) : leqN x 7 = true := by
  have h' : ∀ x : Fin 8, leqN x.val 7 = true := by decide
  exact h' ⟨x, h⟩
theorem leqN_or {x y z : Nat} (hx : x < 8) (hy : y < 8) (hz : z < 8) (h1 : leqN x z = true) (h2 : leqN y z = true) : leqN (x ||| y) z = true := by
  have h : ∀ x y z : Fin 8, leqN x.val z.val = true → leqN y.val z.val = true → leqN (x.val ||| y.val) z.val = true := by decide +kernel
  exact h ⟨x, hx⟩ ⟨y, hy⟩ ⟨z, hz⟩ h1 h2
theorem fromS_le {a b : V} (h : leV a b = true) (_ha : a.k = 0 ∨ a.k = 1 ∨ a.k = 2) : leqN (fromS a) (fromS b) = true := by
  simp only [leV, decide_eq_true_eq] at h
  rcases h with h | h | h
  · have e : fromS a = 0 := by unfold fromS; rw [if_neg (by omega), if_pos h]
    rw [e]; exact leqN_zero _
  · have e : fromS b = 7 := by unfold fromS; rw [if_pos h]
    rw [e]; exact leqN_seven (fromS_lt _)
  · subst h; exact leqN_refl _
theorem from_le {a b : V} (h : leq a b = true) : leqN (fromS a.sn) (fromS b.sn) = true := fromS_le h (sn_k a)
theorem from_join (a b : V) : leqN (fromS a.sn ||| fromS b.sn) (fromS (join a b).sn) = true :=
  leqN_or (fromS_lt _) (fromS_lt _) (fromS_lt _) (from_le (leq_left a b)) (from_le (leq_right a b))
theorem add_seven1 {x : Nat} (h : x < 8) (h0 : x ≠ 0) : addN 7 x = 7 := by
  have h' : ∀ x : Fin 8, x.val ≠ 0 → addN 7 x.val = 7 := by decide +kernel
  exact h' ⟨x, h⟩ h0
theorem add_seven2 {x : Nat} (h : x < 8) (h0 : x ≠ 0) : addN x 7 = 7 := by
  have h' : ∀ x : Fin 8, x.val ≠ 0 → addN x.val 7 = 7 := by decide +kernel
  exact h' ⟨x, h⟩ h0
theorem fromS_ne {a : V} (ha : a.k = 1 ∨ a.k = 2) : fromS a ≠ 0 := by
  unfold fromS
  split
  · decide
  · rw [if_neg (by omega)]
    rcases sg_cases a.c with h | h | h <;> omega
theorem neg_seven : negN 7 = 7 := by decide
theorem neg_ne {x : Nat} (h : x < 8) (h0 : x ≠ 0) : negN x ≠ 0 := by
  have h' : ∀ x : Fin 8, x.val ≠ 0 → negN x.val ≠ 0 := by decide +kernel
  exact h' ⟨x, h⟩ h0
theorem fromS_one {a : V} (h : a.k = 1) : fromS a = sg a.c := by unfold fromS; rw [if_neg (by omega), if_neg (by omega)]
theorem fromS_two {a : V} (h : a.k = 2) : fromS a = 7 := by unfold fromS; rw [if_pos h]

/-- Of a sum, or a difference, that does not wrap. -/
theorem from_comb (f : Int → Int → Int) (g : Nat → Nat → Nat) (hg7 : ∀ x, x < 8 → x ≠ 0 → g 7 x = 7) (hg7' : ∀ x, x < 8 → x ≠ 0 → g x 7 = 7)
    (hfg : ∀ x y, leqN (sg (f x y)) (g (sg x) (sg y)) = true) (hf : ∀ x y, -1048576 < x → x < 1048576 → -1048576 < y → y < 1048576 → -2147483648 ≤ f x y ∧ f x y ≤ 2147483647) (a b : V)
    (hs : -1048576 < a.c ∧ a.c < 1048576 ∧ -1048576 < b.c ∧ b.c < 1048576) : leqN (fromS (comb f a b).sn) (g (fromS a.sn) (fromS b.sn)) = true := by
  rw [sn_of (comb_sane f a b)]
  have ec : ∀ v : V, v.sn.k = 1 → v.sn = v := by
    intro v h
    unfold V.sn at h ⊢
    split
    · rfl
    · rename_i hn; rw [if_neg hn] at h; exact absurd h (by decide)
  unfold comb
  rcases sn_k a with h | h | h <;> rcases sn_k b with k | k | k
  · rw [if_pos (.inl h)]; exact leqN_zero _
  · rw [if_pos (.inl h)]; exact leqN_zero _
  · rw [if_pos (.inl h)]; exact leqN_zero _
  · rw [if_pos (.inr k)]; exact leqN_zero _
  · rw [if_neg (by omega), if_neg (by omega), fromS_one h, fromS_one k, ec a h, ec b k]
    have hb := hf a.c b.c hs.1 hs.2.1 hs.2.2.1 hs.2.2.2
    have e : fromS (vone (f a.c b.c)) = sg (f a.c b.c) := by rw [fromS_one rfl]; unfold vone; rw [w32_self hb.1 hb.2]
    rw [e]
    exact hfg _ _
  · rw [if_neg (by omega), if_pos (.inr k), fromS_two k, hg7' _ (fromS_lt _) (fromS_ne (.inl h))]; rfl
  · rw [if_pos (.inr k)]; exact leqN_zero _
  · rw [if_neg (by omega), if_pos (.inl h), fromS_two h, hg7 _ (fromS_lt _) (fromS_ne (.inl k))]; rfl
  · rw [if_neg (by omega), if_pos (.inl h), fromS_two h, hg7 _ (fromS_lt _) (fromS_ne (.inr k))]; rfl
theorem from_add (a b : V) (hs : -1048576 < a.c ∧ a.c < 1048576 ∧ -1048576 < b.c ∧ b.c < 1048576) : leqN (fromS (addV a b).sn) (addN (fromS a.sn) (fromS b.sn)) = true :=
  from_comb _ addN (fun _ h h0 => add_seven1 h h0) (fun _ h h0 => add_seven2 h h0) sg_add (fun x y _ _ _ _ => by omega) a b hs
theorem from_sub (a b : V) (hs : -1048576 < a.c ∧ a.c < 1048576 ∧ -1048576 < b.c ∧ b.c < 1048576) : leqN (fromS (subV a b).sn) (subN (fromS a.sn) (fromS b.sn)) = true :=
  from_comb _ subN (fun _ h h0 => add_seven1 (negN_lt h) (neg_ne h h0)) (fun _ h h0 => by unfold subN; rw [neg_seven]; exact add_seven2 h h0) sg_sub (fun x y _ _ _ _ => by omega) a b hs
end Go.Proofs.YtkcgbdggipijlaaDoor
