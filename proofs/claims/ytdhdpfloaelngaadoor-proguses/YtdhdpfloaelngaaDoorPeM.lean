/- What follows is preceded: the pure side. -/
import Derived.Test.YtdhdpfloaelngaaDoorPgS
namespace Go.Proofs.YtdhdpfloaelngaaDoor
open Go

def sumTo (f : Nat → Nat) : Nat → Nat
  | 0 => 0
  | n + 1 => sumTo f n + f n
theorem sumTo_congr {f g : Nat → Nat} : ∀ n, (∀ k, k < n → f k = g k) → sumTo f n = sumTo g n
  | 0, _ => rfl
  | n + 1, h => by
    show sumTo f n + f n = sumTo g n + g n
    rw [sumTo_congr n (fun k hk => h k (by omega)), h n (by omega)]
theorem sumTo_add (f g : Nat → Nat) : ∀ n, sumTo (fun k => f k + g k) n = sumTo f n + sumTo g n
  | 0 => rfl
  | n + 1 => by
    show sumTo (fun k => f k + g k) n + (f n + g n) = _ + f n + (_ + g n)
    rw [sumTo_add f g n]
    omega
theorem sumTo_zero : ∀ n, sumTo (fun _ => 0) n = 0
  | 0 => rfl
  | n + 1 => by show sumTo (fun _ => 0) n + 0 = 0; rw [sumTo_zero n]
theorem sumTo_swap (f : Nat → Nat → Nat) (m : Nat) : ∀ n, sumTo (fun i => sumTo (f i) m) n = sumTo (fun j => sumTo (fun i => f i j) n) m
  | 0 => (sumTo_zero m).symm
  | n + 1 => by
    show sumTo (fun i => sumTo (f i) m) n + sumTo (f n) m = _
    rw [sumTo_swap f m n, ← sumTo_add]
    rfl
theorem filter_sum (P : Nat → Prop) [DecidablePred P] : ∀ n, ((List.range n).filter fun k => decide (P k)).length = sumTo (fun k => if P k then 1 else 0) n
  | 0 => rfl
  | n + 1 => by
    rw [List.range_succ, List.filter_append, List.length_append, filter_sum P n]
    show _ = sumTo (fun k => if P k then 1 else 0) n + _
    by_cases h : P n <;> simp [h]
theorem one_sum (x : Nat) : ∀ n, sumTo (fun k => if (k : Int) = (x : Int) then 1 else 0) n = if x < n then 1 else 0
  | 0 => by simp [sumTo]
  | n + 1 => by
    show sumTo (fun k => if (k : Int) = (x : Int) then 1 else 0) n + _ = _
    rw [one_sum x n]
    by_cases h : n = x
    · subst h; simp
    · have h1 : ¬ ((n : Int) = (x : Int)) := by omega
      by_cases h2 : x < n
      · have : x < n + 1 := by omega
        simp [h1, h2, this]
      · have : ¬ x < n + 1 := by omega
        simp [h1, h2, this]
theorem mem_sum (n : Nat) : ∀ s : List Int, s.Nodup → (∀ x ∈ s, 0 ≤ x ∧ x < (n : Int)) → sumTo (fun k => if (k : Int) ∈ s then 1 else 0) n = s.length
  | [], _, _ => by simp [sumTo_zero]
  | x :: s, hn, hs => by
    rw [List.nodup_cons] at hn
    obtain ⟨m, rfl⟩ := Int.eq_ofNat_of_zero_le (hs x (by simp)).1
    have hm : m < n := by have := (hs (m : Int) (by simp)).2; omega
    have ih := mem_sum n s hn.2 (fun y hy => hs y (by simp [hy]))
    have e : sumTo (fun k => if (k : Int) ∈ (m : Int) :: s then 1 else 0) n = sumTo (fun k => (if (k : Int) = (m : Int) then 1 else 0) + (if (k : Int) ∈ s then 1 else 0)) n := by
      apply sumTo_congr
      intro k _
      by_cases h1 : (k : Int) = (m : Int)
      · have h2 : (k : Int) ∉ s := by rw [h1]; exact hn.1
        simp [h1, hn.1]
      · simp [h1]
    rw [e, sumTo_add, one_sum, ih, if_pos hm, List.length_cons]
    omega
theorem rising_nodup {s : List Int} (h : ∀ k, k < s.length → 0 < k → numAt s (k - 1) < numAt s k) : s.Nodup := by
  have hlt : ∀ i j, i < j → j < s.length → numAt s i < numAt s j := by
    intro i j hij
    induction j with
    | zero => omega
    | succ j ih =>
      intro hj
      have h1 : numAt s j < numAt s (j + 1) := h (j + 1) hj (by omega)
      rcases Nat.lt_succ_iff_lt_or_eq.1 hij with h2 | rfl
      · have := ih h2 (by omega)
        omega
      · exact h1
  rw [List.nodup_iff_pairwise_ne, List.pairwise_iff_getElem]
  intro i j hi hj hij
  have := hlt i j hij hj
  unfold numAt at this
  rw [List.getElem?_eq_getElem hi, List.getElem?_eq_getElem hj] at this
  simp at this
  omega
/-- How many edges there are, told from either side. -/
theorem edges_both {bl : List Blk} (h : ∀ k, k < bl.length → succOk bl (blkAt bl k).succ) : sumTo (fun b => (predsTo bl (b : Int) bl.length).length) bl.length = sumTo (fun k => (blkAt bl k).succ.length) bl.length := by
  have e1 : ∀ b, (predsTo bl ((b : Nat) : Int) bl.length).length = sumTo (fun k => if ((b : Nat) : Int) ∈ (blkAt bl k).succ then 1 else 0) bl.length := by
    intro b
    unfold predsTo
    rw [List.length_map, filter_sum]
  rw [sumTo_congr bl.length (fun b _ => e1 b), sumTo_swap]
  apply sumTo_congr
  intro k hk
  have hk2 := h k hk
  refine mem_sum bl.length _ (rising_nodup fun j hj h0 => (hk2 j hj).1 h0) (fun x hx => ?_)
  obtain ⟨j, hj, e⟩ := List.getElem_of_mem hx
  have h3 := (hk2 j hj).2
  have e2 : numAt (blkAt bl k).succ j = x := by unfold numAt; rw [List.getElem?_eq_getElem hj]; exact e
  rw [e2] at h3
  exact ⟨h3.1, h3.2.1⟩
theorem sumTo_le {f : Nat → Nat} {c : Nat} : ∀ n, (∀ k, k < n → f k ≤ c) → sumTo f n ≤ c * n
  | 0, _ => Nat.zero_le _
  | n + 1, h => by
    have h1 := sumTo_le n (fun k hk => h k (by omega))
    have h2 := h n (by omega)
    show sumTo f n + f n ≤ c * (n + 1)
    rw [Nat.mul_succ]
    omega
/-- What precedes: each number is a block, they rise. -/
theorem predsTo_at {bl : List Blk} {b : Int} {q k : Nat} (hk : k < (predsTo bl b q).length) : ∃ n : Nat, numAt (predsTo bl b q) k = (n : Int) ∧ n < q ∧ b ∈ (blkAt bl n).succ := by
  have hm : numAt (predsTo bl b q) k ∈ predsTo bl b q := by
    unfold numAt
    rw [List.getElem?_eq_getElem hk]
    exact List.getElem_mem hk
  obtain ⟨n, hn, e⟩ := List.mem_map.1 hm
  rw [List.mem_filter, List.mem_range] at hn
  exact ⟨n, e.symm, hn.1, by simpa using hn.2⟩
theorem predsTo_rises {bl : List Blk} {b : Int} {q k : Nat} (hk : k + 1 < (predsTo bl b q).length) : numAt (predsTo bl b q) k < numAt (predsTo bl b q) (k + 1) := by
  have hp : (predsTo bl b q).Pairwise (· < ·) := by
    unfold predsTo
    rw [List.pairwise_map]
    refine List.Pairwise.filter _ (List.Pairwise.imp ?_ (List.pairwise_lt_range (n := q)))
    intro a b h
    exact Int.ofNat_lt.2 h
  have := List.pairwise_iff_getElem.1 hp k (k + 1) (by omega) hk (by omega)
  unfold numAt
  rw [List.getElem?_eq_getElem (by omega), List.getElem?_eq_getElem hk]
  exact this
end Go.Proofs.YtdhdpfloaelngaaDoor
