/- Graphs: of the order, purely. -/
import Derived.Test.YtcbfmplddjmiaaaGrM
namespace Go.Proofs.Ytcbfmplddjmiaaa

/-- Of two that follow one another the one that stands ahead has a way to the other. -/
theorem order_od {n : Nat} {E : Nat → Nat → Bool} {a0 : Nat} {p q : List Nat} {x : Nat} (h : order n E a0 = p ++ x :: q) {b : Nat} (hb : b < n) (he : E x b = true) : b ∈ q ∨ Way n E b x := by
  unfold order at h
  by_cases ha : a0 < n
  · rw [if_pos ha] at h
    have h2 : post n E a0 = q.reverse ++ x :: p.reverse := by
      have := congrArg List.reverse h
      simpa using this
    rcases (post_is E ha).od _ _ _ h2 b hb he with h3 | h3
    · exact .inl (by simpa using h3)
    · exact .inr h3
  · rw [if_neg ha] at h
    cases p <;> simp at h
theorem order_head {n : Nat} {E : Nat → Nat → Bool} {a0 : Nat} (ha : a0 < n) : (order n E a0)[0]? = some a0 ∧ 0 < (order n E a0).length := by
  have h := (post_is E ha).la
  unfold order
  rw [if_pos ha]
  cases hl : post n E a0 with
  | nil => rw [hl] at h; simp at h
  | cons y r =>
    rw [hl] at h
    rw [← List.head?_eq_getElem?, List.head?_reverse]
    exact ⟨h, by simp⟩

/-- Where each one of a list stands, from 1 on; 0 where it does not stand among the first q. -/
def AtUpto (l : List Nat) (q : Nat) (f : Nat → Nat) : Prop := (∀ j, j < q → f (l[j]?.getD 0) = j + 1) ∧ ∀ y, y ∉ l.take q → f y = 0
theorem atUpto_zero (l : List Nat) : AtUpto l 0 (fun _ => 0) := ⟨fun _ hj => absurd hj (Nat.not_lt_zero _), fun _ _ => rfl⟩
theorem atUpto_new {l : List Nat} (hnd : l.Nodup) {q : Nat} (hq : q < l.length) {f : Nat → Nat} (h : AtUpto l q f) {y : Nat} (hy : l[q]?.getD 0 = y) : f y = 0 ∧ AtUpto l (q + 1) (fun z => if z = y then q + 1 else f z) := by
  have e : l[q] = y := by rw [← hy, List.getElem?_eq_getElem hq]; rfl
  have hnot : y ∉ l.take q := by
    intro hm
    obtain ⟨j, hj, e2⟩ := List.getElem_of_mem hm
    rw [List.length_take] at hj
    rw [List.getElem_take] at e2
    have := (List.getElem_inj (h₀ := by omega) (h₁ := hq) hnd).1 (e2.trans e.symm)
    omega
  refine ⟨h.2 y hnot, fun j hj => ?_, fun z hz => ?_⟩
  · by_cases ej : j = q
    · subst ej; rw [hy]; simp
    · have hjl : j < l.length := by omega
      have hne : l[j]?.getD 0 ≠ y := by
        rw [List.getElem?_eq_getElem hjl]
        intro e2
        exact ej ((List.getElem_inj (h₀ := hjl) (h₁ := hq) hnd).1 (e2.trans e.symm))
      show (if l[j]?.getD 0 = y then q + 1 else f (l[j]?.getD 0)) = j + 1
      rw [if_neg hne]
      exact h.1 j (by omega)
  · rw [List.take_succ_eq_append_getElem hq, List.mem_append, e] at hz
    show (if z = y then q + 1 else f z) = 0
    rw [if_neg (fun e2 => hz (.inr (by simp [e2])))]
    exact h.2 z (fun hm => hz (.inl hm))

/-- A follower that stands ahead of what it follows has a way to it. -/
theorem order_back {n : Nat} {E : Nat → Nat → Bool} {a0 : Nat} {l : List Nat} (hl : order n E a0 = l) {f : Nat → Nat} (h : AtUpto l l.length f) {a b : Nat} (ha : a ∈ l) (hb : b < n) (he : E a b = true) (hle : f b ≤ f a) : b ∈ l ∧ a ∈ order n E b := by
  have hbl : b ∈ l := by
    rw [← hl, order_mem]
    rw [← hl, order_mem] at ha
    exact .step ha hb he
  refine ⟨hbl, order_mem.2 ?_⟩
  obtain ⟨i, hi, ei⟩ := List.getElem_of_mem ha
  have hsp : l = l.take i ++ a :: l.drop (i + 1) := by
    rw [← ei, List.getElem_cons_drop, List.take_append_drop]
  rcases order_od (hl.trans hsp) hb he with h1 | h1
  · exfalso
    obtain ⟨j, hj, ej⟩ := List.getElem_of_mem h1
    rw [List.length_drop] at hj
    rw [List.getElem_drop] at ej
    have e1 := h.1 i hi
    have e2 := h.1 (i + 1 + j) (by omega)
    rw [List.getElem?_eq_getElem hi] at e1
    rw [List.getElem?_eq_getElem (by omega)] at e2
    simp only [Option.getD_some, ei, ej] at e1 e2
    omega
  · exact h1

/-- How many of the first q are among some. -/
def among (l : List Nat) (q : Nat) : Nat := ((List.range q).filter fun y => decide (y ∈ l)).length
theorem among_succ (l : List Nat) (q : Nat) : among l (q + 1) = among l q + (if q ∈ l then 1 else 0) := by
  unfold among
  rw [List.range_succ, List.filter_append, List.length_append]
  by_cases h : q ∈ l <;> simp [h]
theorem among_le (l : List Nat) (q : Nat) : among l q ≤ q := by
  unfold among
  have := List.length_filter_le (fun y => decide (y ∈ l)) (List.range q)
  simpa using this
theorem among_all {l : List Nat} {n : Nat} (hnd : l.Nodup) (hl : ∀ x ∈ l, x < n) : among l n = l.length := by
  unfold among
  refine List.Perm.length_eq ((List.perm_ext_iff_of_nodup (List.nodup_range.filter _) hnd).2 fun x => ?_)
  simp only [List.mem_filter, List.mem_range, decide_eq_true_eq]
  exact ⟨fun h => h.2, fun h => ⟨hl x h, h⟩⟩
end Go.Proofs.Ytcbfmplddjmiaaa
