/- The least number above the last one: the pure side of the document's Vars. -/
import Derived.Test.YtmcbedlmgffckaaGreatDoorInsM
namespace Go.Proofs.YtmcbedlmgffckaaGreatDoor
open Go

/-- Is a number above the last one, if there is one? -/
def abv (lo : Option Int) (x : Int) : Bool := match lo with
  | none => true
  | some y => decide (y < x)
def bst (lo : Option Int) (l : List Int) : Int := l.foldl (fun b x => if abv lo x && (decide (b < 0) || decide (x < b)) then x else b) (-1)
theorem bst_snoc (lo : Option Int) (l : List Int) (x : Int) : bst lo (l ++ [x]) = if abv lo x && (decide (bst lo l < 0) || decide (x < bst lo l)) then x else bst lo l := by simp [bst]
theorem bst_is (lo : Option Int) : ∀ (l : List Int), (∀ x ∈ l, 0 ≤ x) → (bst lo l = -1 ∧ ∀ x ∈ l, abv lo x = false) ∨ (bst lo l ∈ l ∧ abv lo (bst lo l) = true ∧ ∀ x ∈ l, abv lo x = true → bst lo l ≤ x) := by
  intro l
  obtain ⟨m, rfl⟩ : ∃ m : List Int, l = m.reverse := ⟨l.reverse, by simp⟩
  induction m with
  | nil => intro _; exact .inl ⟨rfl, fun x h => by cases h⟩
  | cons x m ih =>
    intro h0
    rw [List.reverse_cons] at h0 ⊢
    generalize m.reverse = l at *
    have hx : 0 ≤ x := h0 x (by simp)
    have ih' := ih (fun y hy => h0 y (by simp [hy]))
    rw [bst_snoc]
    rcases ih' with ⟨e, hn⟩ | ⟨hm, ha, hl⟩
    · rw [e]
      by_cases hax : abv lo x = true
      · rw [if_pos (by simp [hax])]
        refine .inr ⟨by simp, hax, fun y hy hay => ?_⟩
        rcases List.mem_append.1 hy with g | g
        · rw [hn y g] at hay; cases hay
        · simp at g; omega
      · rw [if_neg (by simp [hax])]
        refine .inl ⟨rfl, fun y hy => ?_⟩
        rcases List.mem_append.1 hy with g | g
        · exact hn y g
        · simp at g; subst g; simpa using hax
    · have hb0 : 0 ≤ bst lo l := h0 _ (by simp [hm])
      by_cases hc : abv lo x = true ∧ x < bst lo l
      · rw [if_pos (by simp [hc.1, hc.2])]
        refine .inr ⟨by simp, hc.1, fun y hy hay => ?_⟩
        rcases List.mem_append.1 hy with g | g
        · have := hl y g hay; omega
        · simp at g; omega
      · rw [if_neg (by simp only [Bool.and_eq_true, Bool.or_eq_true, decide_eq_true_eq]; intro g; exact hc ⟨g.1, by rcases g.2 with q | q <;> omega⟩)]
        refine .inr ⟨by simp [hm], ha, fun y hy hay => ?_⟩
        rcases List.mem_append.1 hy with g | g
        · exact hl y g hay
        · simp at g
          subst g
          rcases Int.lt_or_le y (bst lo l) with q | q
          · exact absurd ⟨hay, q⟩ hc
          · exact q
theorem bst_next {l : List Int} (h0 : ∀ x ∈ l, 0 ≤ x) {j : Nat} (hj : j < (sortL l).length) : bst (if j = 0 then none else (sortL l)[j - 1]?) l = (sortL l)[j] := by
  have hr := List.pairwise_iff_getElem.1 (sortL_rising l)
  have hmem : (sortL l)[j] ∈ l := (mem_sortL _ l).1 (List.getElem_mem hj)
  have hlo : abv (if j = 0 then none else (sortL l)[j - 1]?) (sortL l)[j] = true := by
    by_cases h : j = 0
    · rw [if_pos h]; rfl
    · rw [if_neg h, List.getElem?_eq_getElem (by omega)]
      simp only [abv, decide_eq_true_eq]
      exact hr (j - 1) j (by omega) hj (by omega)
  have hmin : ∀ x ∈ l, abv (if j = 0 then none else (sortL l)[j - 1]?) x = true → (sortL l)[j] ≤ x := by
    intro x hx ha
    obtain ⟨q, hq, e⟩ := List.getElem_of_mem ((mem_sortL x l).2 hx)
    subst e
    rcases Nat.lt_or_ge q j with g | g
    · exfalso
      rw [if_neg (by omega), List.getElem?_eq_getElem (by omega)] at ha
      simp only [abv, decide_eq_true_eq] at ha
      rcases Nat.lt_or_ge q (j - 1) with g2 | g2
      · have := hr q (j - 1) hq (by omega) g2; omega
      · have e2 : q = j - 1 := by omega
        subst e2; omega
    · rcases Nat.eq_or_lt_of_le g with g2 | g2
      · subst g2; exact Int.le_refl _
      · exact Int.le_of_lt (hr j q hj hq g2)
  rcases bst_is (if j = 0 then none else (sortL l)[j - 1]?) l h0 with ⟨_, hn⟩ | ⟨hm, ha, hl⟩
  · rw [hn _ hmem] at hlo; cases hlo
  · have h1 := hl _ hmem hlo
    have h2 := hmin _ hm ha
    omega
theorem insL_length {x : Int} : ∀ {l : List Int}, x ∉ l → (insL x l).length = l.length + 1
  | [], _ => rfl
  | y :: l, h => by
    unfold insL
    split
    · simp
    · split
      · rename_i e; subst e; exact absurd (by simp) h
      · simp only [List.length_cons]
        rw [insL_length (fun g => h (by simp [g]))]
theorem sortL_length : ∀ {l : List Int}, l.Nodup → (sortL l).length = l.length
  | [], _ => rfl
  | x :: l, h => by
    have h' := List.nodup_cons.1 h
    show (insL x (sortL l)).length = _
    rw [insL_length (fun g => h'.1 ((mem_sortL x l).1 g)), sortL_length h'.2, List.length_cons]
theorem noneB_nonneg {p : Bool} {x : Int} (h : noneB p x = true) : 0 ≤ x := by
  simp [noneB] at h
  omega
theorem uses_nonneg (i : Ins) : ∀ x ∈ i.uses, 0 ≤ x := by
  intro x hx
  unfold Ins.uses at hx
  split at hx
  · rename_i hf
    rw [mem_foldl_addL] at hx
    rcases hx with h | h
    · unfold addIf at h
      have ha := noneB_nonneg hf.2.2.2.2.2.2.2.1
      have hb := noneB_nonneg hf.2.2.2.2.2.2.2.2.1
      split at h
      · rw [mem_addL] at h
        rcases h with h | h
        · split at h
          · rw [mem_addL] at h
            rcases h with h | h
            · cases h
            · omega
          · cases h
        · omega
      · split at h
        · rw [mem_addL] at h
          rcases h with h | h
          · cases h
          · omega
        · cases h
    · have h0 := noneB_nonneg hf.2.2.2.2.2.2.2.2.2.2.2.2.2.2.1
      have h1 := noneB_nonneg hf.2.2.2.2.2.2.2.2.2.2.2.2.2.2.2.1
      have h2 := noneB_nonneg hf.2.2.2.2.2.2.2.2.2.2.2.2.2.2.2.2
      have := List.mem_of_mem_take h
      simp [Ins.args] at this
      omega
  · cases hx
end Go.Proofs.YtmcbedlmgffckaaGreatDoor
