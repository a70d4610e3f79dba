/- What a list is when it is sorted and its doubles are struck. -/
import Derived.Lib.SlicesCompact
import Derived.Test.YtbddjneinfkmpaaGreatDoorInsM
namespace Go.Proofs.YtbddjneinfkmpaaGreatDoor
open Go

theorem upTo_rising {zs : List Int} (hs : zs.Pairwise (· ≤ ·)) : ∀ m, m ≤ zs.length → (Lib.compactUpTo zs.toArray m).Pairwise (· < ·) ∧ ∀ x, x ∈ Lib.compactUpTo zs.toArray m ↔ x ∈ zs.take m := by
  intro m
  induction m with
  | zero => intro _; simp [Lib.compactUpTo]
  | succ m ih =>
    intro hm
    obtain ⟨h1, h2⟩ := ih (by omega)
    have hml : m < zs.length := by omega
    have hget : ∀ j, j < zs.length → zs.toArray[j]! = zs[j]?.getD 0 := fun j hj => by simp [hj]
    have htk : zs.take (m + 1) = zs.take m ++ [zs[m]] := List.take_succ_eq_append_getElem hml
    rw [Lib.compactUpTo_succ]
    by_cases hk : Lib.keeps zs.toArray m = true
    · rw [if_pos hk]
      have hx : zs.toArray[m]! = zs[m] := by simp [hml]
      rw [hx]
      refine ⟨List.pairwise_append.2 ⟨h1, by simp, fun y hy z hz => ?_⟩, fun x => by rw [List.mem_append, h2, htk, List.mem_append]⟩
      simp at hz
      subst hz
      have hy' := (h2 y).1 hy
      obtain ⟨j, hj, e⟩ := List.getElem_of_mem hy'
      have hjm : j < m := by rw [List.length_take] at hj; omega
      have ej : zs[j] = y := by rw [← e, List.getElem_take]
      have hle : zs[j]'(by omega) ≤ zs[m - 1]'(by omega) := by
        by_cases hjj : j = m - 1
        · subst hjj; exact Int.le_refl _
        · exact List.pairwise_iff_getElem.1 hs j (m - 1) (by omega) (by omega) (by omega)
      have hle2 : zs[m - 1]'(by omega) ≤ zs[m] := List.pairwise_iff_getElem.1 hs (m - 1) m (by omega) hml (by omega)
      have hne : zs[m - 1]'(by omega) ≠ zs[m] := by
        intro e2
        have hf : Lib.keeps zs.toArray m = false := Lib.keeps_neg (by omega) (by simp [hml, show m - 1 < zs.length by omega, e2])
        rw [hf] at hk
        cases hk
      rw [← ej]
      omega
    · rw [if_neg hk, List.append_nil]
      refine ⟨h1, fun x => ?_⟩
      rw [h2, htk, List.mem_append]
      constructor
      · exact .inl
      · rintro (h | h)
        · exact h
        · simp at h
          subst h
          have hm0 : 0 < m := by
            rcases Nat.eq_zero_or_pos m with rfl | h0
            · exact absurd (Lib.keeps_lt_one zs.toArray 0 (by omega)) hk
            · exact h0
          have he : zs[m] = zs[m - 1]'(by omega) := by
            by_cases e2 : zs[m] = zs[m - 1]'(by omega)
            · exact e2
            · exact absurd (Lib.keeps_pos (by simp [hml, show m - 1 < zs.length by omega, e2])) hk
          rw [he]
          rw [List.mem_take_iff_getElem]
          exact ⟨m - 1, by omega, rfl⟩
theorem compact_sorted (l : List Int) : Lib.compact (l.mergeSort fun x y => decide (x ≤ y)) = sortL l := by
  have hs : (l.mergeSort fun x y => decide (x ≤ y)).Pairwise (· ≤ ·) := by
    have := List.pairwise_mergeSort (le := fun (x y : Int) => decide (x ≤ y)) (fun a b c h1 h2 => by simp at *; omega) (fun a b => by simp; omega) l
    simpa using this
  obtain ⟨h1, h2⟩ := upTo_rising hs _ (Nat.le_refl _)
  refine rising_ext h1 (sortL_rising l) fun x => ?_
  unfold Lib.compact
  rw [h2, List.take_of_length_le (Nat.le_refl _), mem_sortL, (List.mergeSort_perm l _).mem_iff]
end Go.Proofs.YtbddjneinfkmpaaGreatDoor
