import Derived.Test.YtmcbedlmgffckaaGreatDoorEnvZ
namespace Go.Proofs.YtmcbedlmgffckaaGreatDoor
open Go Go.RowKit Go.Sort

theorem leqF_ref (l1 l2 : List V) : leqF true l1 true l2 = allG (fun k => leq (atG vbot true l1 (k : Int)).sn (atG vbot true l2 (k : Int)).sn) (max l1.length l2.length) := by
  rw [Bool.eq_iff_iff, leqF_iff, allG_iff]
  constructor
  · rintro ⟨_, h⟩ k _
    rw [leq_sn_sn]; exact h k
  · intro h
    refine ⟨id, fun k => ?_⟩
    by_cases hk : k < max l1.length l2.length
    · have := h k hk; rw [leq_sn_sn] at this; exact this
    · rw [atG_ge (l := l1) (by simp [szG]; omega)]; exact leq_bot _
theorem leqS_ref (l1 l2 : List Int) : leqS true l1 true l2 = allG (fun k => leqN (sS (atG 0 true l1 (k : Int))) (sS (atG 0 true l2 (k : Int)))) (max l1.length l2.length) := by
  rw [Bool.eq_iff_iff, leqS_iff, allG_iff]
  constructor
  · rintro ⟨_, h⟩ k _
    exact h k
  · intro h
    refine ⟨id, fun k => ?_⟩
    by_cases hk : k < max l1.length l2.length
    · exact h k hk
    · rw [atG_ge (l := l1) (by simp [szG]; omega)]; exact leqN_zero _
theorem leqF_offL (l1 : List V) (on2 : Bool) (l2 : List V) : leqF false l1 on2 l2 = true := (leqF_iff _ _ _ _).2 ⟨fun h => (Bool.false_ne_true h).elim, fun _ => by rw [atG_off]; exact leq_bot _⟩
theorem leqS_offL (l1 : List Int) (on2 : Bool) (l2 : List Int) : leqS false l1 on2 l2 = true := (leqS_iff _ _ _ _).2 ⟨fun h => (Bool.false_ne_true h).elim, fun _ => by rw [atG_off]; exact leqN_zero _⟩
theorem leqF_offR (l1 l2 : List V) : leqF true l1 false l2 = false := by
  cases h : leqF true l1 false l2 with
  | false => rfl
  | true => exact absurd (((leqF_iff _ _ _ _).1 h).1 rfl) (by decide)
theorem leqS_offR (l1 l2 : List Int) : leqS true l1 false l2 = false := by
  cases h : leqS true l1 false l2 with
  | false => rfl
  | true => exact absurd (((leqS_iff _ _ _ _).1 h).1 rfl) (by decide)

end Go.Proofs.YtmcbedlmgffckaaGreatDoor