/- The document's answer for layer 5: the leaves, Form, Def. -/
import Derived.Test.YtmcbedlmgffckaaGreatDoorInsD
namespace Go.Proofs.YtmcbedlmgffckaaGreatDoor
open Go Go.RowKit Go.Sort

set_option maxHeartbeats 1000000 in
theorem rhasDst_any (k : Int) (w : World) :
    Calls Tryz.prog 44 #[.int .i64 k] w fun e w' => e = .returned (.bool (hasDst k)) ∧ Below w.heap.size w w' := by
  by_cases h0 : 0 ≤ k
  · go_enter Tryz.func44, Tryz.ntmps44
    go_wp2
    go_ret
    exact ⟨ret_bool (by simp [hasDst, h0]), Below.refl _ _⟩
  · have h0' : k < 0 := by omega
    go_enter Tryz.func44, Tryz.ntmps44
    go_wp2
    go_ret
    exact ⟨ret_bool (by simp [hasDst]; omega), Below.refl _ _⟩

set_option maxHeartbeats 1000000 in
theorem rhasB_any (k : Int) (w : World) :
    Calls Tryz.prog 82 #[.int .i64 k] w fun e w' => e = .returned (.bool (hasB k)) ∧ Below w.heap.size w w' := by
  by_cases h0 : 3 ≤ k
  · go_enter Tryz.func82, Tryz.ntmps82
    go_wp2
    go_ret
    exact ⟨ret_bool (by simp [hasB, h0]), Below.refl _ _⟩
  · have h0' : k < 3 := by omega
    go_enter Tryz.func82, Tryz.ntmps82
    go_wp2
    go_ret
    exact ⟨ret_bool (by simp [hasB]; omega), Below.refl _ _⟩

set_option maxHeartbeats 4000000 in
theorem rhasA_any (k : Int) (w : World) :
    Calls Tryz.prog 81 #[.int .i64 k] w fun e w' => e = .returned (.bool (hasA k)) ∧ Below w.heap.size w w' := by
  rcases (by omega : k ≤ 0 ∨ (1 ≤ k ∧ k ≤ 5) ∨ k = 6 ∨ k = 7 ∨ k = 8 ∨ k = 9 ∨ 10 ≤ k) with h | ⟨h, h'⟩ | rfl | rfl | rfl | rfl | h
  · have h1 : ¬ (1 ≤ k) := by omega
    have h2 : k ≠ 8 := by omega
    have h3 : k ≠ 9 := by omega
    go_enter Tryz.func81, Tryz.ntmps81
    go_wp2
    all_goals
      go_ret
      exact ⟨ret_bool (by rw [Bool.eq_iff_iff]; simp [hasA]; omega), Below.refl _ _⟩
  · go_enter Tryz.func81, Tryz.ntmps81
    go_wp2
    all_goals
      go_ret
      exact ⟨ret_bool (by simp [hasA, h, h']), Below.refl _ _⟩
  · go_enter Tryz.func81, Tryz.ntmps81
    go_wp2
    go_ret
    exact ⟨ret_bool (by decide), Below.refl _ _⟩
  · go_enter Tryz.func81, Tryz.ntmps81
    go_wp2
    go_ret
    exact ⟨ret_bool (by decide), Below.refl _ _⟩
  · go_enter Tryz.func81, Tryz.ntmps81
    go_wp2
    go_ret
    exact ⟨ret_bool (by decide), Below.refl _ _⟩
  · go_enter Tryz.func81, Tryz.ntmps81
    go_wp2
    go_ret
    exact ⟨ret_bool (by decide), Below.refl _ _⟩
  · have h1 : 1 ≤ k := by omega
    have h1' : ¬ (k ≤ 5) := by omega
    have h2 : k ≠ 8 := by omega
    have h3 : k ≠ 9 := by omega
    go_enter Tryz.func81, Tryz.ntmps81
    go_wp2
    all_goals
      go_ret
      exact ⟨ret_bool (by rw [Bool.eq_iff_iff]; simp [hasA]; omega), Below.refl _ _⟩

set_option maxHeartbeats 1000000 in
theorem rnone_any (had : Bool) (n : Int) (w : World) (r : Bool) (hr : noneB had n = r) :
    Calls Tryz.prog 80 #[.bool had, .int .i64 n] w fun e w' => e = .returned (.bool r) ∧ Below w.heap.size w w' := by
  subst hr
  cases had with
  | false =>
    go_enter Tryz.func80, Tryz.ntmps80
    go_wp2
    go_ret
    exact ⟨ret_bool (by rw [Bool.eq_iff_iff]; simp [noneB]), Below.refl _ _⟩
  | true =>
    by_cases h : 0 ≤ n
    · go_enter Tryz.func80, Tryz.ntmps80
      go_wp2
      go_ret
      exact ⟨ret_bool (by simp [noneB, h]), Below.refl _ _⟩
    · have h' : n < 0 := by omega
      go_enter Tryz.func80, Tryz.ntmps80
      go_wp2
      go_ret
      exact ⟨ret_bool (by rw [Bool.eq_iff_iff]; simp [noneB]; omega), Below.refl _ _⟩
end Go.Proofs.YtmcbedlmgffckaaGreatDoor
