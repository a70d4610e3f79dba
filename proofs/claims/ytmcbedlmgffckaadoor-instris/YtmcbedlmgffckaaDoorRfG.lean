/- The document's answer for layer 5: Name. -/
import Derived.Test.YtmcbedlmgffckaaDoorInsI
namespace Go.Proofs.YtmcbedlmgffckaaDoor.Bi
open Go Go.RowKit Go.Sort

set_option maxRecDepth 100000 in
set_option maxHeartbeats 8000000 in
theorem rName_any (k : Int) (w : World) (b : ByteArray) (hb : nameB k = b) :
    Calls Tryd.prog 20 #[.int .i64 k] w fun e w' => e = .returned (.string b) ∧ Below w.heap.size w w' := by
  have HB : Hid ((if 0 ≤ k ∧ k < 10 then kBytes k.toNat else ⟨#[]⟩) = b) := hb
  clear hb
  by_cases hk : 0 ≤ k ∧ k < 10
  rotate_left
  · have h0 : b = ⟨#[]⟩ := by rw [← HB.out, if_neg hk]
    subst h0
    rcases (by omega : k < 0 ∨ 9 < k) with h | h
    · go_enter Tryd.func20, Tryd.ntmps20
      go_wp2
      go_ret
      exact ⟨rfl, below1 _ _⟩
    · have h' : ¬ (k < 0) := by omega
      go_enter Tryd.func20, Tryd.ntmps20
      go_wp2
      go_ret
      exact ⟨rfl, below1 _ _⟩
  rcases (by omega : k = 0 ∨ k = 1 ∨ k = 2 ∨ k = 3 ∨ k = 4 ∨ k = 5 ∨ k = 6 ∨ k = 7 ∨ k = 8 ∨ k = 9) with rfl | rfl | rfl | rfl | rfl | rfl | rfl | rfl | rfl | rfl
  all_goals
    go_enter Tryd.func20, Tryd.ntmps20
    go_wp2
    go_ret
    exact ⟨by rw [← HB.out]; rfl, below1 _ _⟩
end Go.Proofs.YtmcbedlmgffckaaDoor.Bi
