import Derived.Test.YtehfhconhcefbaaLsa
import Derived.Test.YtehfhconhcefbaaLsb
import Derived.Test.YtehfhconhcefbaaLsc
namespace Go.Proofs.Ytehfhconhcefbaa
open Go Go.RowKit Go.Sort

theorem strict_law (a b : V) (w : World) :
    Calls Try.prog 8 #[a.val, b.val] w fun e w' => e = .returned (.bool true) ∧ Below w.heap.size w w' := by
  have h1 : 0 ≤ hgt a := by unfold hgt; rcases sn_k a with h | h | h <;> rw [h] <;> decide
  have h2 : 0 ≤ hgt b := by unfold hgt; rcases sn_k b with h | h | h <;> rw [h] <;> decide
  by_cases hx : hgt a = 0
  · by_cases hy : hgt b = 0
    · exact strict_A a b hx hy w
    · exact strict_B a b _ (by omega) hx rfl w
  · by_cases hy : hgt b = 0
    · exact strict_C a b _ (by omega) rfl hy w
    · by_cases h : hgt a < hgt b
      · exact strict_D a b _ _ (by omega) h rfl rfl w
      · exact strict_E a b _ _ (by omega) (by omega) rfl rfl w
end Go.Proofs.Ytehfhconhcefbaa
