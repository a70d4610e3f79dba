/- Graphs: ways with one edge more. -/
import Derived.Test.YtcbfmplddjmiaaaGrJ2
namespace Go.Proofs.Ytcbfmplddjmiaaa
open Go Go.RowKit Go.Sort

theorem cut_with (E : Nat → Nat → Bool) (a b : Int) : cutI (withI E a b) a b = cutI E a b := by
  funext p q
  simp only [cutI, withI]
  cases E p q <;> cases (decide ((p : Int) = a) && decide ((q : Int) = b)) <;> rfl
theorem with_cut (E : Nat → Nat → Bool) (a b : Int) : withI (cutI E a b) a b = withI E a b := by
  funext p q
  simp only [cutI, withI]
  cases E p q <;> cases (decide ((p : Int) = a) && decide ((q : Int) = b)) <;> rfl
theorem withI_new (E : Nat → Nat → Bool) (x y : Nat) : withI E (x : Int) (y : Int) x y = true := by simp [withI]
theorem way_with {n : Nat} {E : Nat → Nat → Bool} {x y z i : Nat} (hx : x < n) (hy : y < n) : Way n (withI E (x : Int) (y : Int)) z i ↔ Way n E z i ∨ (Way n E z x ∧ Way n E y i) := by
  have hm : ∀ {p q}, Way n E p q → Way n (withI E (x : Int) (y : Int)) p q := fun h => h.mono fun a b _ _ he => by simp [withI, he]
  constructor
  · intro h
    induction h with
    | refl h => exact .inl (.refl h)
    | @step p q h hq he ih =>
      unfold withI at he
      rcases Bool.or_eq_true _ _ ▸ he with h1 | h1
      · rcases ih with h2 | ⟨h2, h3⟩
        · exact .inl (.step h2 hq h1)
        · exact .inr ⟨h2, .step h3 hq h1⟩
      · simp at h1
        obtain ⟨e1, e2⟩ := h1
        obtain rfl : p = x := by omega
        obtain rfl : q = y := by omega
        rcases ih with h2 | ⟨h2, h3⟩
        · exact .inr ⟨h2, .refl hy⟩
        · exact .inr ⟨h2, .refl hy⟩
  · rintro (h | ⟨h1, h2⟩)
    · exact hm h
    · exact (hm h1).trans ((Way.one hx hy (withI_new E x y)).trans (hm h2))
theorem reach_with {n : Nat} {E : Nat → Nat → Bool} {x y z i : Nat} (hx : x < n) (hy : y < n) :
    decide (i ∈ orderI n (withI E (x : Int) (y : Int)) (z : Int)) = (decide (i ∈ orderI n E (z : Int)) || (decide (x ∈ orderI n E (z : Int)) && decide (i ∈ orderI n E (y : Int)))) := by
  rw [Bool.eq_iff_iff]
  simp only [Bool.or_eq_true, Bool.and_eq_true, decide_eq_true_eq, orderI_mem]
  exact way_with hx hy
theorem path_with {n : Nat} {E : Nat → Nat → Bool} {x y : Nat} (hx : x < n) (hy : y < n) : pathB n (withI E (x : Int) (y : Int)) (x : Int) (y : Int) = true := by
  rw [pathB_iff hy]
  exact ⟨x, .refl hx, withI_new E x y⟩
end Go.Proofs.Ytcbfmplddjmiaaa
