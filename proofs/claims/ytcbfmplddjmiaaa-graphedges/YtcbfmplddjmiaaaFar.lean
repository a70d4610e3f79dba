/- A region that draws its order, two calls of which may come in either order, each handing back memory of its own: one walk of what follows both serves both orders. -/
import Derived.Below
import Derived.Test.YtcbfmplddjmiaaaLate
namespace Go.Proofs.Ytcbfmplddjmiaaa
open Go Go.RowKit

section
variable {P : Program} {ops : Array Oper} {Q : Exit → Act → World → Prop} {md : Region.Mode} {S : World → Prop} {n0 : Nat}

/-- What an operation yields and leaves: T; of what was there nothing has turned. -/
def farUpon (P : Program) (w : World) (T : Value → World → Prop) : Result Next → Prop
  | .ok (.value u) w' => w' = w ∧ T u w
  | .ok (.enter f args) w' => w' = w ∧ Calls P f args w (fun e w'' => ∃ v, e = .returned v ∧ Below w.heap.size w w'' ∧ T v w'')
  | _ => False
def Oper.far (P : Program) (o : Oper) (a : Act) (w : World) (T : Value → World → Prop) : Prop := farUpon P w T ((execOp a.eval o).run P w)

theorem wp_of_far {o : Oper} {a : Act} {w : World} {T : Value → World → Prop} {K : Act → World → Prop} {Q' : Exit → Act → World → Prop} (h : Oper.far P o a w T)
    (hK : ∀ v w', Below w.heap.size w w' → T v w' → K (a.put o.dst v) w') : o.wp P a w K Q' := by
  unfold Oper.far at h
  unfold Oper.wp
  generalize (execOp a.eval o).run P w = r at *
  cases r with
  | ok n w' =>
    cases n <;> simp only [farUpon] at h <;> simp only [Oper.upon]
    case value u =>
      obtain ⟨rfl, h2⟩ := h
      exact hK _ _ (Below.refl _ _) h2
    case enter f args =>
      obtain ⟨rfl, hc⟩ := h
      exact hc.mono fun e w'' ⟨v, he, hb, ht⟩ => by subst he; exact hK _ _ hb ht
  | halt x w' => simp only [farUpon] at h

/-- Two that are apart, each a call: what follows both is walked once. -/
theorem wpAnyE_both {i j : Nat} {oi oj : Oper} {fuel : Nat} {listed : Array Bool} {a : Act} {w : World} (Ti Tj : Value → World → Prop)
    (hi : ops[i]? = some oi) (hj : ops[j]? = some oj)
    (hB : (Region.noSelect ops && (oi.apart ops oj && (decide (Region.ready md ops listed = [i, j]) && (decide (Region.ready md ops (listed.setIfInBounds i true) = [j]) && (decide (Region.ready md ops (listed.setIfInBounds j true) = [i]) && decide (i ≠ j)))))) = true)
    (hwi : Region.wanted oi (yielded ops a.tmps) = true) (hwj : Region.wanted oj (yielded ops a.tmps) = true)
    (hS : S w) (hst : ∀ w w', S w → Below w.heap.size w w' → S w')
    (hti : ∀ v w w', Ti v w → Below w.heap.size w w' → Ti v w') (htj : ∀ v w w', Tj v w → Below w.heap.size w w' → Tj v w')
    (fi : ∀ w, S w → Oper.far P oi a w Ti) (fj : ∀ w, S w → Oper.far P oj a w Tj)
    (next : ∀ v u w', S w' → Ti v w' → Tj u w' → wpAnyE P md ops Q S n0 fuel ((listed.setIfInBounds i true).setIfInBounds j true) ((a.put oi.dst v).put oj.dst u) w') :
    wpAnyE P md ops Q S n0 (fuel + 1 + 1) listed a w := by
  simp only [Bool.and_eq_true, decide_eq_true_eq] at hB
  obtain ⟨hns, hap, hr, hri, hrj, hij⟩ := hB
  obtain ⟨h1, h2, h3⟩ := Oper.apart_spec hap
  have hsel := Region.noSelect_spec hns
  refine ⟨fun h0 => (by rw [hr] at h0; cases h0), fun q hq => ?_⟩
  rw [hr] at hq
  simp only [List.mem_cons, List.not_mem_nil, or_false] at hq
  rcases hq with rfl | rfl
  · unfold wpOp
    simp only [hi, hwi, if_true]
    refine .inl (wp_of_far (fi w hS) fun v w1 hb1 ht1 => ⟨.inr (hst _ _ hS hb1), fun h0 => (by rw [hri] at h0; cases h0), fun p hp => ?_⟩)
    rw [hri] at hp
    obtain rfl : p = j := by simpa using hp
    have hS1 := hst _ _ hS hb1
    unfold wpOp
    simp only [hj]
    rw [wanted_put oj a oi.dst v h1, hwj]
    simp only [if_true]
    have hf : Oper.far P oj (a.put oi.dst v) w1 Tj := by
      have := fj w1 hS1
      unfold Oper.far at *
      rwa [execOp_put oj (fun cs b => hsel p oj cs b hj) a oi.dst v h1]
    exact .inl (wp_of_far hf fun u w2 hb2 ht2 => ⟨.inr (hst _ _ hS1 hb2), next v u w2 (hst _ _ hS1 hb2) (hti _ _ _ ht1 hb2) ht2⟩)
  · unfold wpOp
    simp only [hj, hwj, if_true]
    refine .inl (wp_of_far (fj w hS) fun u w1 hb1 ht1 => ⟨.inr (hst _ _ hS hb1), fun h0 => (by rw [hrj] at h0; cases h0), fun p hp => ?_⟩)
    rw [hrj] at hp
    obtain rfl : p = i := by simpa using hp
    have hS1 := hst _ _ hS hb1
    unfold wpOp
    simp only [hi]
    rw [wanted_put oi a oj.dst u h3, hwi]
    simp only [if_true]
    have hf : Oper.far P oi (a.put oj.dst u) w1 Ti := by
      have := fi w1 hS1
      unfold Oper.far at *
      rwa [execOp_put oi (fun cs b => hsel p oi cs b hi) a oj.dst u h3]
    refine .inl (wp_of_far hf fun v w2 hb2 ht2 => ⟨.inr (hst _ _ hS1 hb2), ?_⟩)
    have hn := next v u w2 (hst _ _ hS1 hb2) ht2 (htj _ _ _ ht1 hb2)
    rw [Array.setIfInBounds_comm _ _ hij] at hn
    rwa [Act.put_comm a v u h2] at hn
end
end Go.Proofs.Ytcbfmplddjmiaaa
