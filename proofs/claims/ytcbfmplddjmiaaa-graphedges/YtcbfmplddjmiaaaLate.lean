/- A region that draws its order, reads first, and ends in stores: what is read may be taken first, also where a last store writes it. -/
import Derived.Deep.RegionHeld3
import Derived.StillTail
namespace Go.Proofs.Ytcbfmplddjmiaaa
open Go

section
variable {P : Program} {ops : Array Oper} {Q : Exit → Act → World → Prop} {md : Region.Mode} {S : World → Prop} {n0 : Nat}

/-- Whatever order is picked from here on, and S holds behind every operation below number n0 that is carried out. -/
def wpAnyE (P : Program) (md : Region.Mode) (ops : Array Oper) (Q : Exit → Act → World → Prop) (S : World → Prop) (n0 : Nat) : Nat → Array Bool → Act → World → Prop
  | 0, listed, a, w => Region.ready md ops listed = [] ∧ Q .normal a w
  | fuel + 1, listed, a, w =>
    (Region.ready md ops listed = [] → Q .normal a w) ∧
    ∀ i ∈ Region.ready md ops listed, wpOp P ops Q i (fun a' w' => (n0 ≤ i ∨ S w') ∧ wpAnyE P md ops Q S n0 fuel (listed.setIfInBounds i true) a' w') a w

theorem wpAny_of_E : ∀ (fuel : Nat) (listed : Array Bool) (a : Act) (w : World), wpAnyE P md ops Q S n0 fuel listed a w → wpAny P md ops Q fuel listed a w
  | 0, _, _, _, h => h
  | fuel + 1, _, _, _, h => ⟨h.1, fun i hi => wpOp_mono (fun a' w' h' => wpAny_of_E fuel _ a' w' h'.2) (h.2 i hi)⟩

/-- Each operation from n0 on waits for number i. -/
def lateB (md : Region.Mode) (ops : Array Oper) (n0 i : Nat) : Bool := (List.range ops.size).all fun j => decide (j < n0) || Region.waitsFor md ops j i

theorem wpAnyE_first {i : Nat} {oi : Oper} {v : Value} (hi : ops[i]? = some oi) (hsel : ∀ (j : Nat) (o : Oper) cs b, ops[j]? = some o → o.op ≠ .select cs b)
    (hQ : ∀ c a w, Q (.panic c) (a.put oi.dst v) w → Q (.panic c) a w) (hlate : lateB md ops n0 i = true) :
    ∀ (fuel : Nat) (listed : Array Bool) (a : Act) (w : World),
      (∀ j oj, ops[j]? = some oj → j ≠ i → listed.getD j true = false → (∀ e ∈ oj.after, Region.binds md e = true → e.on ≠ i) → oi.apart ops oj = true) →
      i ∈ Region.ready md ops listed → YieldsIf P ops S oi v a → S w →
      wpAnyE P md ops Q S n0 fuel (listed.setIfInBounds i true) (a.put oi.dst v) w → wpAnyE P md ops Q S n0 (fuel + 1) listed a w := by
  intro fuel
  induction fuel with
  | zero =>
    intro listed a w _ hr hy hS H
    refine ⟨fun h => (by rw [h] at hr; cases hr), fun j hj => ?_⟩
    by_cases hji : j = i
    · subst hji; exact hy.wpOp hi hS ⟨.inr hS, H⟩
    · have := ready_mono hj hji
      rw [H.1] at this
      cases this
  | succ fuel ih =>
    intro listed a w hfree hr hy hS H
    refine ⟨fun h => (by rw [h] at hr; cases hr), fun j hj => ?_⟩
    by_cases hji : j = i
    · subst hji; exact hy.wpOp hi hS ⟨.inr hS, H⟩
    · have h1 := H.2 j (ready_mono hj hji)
      obtain ⟨hjun, oj, hoj, hall⟩ := mem_ready.1 hj
      have hnot : ∀ e ∈ oj.after, Region.binds md e = true → e.on ≠ i := fun e he hb heq => by
        have h1 := hall e he hb
        have h0 := (mem_ready.1 hr).1
        rw [heq] at h1
        rcases Nat.lt_or_ge i listed.size with h' | h'
        · simp [h'] at h0 h1; rw [h0] at h1; cases h1
        · simp [Array.getElem?_eq_none h'] at h1
      have hearly : ¬ n0 ≤ j := fun hle => by
        have hjs : j < ops.size := (Array.getElem?_eq_some_iff.1 hoj).1
        have hb := List.all_eq_true.1 hlate j (List.mem_range.2 hjs)
        simp only [Bool.or_eq_true, decide_eq_true_eq] at hb
        rcases hb with hb | hb
        · omega
        · obtain ⟨oj', hoj', e, he, hbe, hon⟩ := Region.waitsFor_spec hb
          have : oj' = oj := Option.some.inj (hoj'.symm.trans hoj)
          subst this
          exact hnot e he hbe hon
      have h2 := wpOp_putIf hoj (hfree j oj hoj hji hjun hnot) (fun cs b => hsel i oi cs b hi) (fun cs b => hsel j oj cs b hoj) hQ hy h1
      have hfree' : ∀ k ok, ops[k]? = some ok → k ≠ i → (listed.setIfInBounds j true).getD k true = false →
          (∀ e ∈ ok.after, Region.binds md e = true → e.on ≠ i) → oi.apart ops ok = true := fun k ok hk hki hun hno => by
        refine hfree k ok hk hki ?_ hno
        by_cases hjk : j = k
        · subst hjk; exact hjun
        · rw [getD_set_ne true hjk] at hun; exact hun
      refine wpOp_mono (fun a' w' h3 => ?_) h2
      have hS' := h3.2.1.resolve_left hearly
      refine ⟨.inr hS', ih (listed.setIfInBounds j true) a' w' hfree' (ready_mono hr (Ne.symm hji)) h3.1 hS' ?_⟩
      rw [Array.setIfInBounds_comm _ _ hji]
      exact h3.2.2

/-- Take number i first. -/
theorem wpAnyE_take {i : Nat} {oi : Oper} {v : Value} {fuel : Nat} {listed : Array Bool} {a : Act} {w : World} (hi : ops[i]? = some oi)
    (hs : (Region.noSelect ops && (Region.free md ops listed i && ((Region.ready md ops listed).contains i && lateB md ops n0 i))) = true)
    (hQ : ∀ c a w, Q (.panic c) (a.put oi.dst v) w → Q (.panic c) a w) (hS : S w) (hwt : Region.wanted oi (yielded ops a.tmps) = true) (hy : ∀ w, S w → (execOp a.eval oi).run P w = .ok (.value v) w)
    (h : wpAnyE P md ops Q S n0 fuel (listed.setIfInBounds i true) (a.put oi.dst v) w) : wpAnyE P md ops Q S n0 (fuel + 1) listed a w := by
  simp only [Bool.and_eq_true] at hs
  obtain ⟨h1, h2, h3, h4⟩ := hs
  exact wpAnyE_first hi (Region.noSelect_spec h1) hQ h4 fuel listed a w (Region.free_spec hi h2) (by simpa using h3) (.inl ⟨hwt, hy⟩) hS h

/-- Take number i first, whose value a law tells. -/
theorem wpAnyE_takeY {i : Nat} {oi : Oper} {v : Value} {fuel : Nat} {listed : Array Bool} {a : Act} {w : World} (hi : ops[i]? = some oi)
    (hs : (Region.noSelect ops && (Region.free md ops listed i && ((Region.ready md ops listed).contains i && lateB md ops n0 i))) = true)
    (hQ : ∀ c a w, Q (.panic c) (a.put oi.dst v) w → Q (.panic c) a w) (hS : S w) (hy : YieldsIf P ops S oi v a)
    (h : wpAnyE P md ops Q S n0 fuel (listed.setIfInBounds i true) (a.put oi.dst v) w) : wpAnyE P md ops Q S n0 (fuel + 1) listed a w := by
  simp only [Bool.and_eq_true] at hs
  obtain ⟨h1, h2, h3, h4⟩ := hs
  exact wpAnyE_first hi (Region.noSelect_spec h1) hQ h4 fuel listed a w (Region.free_spec hi h2) (by simpa using h3) hy hS h

/-- A number that is not wanted is passed over first. -/
theorem wpAnyE_skip {i : Nat} {oi : Oper} {fuel : Nat} {listed : Array Bool} {a : Act} {w : World} (hi : ops[i]? = some oi)
    (hs : (Region.noSelect ops && (Region.free md ops listed i && ((Region.ready md ops listed).contains i && lateB md ops n0 i))) = true)
    (hQ : ∀ c a w, Q (.panic c) (a.put oi.dst undef) w → Q (.panic c) a w) (hS : S w) (hwt : Region.wanted oi (yielded ops a.tmps) = false)
    (h : wpAnyE P md ops Q S n0 fuel (listed.setIfInBounds i true) (a.put oi.dst undef) w) : wpAnyE P md ops Q S n0 (fuel + 1) listed a w := by
  simp only [Bool.and_eq_true] at hs
  obtain ⟨h1, h2, h3, h4⟩ := hs
  exact wpAnyE_first hi (Region.noSelect_spec h1) hQ h4 fuel listed a w (Region.free_spec hi h2) (by simpa using h3) (.inr ⟨hwt, rfl⟩) hS h

/-- Numbers that are not wanted, one behind the other, each with its slot. -/
def skipB (md : Region.Mode) (ops : Array Oper) (n0 : Nat) : List (Nat × Tmp) → Array Bool → Act → Bool
  | [], _, _ => true
  | x :: l, listed, a => match ops[x.1]? with
    | some o => decide (o.dst = some x.2) && ((Region.noSelect ops && (Region.free md ops listed x.1 && ((Region.ready md ops listed).contains x.1 && lateB md ops n0 x.1))) && (!(Region.wanted o (yielded ops a.tmps)) && skipB md ops n0 l (listed.setIfInBounds x.1 true) (a.put (some x.2) undef)))
    | none => false
theorem wpAnyE_skips (hQ : ∀ c a d w, Q (.panic c) (Act.put a (some d) undef) w → Q (.panic c) a w) : ∀ (l : List (Nat × Tmp)) {fuel : Nat} {listed : Array Bool} {a : Act} {w : World},
    skipB md ops n0 l listed a = true → S w → wpAnyE P md ops Q S n0 fuel (l.foldl (fun t x => t.setIfInBounds x.1 true) listed) (l.foldl (fun a x => a.put (some x.2) undef) a) w → wpAnyE P md ops Q S n0 (fuel + l.length) listed a w
  | [], _, _, _, _, _, _, h => h
  | x :: l, fuel, listed, a, w, hB, hS, h => by
    unfold skipB at hB
    split at hB
    · rename_i o ho
      simp only [Bool.and_eq_true, decide_eq_true_eq, Bool.not_eq_true'] at hB
      obtain ⟨hd, hs, hw, hl⟩ := hB
      have ih := wpAnyE_skips hQ l (fuel := fuel) (listed := listed.setIfInBounds x.1 true) (a := a.put (some x.2) undef) (w := w) hl hS h
      rw [← hd] at ih
      exact wpAnyE_skip ho (by simp only [Bool.and_eq_true]; exact hs) (fun c a w hq => by rw [hd] at hq; exact hQ c a _ w hq) hS hw ih
    · cases hB

/-- One alone may come up: it is run, and S shown anew behind it. -/
theorem wpAnyE_one {i : Nat} {o : Oper} {fuel : Nat} {listed : Array Bool} {a : Act} {w : World} (hr : Region.ready md ops listed = [i]) (ho : ops[i]? = some o)
    (h : ∀ K : Act → World → Prop, Shut (∀ a' w', S w' → (S w' → wpAnyE P md ops Q S n0 fuel (listed.setIfInBounds i true) a' w') → K a' w') → if Region.wanted o (yielded ops a.tmps) = true then Oper.wp P o a w K Q else K (a.put o.dst undef) w) : wpAnyE P md ops Q S n0 (fuel + 1) listed a w := by
  refine ⟨fun h0 => (by rw [hr] at h0; cases h0), fun j hj => ?_⟩
  rw [hr] at hj
  obtain rfl : j = i := by simpa using hj
  exact wpOp_step ho (fun K' hK => h K' (fun a w hS hW => hK a w ⟨.inr hS, hW hS⟩))

/-- The rest comes in one order, from number k on. -/
theorem wpAnyE_of_seq : ∀ (l : List Oper) (k : Nat) (listed : Array Bool) (a : Act) (w : World), (∀ j, l[j]? = ops[k + j]?) → n0 ≤ k →
    Region.seqB md ops l.length k listed = true → wpList P ops Q l a w → wpAnyE P md ops Q S n0 l.length listed a w
  | [], _, _, _, _, _, _, hB, h => ⟨by simpa [Region.seqB] using hB, h⟩
  | o :: l, k, listed, a, w, hl, hk, hB, h => by
    have h0 : ops[k]? = some o := by simpa using (hl 0).symm
    simp only [List.length_cons, Region.seqB, Bool.and_eq_true, decide_eq_true_eq] at hB
    refine ⟨fun h1 => (by rw [hB.1] at h1; cases h1), fun i hi => ?_⟩
    rw [hB.1] at hi
    have hik : i = k := by simpa using hi
    subst hik
    have hw : wpOp P ops Q i (wpList P ops Q l) a w := by unfold wpOp; simp only [h0]; exact h
    exact wpOp_mono (fun a' w' h' => ⟨.inl hk, wpAnyE_of_seq l (i + 1) _ a' w' (fun j => by have := hl (j + 1); simpa [Nat.add_assoc, Nat.add_comm 1 j] using this) (by omega) hB.2 h'⟩) hw

theorem wpAnyE_tail {L : List Oper} (k : Nat) {fuel : Nat} {listed : Array Bool} {a : Act} {w : World} (hk : n0 ≤ k) (hf : (L.drop k).length = fuel)
    (hB : Region.seqB md L.toArray fuel k listed = true) (h : wpList P L.toArray Q (L.drop k) a w) : wpAnyE P md L.toArray Q S n0 fuel listed a w := by
  subst hf
  exact wpAnyE_of_seq (L.drop k) k listed a w (fun j => by simp [List.getElem?_drop]) hk hB h

/-- The beginning. -/
theorem wp_region_late {id : Nat} {L : List Oper} {a : Act} {w : World} (S : World → Prop) (n0 : Nat) (hm : P.follows .mixedOrders = true) (hS : S w.drew)
    (h : S w.drew → wpAnyE P .any L.toArray Q S n0 L.toArray.size (Array.replicate L.toArray.size false) a w.drew) : (Code.region id L.toArray true).wp P Q a w :=
  wp_region_any hm (wpAny_of_E _ _ _ _ (h hS))
end
end Go.Proofs.Ytcbfmplddjmiaaa
