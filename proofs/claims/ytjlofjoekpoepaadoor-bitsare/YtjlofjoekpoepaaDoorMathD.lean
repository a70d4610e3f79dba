/- Plain mathematics: a number taken out of a set. -/
import Derived.Test.YtjlofjoekpoepaaDoorP
import Derived.Test.YtjlofjoekpoepaaDoorU
namespace Go.Proofs.YtjlofjoekpoepaaDoor
open Go Go.RowKit

theorem dropW_length (n : Nat) (ws : List Nat) (i : Int) : (dropW n ws i).length = ws.length := by unfold dropW; split <;> simp

theorem dropW_wb {n : Nat} {ws : List Nat} (h : WB ws) (i : Int) : WB (dropW n ws i) := by
  unfold dropW
  split
  · intro x hx
    rcases List.mem_or_eq_of_mem_set hx with hx | rfl
    · exact h x hx
    · exact Nat.lt_of_le_of_lt Nat.and_le_left (h.at _)
  · exact h

theorem dropW_out {n : Nat} {ws : List Nat} {x : Int} (h : ¬ (0 ≤ x ∧ x < n)) : dropW n ws x = ws := by unfold dropW; rw [if_neg h]

theorem testBit_mask (k i : Nat) (hk : k < 64) (hi : i < 64) : (18446744073709551615 - 2 ^ k).testBit i = decide (i ≠ k) := by
  have h2 : 2 ^ k < 2 ^ 64 := Nat.pow_lt_pow_right (by decide) hk
  have e : 18446744073709551615 - 2 ^ k = 2 ^ 64 - (2 ^ k + 1) := by have h3 : (2 : Nat) ^ 64 = 18446744073709551616 := rfl; omega
  rw [e, Nat.testBit_two_pow_sub_succ h2, Nat.testBit_two_pow]
  by_cases h : k = i
  · subst h; simp
  · have : i ≠ k := fun e => h e.symm
    simp [h, this, hi]

theorem bitAt_drop {n : Nat} {ws : List Nat} (hl : ws.length = wcount n) {x : Int} (h0 : 0 ≤ x) (hx : x < n) (i : Nat) : bitAt (dropW n ws x) i = (bitAt ws i && decide (i ≠ x.toNat)) := by
  have hq : x.toNat / 64 < ws.length := by rw [hl]; unfold wcount; omega
  unfold dropW
  rw [if_pos ⟨h0, hx⟩]
  unfold bitAt
  by_cases hk : i / 64 = x.toNat / 64
  · rw [hk]
    simp only [hq, List.getElem?_set_self, Option.getD_some, Nat.testBit_and]
    rw [testBit_mask _ _ (Nat.mod_lt _ (by decide)) (Nat.mod_lt _ (by decide))]
    congr 1
    rw [decide_eq_decide]
    omega
  · rw [List.getElem?_set_ne (fun e => hk e.symm)]
    have : decide (i ≠ x.toNat) = true := by rw [decide_eq_true_eq]; intro e; apply hk; rw [e]
    rw [this, Bool.and_true]

theorem Ok.drop {n : Nat} {ws : List Nat} (h : Ok n ws) (x : Int) : Ok n (dropW n ws x) := by
  by_cases hx : 0 ≤ x ∧ x < n
  · refine ok_mk h.le (by rw [dropW_length]; exact h.len) (dropW_wb h.wb x) ?_
    intro i hi
    rw [bitAt_drop h.len hx.1 hx.2, h.clear hi, Bool.false_and]
  · rw [dropW_out hx]; exact h

theorem hasB_out {n : Nat} {ws : List Nat} {x : Int} (h : ¬ (0 ≤ x ∧ x < n)) : hasB n ws x = false := by simp [hasB, h]
theorem hasB_in {n : Nat} {ws : List Nat} {x : Int} (h : 0 ≤ x ∧ x < n) : hasB n ws x = bitAt ws x.toNat := by simp [hasB, h.1, h.2]

theorem has_put_self {n : Nat} {ws : List Nat} (h : Ok n ws) (x : Int) : hasB n (putW n ws x) x = decide (0 ≤ x ∧ x < n) := by
  by_cases hx : 0 ≤ x ∧ x < n
  · rw [hasB_in hx, bitAt_put h.len hx.1 hx.2]; simp [hx]
  · rw [hasB_out hx]; simp [hx]

theorem has_put_other {n : Nat} {ws : List Nat} (h : Ok n ws) {x k : Int} (hne : x ≠ k) : hasB n (putW n ws x) k = hasB n ws k := by
  by_cases hk : 0 ≤ k ∧ k < n
  · rw [hasB_in hk, hasB_in hk]
    by_cases hx : 0 ≤ x ∧ x < n
    · rw [bitAt_put h.len hx.1 hx.2]
      have : decide (k.toNat = x.toNat) = false := by rw [decide_eq_false_iff_not]; omega
      rw [this, Bool.or_false]
    · rw [putW_out hx]
  · rw [hasB_out hk, hasB_out hk]

theorem has_drop_self {n : Nat} {ws : List Nat} (h : Ok n ws) (x : Int) : hasB n (dropW n ws x) x = false := by
  by_cases hx : 0 ≤ x ∧ x < n
  · rw [hasB_in hx, bitAt_drop h.len hx.1 hx.2]; simp
  · rw [hasB_out hx]

theorem has_drop_other {n : Nat} {ws : List Nat} (h : Ok n ws) {x k : Int} (hne : x ≠ k) : hasB n (dropW n ws x) k = hasB n ws k := by
  by_cases hk : 0 ≤ k ∧ k < n
  · rw [hasB_in hk, hasB_in hk]
    by_cases hx : 0 ≤ x ∧ x < n
    · rw [bitAt_drop h.len hx.1 hx.2]
      have : decide (k.toNat ≠ x.toNat) = true := by rw [decide_eq_true_eq]; omega
      rw [this, Bool.and_true]
    · rw [dropW_out hx]
  · rw [hasB_out hk, hasB_out hk]

theorem drop_put_same {n : Nat} {ws : List Nat} (h : Ok n ws) {x : Int} (hn : hasB n ws x = false) : dropW n (putW n ws x) x = ws := by
  by_cases hx : 0 ≤ x ∧ x < n
  · apply ((h.put x).drop x).ext h
    intro i _
    rw [bitAt_drop (h.put x).len hx.1 hx.2, bitAt_put h.len hx.1 hx.2]
    rw [hasB_in hx] at hn
    by_cases e : i = x.toNat
    · rw [e, hn]; simp
    · simp [e]
  · rw [dropW_out hx, putW_out hx]

theorem leq_of_bits {n m : Nat} {ws us : List Nat} (k : Ok m us) (hb : ∀ i, bitAt ws i = true → bitAt us i = true) (_h : Ok n ws) : leqB ws m us = true := by
  unfold leqB
  rw [List.all_eq_true]
  intro i hi
  rw [k.hasB]
  exact hb i (mem_nums.1 hi)

theorem leq_drop {n : Nat} {ws : List Nat} (h : Ok n ws) (x : Int) : leqB (dropW n ws x) n ws = true := by
  refine leq_of_bits h ?_ (h.drop x)
  intro i hi
  by_cases hx : 0 ≤ x ∧ x < n
  · rw [bitAt_drop h.len hx.1 hx.2, Bool.and_eq_true] at hi
    exact hi.1
  · rw [dropW_out hx] at hi; exact hi

theorem Without_ok (v : Value) (n : Nat) (ws : List Nat) (i : Int) (w : World) (hv : SV w v (n : Int) ws) (h : Ok n ws) :
    Calls Tryd.prog 22 #[v, .int .i64 i] w fun e w' => ∃ a' cap', e = .returned (.agg #[.int .i64 (n : Int), .slice a' ws.length cap']) ∧ FreshV w.heap.size w' a' (dropW n ws i) ∧ Below w.heap.size w w' := by
  have h1 := Without_any v n ws i w hv (by have := h.len16; omega) h.wb
  rw [(nrm_of_ok h).1, (nrm_of_ok h).2] at h1
  exact h1

theorem Sane_ok (n : Nat) (a : Option Addr) (ws : List Nat) (cap : Nat) (w : World) (hv : Wd w.heap.size w a ws) (h : Ok n ws) :
    Calls Tryd.prog 14 #[.agg #[.int .i64 (n : Int), .slice a ws.length cap]] w fun e w' => e = .returned (.bool true) ∧ Below w.heap.size w w' := by
  have h1 := sane_any (n : Int) a ws cap w hv (by have := h.len16; omega)
  rw [saneB_ok h] at h1
  exact h1
end Go.Proofs.YtjlofjoekpoepaaDoor
