/- Plain mathematics of sets as words: digits, counting, one number more or less. No program is walked here. -/
import Derived.Test.YtjlofjoekpoepaaDoorM
import Derived.Test.YtjlofjoekpoepaaDoorMathB
namespace Go.Proofs.YtjlofjoekpoepaaDoor
open Go

theorem bitAt_cons (x : Nat) (r : List Nat) (i : Nat) : bitAt (x :: r) i = if i < 64 then x.testBit i else bitAt r (i - 64) := by
  unfold bitAt
  split
  · have h1 : i / 64 = 0 := by omega
    have h2 : i % 64 = i := by omega
    rw [h1, h2]; rfl
  · have h1 : i / 64 = (i - 64) / 64 + 1 := by omega
    have h2 : i % 64 = (i - 64) % 64 := by omega
    rw [h1, h2]; rfl

theorem bitAt_out {ws : List Nat} {i : Nat} (h : 64 * ws.length ≤ i) : bitAt ws i = false := by
  unfold bitAt
  rw [List.getElem?_eq_none (by omega)]
  simp

theorem numsFrom_eq (ws : List Nat) : ∀ k, numsFrom k ws = ((List.range (64 * ws.length)).filter (fun i => bitAt ws i)).map (fun i => k * 64 + i) := by
  induction ws with
  | nil => intro k; simp [numsFrom]
  | cons x r ih =>
    intro k
    have e : List.range (64 * (x :: r).length) = List.range 64 ++ (List.range (64 * r.length)).map (64 + ·) := by
      rw [List.length_cons, Nat.mul_add, Nat.mul_one, Nat.add_comm, List.range_add]
    rw [e, List.filter_append, List.map_append]
    simp only [numsFrom]
    have g1 : wnums x = (List.range 64).filter (fun i => bitAt (x :: r) i) := by
      unfold wnums
      apply List.filter_congr
      intro i hi
      rw [bitAt_cons, if_pos (List.mem_range.1 hi)]
    rw [g1]
    refine congrArg _ ?_
    · rw [ih, List.filter_map, List.map_map]
      have e2 : List.filter ((fun i => bitAt (x :: r) i) ∘ fun x => 64 + x) (List.range (64 * r.length)) = List.filter (fun i => bitAt r i) (List.range (64 * r.length)) := by
        apply List.filter_congr
        intro i _
        show bitAt (x :: r) (64 + i) = _
        rw [bitAt_cons, if_neg (by omega)]
        congr 1
        omega
      rw [e2]
      apply List.map_congr_left
      intro i _
      show (k + 1) * 64 + i = k * 64 + (64 + i)
      omega

theorem nums_eq (ws : List Nat) : nums ws = (List.range (64 * ws.length)).filter (fun i => bitAt ws i) := by
  unfold nums
  rw [numsFrom_eq]
  simp

theorem mem_nums {ws : List Nat} {i : Nat} : i ∈ nums ws ↔ bitAt ws i = true := by
  rw [nums_eq, List.mem_filter, List.mem_range]
  constructor
  · exact fun h => h.2
  · intro h
    refine ⟨?_, h⟩
    apply Nat.lt_of_not_le
    intro hle
    rw [bitAt_out hle] at h
    cases h

theorem testBit_ext {x y : Nat} (hx : x < M64) (hy : y < M64) (h : ∀ i, i < 64 → x.testBit i = y.testBit i) : x = y := by
  apply Nat.eq_of_testBit_eq
  intro i
  by_cases hi : i < 64
  · exact h i hi
  · have e : M64 = 2 ^ 64 := rfl
    rw [e] at hx hy
    have hp : 2 ^ 64 ≤ 2 ^ i := Nat.pow_le_pow_right (by decide) (by omega)
    rw [Nat.testBit_lt_two_pow (Nat.lt_of_lt_of_le hx hp), Nat.testBit_lt_two_pow (Nat.lt_of_lt_of_le hy hp)]

/-- Words are told by their digits. -/
theorem words_ext {ws us : List Nat} (hw : WB ws) (hu : WB us) (hl : ws.length = us.length) (h : ∀ i, i < 64 * ws.length → bitAt ws i = bitAt us i) : ws = us := by
  apply List.ext_getElem hl
  intro k h1 h2
  apply testBit_ext (hw _ (List.getElem_mem h1)) (hu _ (List.getElem_mem h2))
  intro i hi
  have := h (64 * k + i) (by omega)
  unfold bitAt at this
  rw [show (64 * k + i) / 64 = k by omega, show (64 * k + i) % 64 = i by omega] at this
  simpa [h1, h2] using this

theorem topClear_iff {n : Nat} {ws : List Nat} (hl : ws.length = wcount n) (hw : WB ws) : topClear n ws = true ↔ ∀ i, n ≤ i → bitAt ws i = false := by
  unfold topClear
  by_cases hr : n % 64 = 0
  · simp only [hr, beq_self_eq_true, Bool.true_or, true_iff]
    intro i hi
    apply bitAt_out
    rw [hl]; unfold wcount; omega
  · have hb : (n % 64 == 0) = false := by simpa using hr
    have hlen : ws.length = n / 64 + 1 := by rw [hl]; unfold wcount; omega
    rw [hb, Bool.false_or, hlen, Nat.add_sub_cancel, beq_iff_eq]
    constructor
    · intro h i hi
      by_cases hout : 64 * ws.length ≤ i
      · exact bitAt_out hout
      · have hq : i / 64 = n / 64 := by rw [hlen] at hout; omega
        unfold bitAt
        rw [hq]
        have hs : ((ws[n / 64]?.getD 0) >>> (n % 64)).testBit (i % 64 - n % 64) = false := by rw [h]; simp
        rw [Nat.testBit_shiftRight] at hs
        rw [← hs]
        congr 1
        omega
    · intro h
      apply Nat.eq_of_testBit_eq
      intro j
      rw [Nat.testBit_shiftRight, Nat.zero_testBit]
      by_cases hj : n % 64 + j < 64
      · have := h (64 * (n / 64) + (n % 64 + j)) (by omega)
        unfold bitAt at this
        rw [show (64 * (n / 64) + (n % 64 + j)) / 64 = n / 64 by omega, show (64 * (n / 64) + (n % 64 + j)) % 64 = n % 64 + j by omega] at this
        exact this
      · have hx := hw.at (n / 64)
        have e : M64 = 2 ^ 64 := rfl
        rw [e] at hx
        exact Nat.testBit_lt_two_pow (Nat.lt_of_lt_of_le hx (Nat.pow_le_pow_right (by decide) (by omega)))

theorem Ok.clear {n : Nat} {ws : List Nat} (h : Ok n ws) {i : Nat} (hi : n ≤ i) : bitAt ws i = false := (topClear_iff h.len h.wb).1 h.top i hi

theorem Ok.lt {n : Nat} {ws : List Nat} (h : Ok n ws) {i : Nat} (hi : bitAt ws i = true) : i < n := by
  apply Nat.lt_of_not_le
  intro hle
  rw [h.clear hle] at hi
  cases hi

theorem ok_mk {n : Nat} {ws : List Nat} (hn : n ≤ 1024) (hl : ws.length = wcount n) (hw : WB ws) (hc : ∀ i, n ≤ i → bitAt ws i = false) : Ok n ws := ⟨hn, hl, (topClear_iff hl hw).2 hc, hw⟩

theorem Ok.ext {n : Nat} {ws us : List Nat} (h : Ok n ws) (k : Ok n us) (hb : ∀ i, i < n → bitAt ws i = bitAt us i) : ws = us := by
  apply words_ext h.wb k.wb (h.len.trans k.len.symm)
  intro i _
  by_cases hi : i < n
  · exact hb i hi
  · rw [h.clear (by omega), k.clear (by omega)]

theorem Ok.hasB {n : Nat} {ws : List Nat} (h : Ok n ws) (i : Nat) : hasB n ws (i : Int) = bitAt ws i := by
  unfold Go.Proofs.YtjlofjoekpoepaaDoor.hasB
  by_cases hi : i < n
  · simp [hi]
  · have hc := h.clear (i := i) (by omega)
    simp [hc]

/-- What one number more does to the digits. -/
theorem bitAt_put {n : Nat} {ws : List Nat} (hl : ws.length = wcount n) {x : Int} (h0 : 0 ≤ x) (hx : x < n) (i : Nat) : bitAt (putW n ws x) i = (bitAt ws i || decide (i = x.toNat)) := by
  have hq : x.toNat / 64 < ws.length := by rw [hl]; unfold wcount; omega
  unfold putW
  rw [if_pos ⟨h0, hx⟩]
  unfold bitAt
  by_cases hk : i / 64 = x.toNat / 64
  · rw [hk]
    simp only [hq, List.getElem?_set_self, Option.getD_some, Nat.testBit_or, Nat.testBit_two_pow]
    congr 1
    rw [decide_eq_decide]
    omega
  · rw [List.getElem?_set_ne (fun e => hk e.symm)]
    have : decide (i = x.toNat) = false := by rw [decide_eq_false_iff_not]; intro e; apply hk; rw [e]
    rw [this, Bool.or_false]

theorem putW_out {n : Nat} {ws : List Nat} {x : Int} (h : ¬ (0 ≤ x ∧ x < n)) : putW n ws x = ws := by unfold putW; rw [if_neg h]

theorem Ok.put {n : Nat} {ws : List Nat} (h : Ok n ws) (x : Int) : Ok n (putW n ws x) := by
  by_cases hx : 0 ≤ x ∧ x < n
  · refine ok_mk h.le (by rw [putW_length]; exact h.len) (putW_wb h.wb x) ?_
    intro i hi
    rw [bitAt_put h.len hx.1 hx.2, h.clear hi, Bool.false_or, decide_eq_false_iff_not]
    omega
  · rw [putW_out hx]; exact h

theorem wb_zeros (k : Nat) : WB (List.replicate k 0) := fun x hx => by rw [List.eq_of_mem_replicate hx]; decide

theorem bitAt_zeros (k i : Nat) : bitAt (List.replicate k 0) i = false := by
  unfold bitAt
  by_cases h : i / 64 < k
  · simp [h]
  · rw [List.getElem?_eq_none (by simpa using Nat.le_of_not_lt h)]; simp

theorem ok_zeros {n : Nat} (h : n ≤ 1024) : Ok n (List.replicate (wcount n) 0) := ok_mk h (by simp) (wb_zeros _) (fun i _ => bitAt_zeros _ i)

theorem ok_foldl {n : Nat} (l : List Int) : ∀ ws, Ok n ws → Ok n (l.foldl (putW n) ws) := by
  induction l with
  | nil => intro ws h; exact h
  | cons x r ih => intro ws h; exact ih _ (h.put x)

theorem ok_of {n : Nat} (h : n ≤ 1024) (l : List Int) : Ok n (ofW n l) := ok_foldl l _ (ok_zeros h)

/-- One more that is new is one more. -/
theorem filter_one_more (p : Nat → Bool) (m x : Nat) (hx : x < m) (hp : p x = false) : ((List.range m).filter (fun i => p i || decide (i = x))).length = ((List.range m).filter p).length + 1 := by
  rw [range_split hx, List.filter_append, List.filter_append, List.filter_cons, List.filter_cons]
  have f1 : (List.range x).filter (fun i => p i || decide (i = x)) = (List.range x).filter p := by
    apply List.filter_congr; intro i hi
    have : i ≠ x := by have := List.mem_range.1 hi; omega
    simp [this]
  have f2 : ((List.range (m - x - 1)).map (· + (x + 1))).filter (fun i => p i || decide (i = x)) = ((List.range (m - x - 1)).map (· + (x + 1))).filter p := by
    apply List.filter_congr; intro i hi
    obtain ⟨j, _, rfl⟩ := List.mem_map.1 hi
    have : j + (x + 1) ≠ x := by omega
    simp [this]
  rw [f1, f2, hp]
  simp
  omega

theorem count_put {n : Nat} {ws : List Nat} (h : Ok n ws) {x : Int} (h0 : 0 ≤ x) (hx : x < n) (hb : bitAt ws x.toNat = false) : (nums (putW n ws x)).length = (nums ws).length + 1 := by
  rw [nums_eq, nums_eq, putW_length]
  have e : (fun i => bitAt (putW n ws x) i) = fun i => bitAt ws i || decide (i = x.toNat) := by funext i; exact bitAt_put h.len h0 hx i
  rw [e]
  exact filter_one_more _ _ _ (by rw [h.len]; unfold wcount; omega) hb

theorem count_le {n : Nat} {ws : List Nat} (h : Ok n ws) : (nums ws).length ≤ n := by
  rw [nums_eq]
  have e : List.range (64 * ws.length) = List.range n ++ (List.range (64 * ws.length - n)).map (n + ·) := by
    rw [← List.range_add]
    congr 1
    rw [h.len]; unfold wcount; omega
  rw [e, List.filter_append]
  have f : ((List.range (64 * ws.length - n)).map (n + ·)).filter (fun i => bitAt ws i) = [] := by
    rw [List.filter_eq_nil_iff]
    intro i hi
    obtain ⟨j, _, rfl⟩ := List.mem_map.1 hi
    rw [h.clear (by omega)]
    simp
  rw [f, List.append_nil]
  have := List.length_filter_le (fun i => bitAt ws i) (List.range n)
  simpa using this

theorem put_same_iff {n : Nat} {ws : List Nat} (h : Ok n ws) (x : Int) : ws = putW n ws x ↔ (hasB n ws x = true ∨ x < 0 ∨ (n : Int) ≤ x) := by
  by_cases hx : 0 ≤ x ∧ x < n
  · have hh : hasB n ws x = bitAt ws x.toNat := by
      have := h.hasB x.toNat
      rw [Int.toNat_of_nonneg hx.1] at this
      exact this
    rw [hh]
    constructor
    · intro e
      have := bitAt_put h.len hx.1 hx.2 x.toNat
      rw [← e] at this
      simp only [decide_true, Bool.or_true] at this
      exact .inl this
    · rintro (hb | hb | hb)
      · apply h.ext (h.put x)
        intro i _
        rw [bitAt_put h.len hx.1 hx.2]
        by_cases e : i = x.toNat
        · rw [e, hb]; simp
        · simp [e]
      · omega
      · omega
  · rw [putW_out hx]
    simp only [true_iff]
    omega
end Go.Proofs.YtjlofjoekpoepaaDoor
