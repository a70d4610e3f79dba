/- Plain mathematics: the numbers in a word and in words, rising. No program stands here. -/
import Derived.Test.YtjlofjoekpoepaaDoorMath
import Derived.Lib.TrailingZeros
namespace Go.Proofs.YtjlofjoekpoepaaDoor

theorem M64_pow : M64 = 2 ^ 64 := rfl

theorem ctz_lt {x : Nat} (h0 : x ≠ 0) (hx : x < M64) : Lib.ctz 64 x < 64 := (Lib.lowest_bit 64 x h0 (by rw [← M64_pow]; exact hx)).2

/-- x = 2^c (2m + 1), c the number of trailing zeros. -/
theorem ctz_form {x : Nat} (h0 : x ≠ 0) (hx : x < M64) : ∃ m, x = 2 ^ Lib.ctz 64 x * (2 * m + 1) := by
  obtain ⟨m, hm, _⟩ := Lib.ctzFrom_spec 64 x (by omega) (by rw [← M64_pow]; exact hx)
  have e : Lib.ctz 64 x = Lib.ctzFrom 64 x := by simp [Lib.ctz, h0]
  exact ⟨m, by rw [e]; exact hm⟩

theorem ctz_set {x : Nat} (h0 : x ≠ 0) (hx : x < M64) : x.testBit (Lib.ctz 64 x) = true := by
  obtain ⟨m, hm⟩ := ctz_form h0 hx
  generalize Lib.ctz 64 x = c at hm
  subst hm
  rw [Nat.mul_comm, Nat.testBit_mul_two_pow]
  simp [Nat.testBit_zero]

theorem ctz_below {x : Nat} (h0 : x ≠ 0) (hx : x < M64) {i : Nat} (hi : i < Lib.ctz 64 x) : x.testBit i = false := by
  obtain ⟨m, hm⟩ := ctz_form h0 hx
  generalize Lib.ctz 64 x = c at hm hi
  subst hm
  rw [Nat.mul_comm, Nat.testBit_mul_two_pow]
  simp; omega

/-- x & (x - 1) is x without its lowest digit. -/
theorem and_pred {x : Nat} (h0 : x ≠ 0) (hx : x < M64) : x &&& (x - 1) = x - 2 ^ Lib.ctz 64 x := by
  obtain ⟨m, hm⟩ := ctz_form h0 hx
  generalize Lib.ctz 64 x = c at hm
  have hp : 0 < 2 ^ c := Nat.two_pow_pos c
  have e0 : x = 2 ^ (c + 1) * m + 2 ^ c := by rw [hm, Nat.pow_succ, Nat.mul_add, Nat.mul_one, Nat.mul_assoc]
  have e1 : x - 1 = 2 ^ (c + 1) * m + (2 ^ c - 1) := by omega
  have e2 : x - 2 ^ c = 2 ^ (c + 1) * m := by omega
  rw [e2, e1]
  conv => lhs; arg 1; rw [e0]
  apply Nat.eq_of_testBit_eq
  intro i
  have l1 : 2 ^ c < 2 ^ (c + 1) := Nat.pow_lt_pow_right (by decide) (by omega)
  rw [Nat.testBit_and, Nat.testBit_two_pow_mul_add m l1, Nat.testBit_two_pow_mul_add m (by omega : 2 ^ c - 1 < 2 ^ (c + 1)), Nat.testBit_two_pow_mul]
  by_cases hi : i < c + 1
  · simp only [hi, if_true]
    rw [Nat.testBit_two_pow, Nat.testBit_two_pow_sub_one]
    by_cases h : c = i
    · subst h; simp; omega
    · have : ¬ (i ≥ c + 1) := by omega
      simp [h, this]
  · have : i ≥ c + 1 := by omega
    simp [hi, this]

theorem and_pred_lt {x : Nat} (h0 : x ≠ 0) : x &&& (x - 1) < x := by
  have := Nat.and_le_right (n := x) (m := x - 1)
  omega

theorem testBit_and_pred {x : Nat} (h0 : x ≠ 0) (hx : x < M64) (i : Nat) : (x &&& (x - 1)).testBit i = (x.testBit i && decide (i ≠ Lib.ctz 64 x)) := by
  have hset := ctz_set h0 hx
  rw [and_pred h0 hx]
  obtain ⟨m, hm⟩ := ctz_form h0 hx
  generalize Lib.ctz 64 x = c at hm hset
  have hp : 0 < 2 ^ c := Nat.two_pow_pos c
  have e0 : x = 2 ^ (c + 1) * m + 2 ^ c := by rw [hm, Nat.pow_succ, Nat.mul_add, Nat.mul_one, Nat.mul_assoc]
  have e2 : x - 2 ^ c = 2 ^ (c + 1) * m := by omega
  have l1 : 2 ^ c < 2 ^ (c + 1) := Nat.pow_lt_pow_right (by decide) (by omega)
  rw [e2]
  conv => rhs; rw [e0]
  rw [Nat.testBit_two_pow_mul_add m l1, Nat.testBit_two_pow_mul]
  by_cases hi : i < c + 1
  · have : ¬ (i ≥ c + 1) := by omega
    simp only [hi, if_true, this]
    rw [Nat.testBit_two_pow]
    by_cases h : c = i
    · simp [h]
    · simp [h]
  · have : i ≥ c + 1 := by omega
    have h2 : i ≠ c := by omega
    simp [hi, this, h2]

/-- The numbers in a word, rising. -/
def wnums (x : Nat) : List Nat := (List.range 64).filter (fun i => x.testBit i)

theorem wnums_zero : wnums 0 = [] := by simp [wnums]

theorem range_split {c n : Nat} (h : c < n) : List.range n = List.range c ++ c :: (List.range (n - c - 1)).map (· + (c + 1)) := by
  apply List.ext_getElem
  · simp; omega
  · intro i h1 h2
    simp at h1
    simp only [List.getElem_range, List.getElem_append, List.length_range, List.getElem_cons, List.getElem_map]
    split
    · rfl
    · split <;> omega

theorem wnums_step {x : Nat} (h0 : x ≠ 0) (hx : x < M64) : wnums x = Lib.ctz 64 x :: wnums (x &&& (x - 1)) := by
  have hc := ctz_lt h0 hx
  have hset := ctz_set h0 hx
  have hbel : ∀ i, i < Lib.ctz 64 x → x.testBit i = false := fun i hi => ctz_below h0 hx hi
  have htb := testBit_and_pred h0 hx
  generalize Lib.ctz 64 x = c at *
  unfold wnums
  rw [range_split hc, List.filter_append, List.filter_append, List.filter_cons, List.filter_cons]
  have f1 : (List.range c).filter (fun i => x.testBit i) = [] := by
    rw [List.filter_eq_nil_iff]; intro i hi; simp [hbel i (List.mem_range.1 hi)]
  have f2 : (List.range c).filter (fun i => (x &&& (x - 1)).testBit i) = [] := by
    rw [List.filter_eq_nil_iff]; intro i hi; simp [htb, hbel i (List.mem_range.1 hi)]
  have f3 : (x &&& (x - 1)).testBit c = false := by simp [htb]
  rw [f1, f2, hset, f3]
  simp only [if_true, Bool.false_eq_true, if_false, List.nil_append]
  congr 1
  apply List.filter_congr
  intro i hi
  obtain ⟨j, _, rfl⟩ := List.mem_map.1 hi
  rw [htb]
  have : j + (c + 1) ≠ c := by omega
  simp [this]

/-- The numbers in words, the first of which is the word number k. -/
def numsFrom : Nat → List Nat → List Nat
  | _, [] => []
  | k, x :: r => (wnums x).map (fun i => k * 64 + i) ++ numsFrom (k + 1) r

/-- The numbers of a set. -/
def nums (ws : List Nat) : List Nat := numsFrom 0 ws

theorem numsFrom_drop {ws : List Nat} {k : Nat} (h : k < ws.length) : numsFrom k (ws.drop k) = (wnums (ws[k]?.getD 0)).map (fun i => k * 64 + i) ++ numsFrom (k + 1) (ws.drop (k + 1)) := by
  rw [List.drop_eq_getElem_cons h]
  simp [numsFrom, h]

end Go.Proofs.YtjlofjoekpoepaaDoor
