import Derived.Test.YtcmncclibhjepaaBase
import Derived.Test.YtcmncclibhjepaaSigM
namespace Go.Proofs.Ytcmncclibhjepaa
open Go Go.RowKit Go.Sort

theorem bits_or {x y : Nat} (hx : x < 8) (hy : y < 8) : bits .or .i64 (x : Int) (y : Int) = ((x ||| y : Nat) : Int) := by
  have h : ∀ x y : Fin 8, bits .or .i64 (x.val : Int) (y.val : Int) = ((x.val ||| y.val : Nat) : Int) := by decide +kernel
  exact h ⟨x, hx⟩ ⟨y, hy⟩
theorem bits_and {x y : Nat} (hx : x < 8) (hy : y < 8) : (bits .and .i64 (x : Int) (y : Int) != 0) = (x &&& y != 0) := by
  have h : ∀ x y : Fin 8, (bits .and .i64 (x.val : Int) (y.val : Int) != 0) = (x.val &&& y.val != 0) := by decide +kernel
  exact h ⟨x, hx⟩ ⟨y, hy⟩
theorem bits_dna {x y : Nat} (hx : x < 8) (hy : y < 8) : (bits .and .i64 (x : Int) (y : Int) != 0) = (y &&& x != 0) := by
  rw [bits_and hx hy, Nat.and_comm]
theorem bits_andNot {x y : Nat} (hx : x < 8) (hy : y < 8) : (bits .andNot .i64 (x : Int) (y : Int) == 0) = leqN x y := by
  have h : ∀ x y : Fin 8, (bits .andNot .i64 (x.val : Int) (y.val : Int) == 0) = leqN x.val y.val := by decide +kernel
  exact h ⟨x, hx⟩ ⟨y, hy⟩

set_option maxHeartbeats 1000000 in
theorem gSane_any (s : Int) (w : World) :
    Calls Try.prog 70 #[.int .i64 s] w fun e w' => e = .returned (.bool (decide (0 ≤ s ∧ s ≤ 7))) ∧ Below w.heap.size w w' := by
  go_enter Try.func70, Try.ntmps70
  go_wp2
  all_goals
    go_ret
    refine ⟨ret_bool ?_, Below.refl _ _⟩
    rw [Bool.eq_iff_iff]
    simp at *
    try omega

set_option maxHeartbeats 1000000 in
theorem hSane_any (s : Int) (w : World) :
    Calls Try.prog 75 #[.int .i64 s] w fun e w' => e = .returned (.bool (decide (0 ≤ s ∧ s ≤ 7))) ∧ Below w.heap.size w w' := by
  go_enter Try.func75, Try.ntmps75
  go_wp2
  all_goals
    go_ret
    refine ⟨ret_bool ?_, Below.refl _ _⟩
    rw [Bool.eq_iff_iff]
    simp at *
    try omega





set_option maxHeartbeats 1000000 in
theorem gsn_any (s : Int) (w : World) :
    Calls Try.prog 65 #[.int .i64 s] w fun e w' => e = .returned (.int .i64 (sS s : Nat)) ∧ Below w.heap.size w w' := by
  have HC := Lib.hid (fun W => gSane_any s W)
  by_cases h : 0 ≤ s ∧ s ≤ 7
  · rw [decide_eq_true h] at HC
    rw [sS_in h]
    clear h
    go_enter Try.func65, Try.ntmps65
    go_wp2_with (go_at_call 70; refine (HC.out _).mono ?_; rintro e w1 ⟨rfl, hb⟩)
    go_ret
    exact ⟨rfl, hb⟩
  · rw [decide_eq_false h] at HC
    rw [sS_out h]
    clear h
    go_enter Try.func65, Try.ntmps65
    go_wp2_with (go_at_call 70; refine (HC.out _).mono ?_; rintro e w1 ⟨rfl, hb⟩)
    go_ret
    exact ⟨rfl, hb⟩

set_option maxHeartbeats 1000000 in
theorem hsn_any (s : Int) (w : World) :
    Calls Try.prog 73 #[.int .i64 s] w fun e w' => e = .returned (.int .i64 (sS s : Nat)) ∧ Below w.heap.size w w' := by
  have HC := Lib.hid (fun W => hSane_any s W)
  by_cases h : 0 ≤ s ∧ s ≤ 7
  · rw [decide_eq_true h] at HC
    rw [sS_in h]
    clear h
    go_enter Try.func73, Try.ntmps73
    go_wp2_with (go_at_call 75; refine (HC.out _).mono ?_; rintro e w1 ⟨rfl, hb⟩)
    go_ret
    exact ⟨rfl, hb⟩
  · rw [decide_eq_false h] at HC
    rw [sS_out h]
    clear h
    go_enter Try.func73, Try.ntmps73
    go_wp2_with (go_at_call 75; refine (HC.out _).mono ?_; rintro e w1 ⟨rfl, hb⟩)
    go_ret
    exact ⟨rfl, hb⟩

set_option maxHeartbeats 1000000 in
theorem gJoin_any (a b : Int) (w : World) :
    Calls Try.prog 39 #[.int .i64 a, .int .i64 b] w fun e w' => e = .returned (.int .i64 (sS a ||| sS b : Nat)) ∧ Below w.heap.size w w' := by
  have HA := Lib.hid (fun W => gsn_any a W)
  have HB := Lib.hid (fun W => gsn_any b W)
  have hx := sS_lt a
  have hy := sS_lt b
  generalize sS a = x at *
  generalize sS b = y at *
  have HBN : Hid (Below w.heap.size w w) := Below.refl _ _
  go_enter Try.func39, Try.ntmps39
  go_wp2_with (go_at_call 65; (first | with_reducible refine (HA.out _).mono ?_ | with_reducible refine (HB.out _).mono ?_); rintro e wn ⟨rfl, hbn⟩; have hbx := HBN.out.trans (hbn.mono HBN.out.size); clear HBN hbn; have HBN := Lib.hid hbx; clear hbx)
  go_ret
  exact ⟨ret_int (bits_or hx hy), HBN.out⟩

set_option maxHeartbeats 1000000 in
theorem hJoin_any (a b : Int) (w : World) :
    Calls Try.prog 72 #[.int .i64 a, .int .i64 b] w fun e w' => e = .returned (.int .i64 (sS a ||| sS b : Nat)) ∧ Below w.heap.size w w' := by
  have HA := Lib.hid (fun W => hsn_any a W)
  have HB := Lib.hid (fun W => hsn_any b W)
  have hx := sS_lt a
  have hy := sS_lt b
  generalize sS a = x at *
  generalize sS b = y at *
  have HBN : Hid (Below w.heap.size w w) := Below.refl _ _
  go_enter Try.func72, Try.ntmps72
  go_wp2_with (go_at_call 73; (first | with_reducible refine (HA.out _).mono ?_ | with_reducible refine (HB.out _).mono ?_); rintro e wn ⟨rfl, hbn⟩; have hbx := HBN.out.trans (hbn.mono HBN.out.size); clear HBN hbn; have HBN := Lib.hid hbx; clear hbx)
  go_ret
  exact ⟨ret_int (bits_or hx hy), HBN.out⟩

set_option maxHeartbeats 1000000 in
theorem gLeq_any (a b : Int) (w : World) :
    Calls Try.prog 57 #[.int .i64 a, .int .i64 b] w fun e w' => e = .returned (.bool (leqN (sS a) (sS b))) ∧ Below w.heap.size w w' := by
  have HA := Lib.hid (fun W => gsn_any a W)
  have HB := Lib.hid (fun W => gsn_any b W)
  have hx := sS_lt a
  have hy := sS_lt b
  generalize sS a = x at *
  generalize sS b = y at *
  have HBN : Hid (Below w.heap.size w w) := Below.refl _ _
  go_enter Try.func57, Try.ntmps57
  go_wp2_with (go_at_call 65; (first | with_reducible refine (HA.out _).mono ?_ | with_reducible refine (HB.out _).mono ?_); rintro e wn ⟨rfl, hbn⟩; have hbx := HBN.out.trans (hbn.mono HBN.out.size); clear HBN hbn; have HBN := Lib.hid hbx; clear hbx)
  go_ret
  exact ⟨ret_bool (bits_andNot hx hy), HBN.out⟩

set_option maxHeartbeats 1000000 in
theorem hLeq_any (a b : Int) (w : World) :
    Calls Try.prog 58 #[.int .i64 a, .int .i64 b] w fun e w' => e = .returned (.bool (leqN (sS a) (sS b))) ∧ Below w.heap.size w w' := by
  have HJ := Lib.hid (fun W => hJoin_any a b W)
  have HB := Lib.hid (fun W => hsn_any b W)
  have hx := sS_lt a
  have hy := sS_lt b
  generalize sS a = x at *
  generalize sS b = y at *
  unfold leqN
  obtain ⟨z, hz⟩ : ∃ z, x ||| y = z := ⟨_, rfl⟩
  rw [hz] at HJ ⊢
  have HBN : Hid (Below w.heap.size w w) := Below.refl _ _
  clear hz hx hy
  go_enter Try.func58, Try.ntmps58
  go_wp2_with (first
    | (go_at_call 72; with_reducible refine (HJ.out _).mono ?_; rintro e wn ⟨rfl, hbn⟩; have hbx := HBN.out.trans (hbn.mono HBN.out.size); clear HBN hbn; have HBN := Lib.hid hbx; clear hbx)
    | (go_at_call 73; with_reducible refine (HB.out _).mono ?_; rintro e wn ⟨rfl, hbn⟩; have hbx := HBN.out.trans (hbn.mono HBN.out.size); clear HBN hbn; have HBN := Lib.hid hbx; clear hbx))
  go_ret
  refine ⟨ret_bool ?_, HBN.out⟩
  rw [Bool.eq_iff_iff]
  simp
  omega

end Go.Proofs.Ytcmncclibhjepaa