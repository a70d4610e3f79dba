import Derived.Test.YtkcgbdggipijlaaDoorBase
import Derived.Test.YtkcgbdggipijlaaDoorSigM
namespace Go.Proofs.YtkcgbdggipijlaaDoor
open Go Go.RowKit Go.Sort

theorem bits_or {x y : Nat} (hx : x < 8) (hy : y < 8) : bits .or .i64 (x : Int) (y : Int) = ((x ||| y : Nat) : Int) := by
  have h : ∀ x y : Fin 8, bits .or .i64 (x.val : Int) (y.val : Int) = ((x.val ||| y.val : Nat) : Int) := by decide +kernel
  exact h ⟨x, hx⟩ ⟨y, hy⟩
theorem bits_and {x y : Nat} (hx : x < 8) (hy : y < 8) : (bits .and .i64 (x : Int) (y : Int) != 0) = (x &&& y != 0) := by
  have h : ∀ x y : Fin 8, (bits .and .i64 (x.val : Int) (y.val : Int) != 0) = (x.val &&& y.val != 0) := by decide +kernel
  exact h ⟨x, hx⟩ ⟨y, hy⟩
theorem bits_dna {x y : Nat} (hx : x < 8) (hy : y < 8) : (bits .and .i64 (x : Int) (y : Int) != 0) = (y &&& x != 0) := by
  rw [bits_and hx hy, Nat.and_comm]
theorem bits_andNot {x y : Nat} (hx : x < 8) (hy : y < 8) : (bits .andNot .i64 (x : Int) (y : Int) == 0) = leqN x y := by
  have h : ∀ x y : Fin 8, (bits .andNot .i64 (x.val : Int) (y.val : Int) == 0) = leqN x.val y.val := by decide +kernel
  exact h ⟨x, hx⟩ ⟨y, hy⟩

set_option maxHeartbeats 1000000 in
theorem gSane_any (s : Int) (w : World) :
    Calls Tryd.prog 10 #[.int .i64 s] w fun e w' => e = .returned (.bool (decide (0 ≤ s ∧ s ≤ 7))) ∧ Below w.heap.size w w' := by
  go_enter Tryd.func10, Tryd.ntmps10
  go_wp2
  all_goals
    go_ret
    refine ⟨ret_bool ?_, Below.refl _ _⟩
    rw [Bool.eq_iff_iff]
    simp at *
    try omega

set_option maxHeartbeats 1000000 in
theorem hSane_any (s : Int) (w : World) :
    Calls Tryd.prog 11 #[.int .i64 s] w fun e w' => e = .returned (.bool (decide (0 ≤ s ∧ s ≤ 7))) ∧ Below w.heap.size w w' := by
  go_enter Tryd.func11, Tryd.ntmps11
  go_wp2
  all_goals
    go_ret
    refine ⟨ret_bool ?_, Below.refl _ _⟩
    rw [Bool.eq_iff_iff]
    simp at *
    try omega

set_option maxHeartbeats 1000000 in
theorem gOf_any (s : Int) (w : World) :
    Calls Tryd.prog 12 #[.int .i64 s] w fun e w' => e = .returned (.int .i64 (sg s : Nat)) ∧ Below w.heap.size w w' := by
  go_enter Tryd.func12, Tryd.ntmps12
  go_wp2
  all_goals
    go_ret
    refine ⟨ret_int ?_, Below.refl _ _⟩
    rcases sg_cases s with h | h | h <;> omega

set_option maxHeartbeats 1000000 in
theorem hOf_any (s : Int) (w : World) :
    Calls Tryd.prog 13 #[.int .i64 s] w fun e w' => e = .returned (.int .i64 (sg s : Nat)) ∧ Below w.heap.size w w' := by
  go_enter Tryd.func13, Tryd.ntmps13
  go_wp2
  all_goals
    go_ret
    refine ⟨ret_int ?_, Below.refl _ _⟩
    try simp only [beq_iff_eq, beq_eq_false_iff_ne] at *
    rcases sg_cases s with h | h | h <;> omega

set_option maxHeartbeats 1000000 in
theorem gsn_any (s : Int) (w : World) :
    Calls Tryd.prog 38 #[.int .i64 s] w fun e w' => e = .returned (.int .i64 (sS s : Nat)) ∧ Below w.heap.size w w' := by
  have HC := Lib.hid (fun W => gSane_any s W)
  by_cases h : 0 ≤ s ∧ s ≤ 7
  · rw [decide_eq_true h] at HC
    rw [sS_in h]
    clear h
    go_enter Tryd.func38, Tryd.ntmps38
    go_wp2_with (go_at_call 10; refine (HC.out _).mono ?_; rintro e w1 ⟨rfl, hb⟩)
    go_ret
    exact ⟨rfl, hb⟩
  · rw [decide_eq_false h] at HC
    rw [sS_out h]
    clear h
    go_enter Tryd.func38, Tryd.ntmps38
    go_wp2_with (go_at_call 10; refine (HC.out _).mono ?_; rintro e w1 ⟨rfl, hb⟩)
    go_ret
    exact ⟨rfl, hb⟩

set_option maxHeartbeats 1000000 in
theorem hsn_any (s : Int) (w : World) :
    Calls Tryd.prog 39 #[.int .i64 s] w fun e w' => e = .returned (.int .i64 (sS s : Nat)) ∧ Below w.heap.size w w' := by
  have HC := Lib.hid (fun W => hSane_any s W)
  by_cases h : 0 ≤ s ∧ s ≤ 7
  · rw [decide_eq_true h] at HC
    rw [sS_in h]
    clear h
    go_enter Tryd.func39, Tryd.ntmps39
    go_wp2_with (go_at_call 11; refine (HC.out _).mono ?_; rintro e w1 ⟨rfl, hb⟩)
    go_ret
    exact ⟨rfl, hb⟩
  · rw [decide_eq_false h] at HC
    rw [sS_out h]
    clear h
    go_enter Tryd.func39, Tryd.ntmps39
    go_wp2_with (go_at_call 11; refine (HC.out _).mono ?_; rintro e w1 ⟨rfl, hb⟩)
    go_ret
    exact ⟨rfl, hb⟩

set_option maxHeartbeats 1000000 in
theorem gJoin_any (a b : Int) (w : World) :
    Calls Tryd.prog 14 #[.int .i64 a, .int .i64 b] w fun e w' => e = .returned (.int .i64 (sS a ||| sS b : Nat)) ∧ Below w.heap.size w w' := by
  have HA := Lib.hid (fun W => gsn_any a W)
  have HB := Lib.hid (fun W => gsn_any b W)
  have hx := sS_lt a
  have hy := sS_lt b
  generalize sS a = x at *
  generalize sS b = y at *
  have HBN : Hid (Below w.heap.size w w) := Below.refl _ _
  go_enter Tryd.func14, Tryd.ntmps14
  go_wp2_with (go_at_call 38; (first | with_reducible refine (HA.out _).mono ?_ | with_reducible refine (HB.out _).mono ?_); rintro e wn ⟨rfl, hbn⟩; have hbx := HBN.out.trans (hbn.mono HBN.out.size); clear HBN hbn; have HBN := Lib.hid hbx; clear hbx)
  go_ret
  exact ⟨ret_int (bits_or hx hy), HBN.out⟩

set_option maxHeartbeats 1000000 in
theorem hJoin_any (a b : Int) (w : World) :
    Calls Tryd.prog 15 #[.int .i64 a, .int .i64 b] w fun e w' => e = .returned (.int .i64 (sS a ||| sS b : Nat)) ∧ Below w.heap.size w w' := by
  have HA := Lib.hid (fun W => hsn_any a W)
  have HB := Lib.hid (fun W => hsn_any b W)
  have hx := sS_lt a
  have hy := sS_lt b
  generalize sS a = x at *
  generalize sS b = y at *
  have HBN : Hid (Below w.heap.size w w) := Below.refl _ _
  go_enter Tryd.func15, Tryd.ntmps15
  go_wp2_with (go_at_call 39; (first | with_reducible refine (HA.out _).mono ?_ | with_reducible refine (HB.out _).mono ?_); rintro e wn ⟨rfl, hbn⟩; have hbx := HBN.out.trans (hbn.mono HBN.out.size); clear HBN hbn; have HBN := Lib.hid hbx; clear hbx)
  go_ret
  exact ⟨ret_int (bits_or hx hy), HBN.out⟩

set_option maxHeartbeats 1000000 in
theorem gLeq_any (a b : Int) (w : World) :
    Calls Tryd.prog 16 #[.int .i64 a, .int .i64 b] w fun e w' => e = .returned (.bool (leqN (sS a) (sS b))) ∧ Below w.heap.size w w' := by
  have HA := Lib.hid (fun W => gsn_any a W)
  have HB := Lib.hid (fun W => gsn_any b W)
  have hx := sS_lt a
  have hy := sS_lt b
  generalize sS a = x at *
  generalize sS b = y at *
  have HBN : Hid (Below w.heap.size w w) := Below.refl _ _
  go_enter Tryd.func16, Tryd.ntmps16
  go_wp2_with (go_at_call 38; (first | with_reducible refine (HA.out _).mono ?_ | with_reducible refine (HB.out _).mono ?_); rintro e wn ⟨rfl, hbn⟩; have hbx := HBN.out.trans (hbn.mono HBN.out.size); clear HBN hbn; have HBN := Lib.hid hbx; clear hbx)
  go_ret
  exact ⟨ret_bool (bits_andNot hx hy), HBN.out⟩

set_option maxHeartbeats 1000000 in
theorem hLeq_any (a b : Int) (w : World) :
    Calls Tryd.prog 17 #[.int .i64 a, .int .i64 b] w fun e w' => e = .returned (.bool (leqN (sS a) (sS b))) ∧ Below w.heap.size w w' := by
  have HJ := Lib.hid (fun W => hJoin_any a b W)
  have HB := Lib.hid (fun W => hsn_any b W)
  have hx := sS_lt a
  have hy := sS_lt b
  generalize sS a = x at *
  generalize sS b = y at *
  unfold leqN
  obtain ⟨z, hz⟩ : ∃ z, x ||| y = z := ⟨_, rfl⟩
  rw [hz] at HJ ⊢
  have HBN : Hid (Below w.heap.size w w) := Below.refl _ _
  clear hz hx hy
  go_enter Tryd.func17, Tryd.ntmps17
  go_wp2_with (first
    | (go_at_call 15; with_reducible refine (HJ.out _).mono ?_; rintro e wn ⟨rfl, hbn⟩; have hbx := HBN.out.trans (hbn.mono HBN.out.size); clear HBN hbn; have HBN := Lib.hid hbx; clear hbx)
    | (go_at_call 39; with_reducible refine (HB.out _).mono ?_; rintro e wn ⟨rfl, hbn⟩; have hbx := HBN.out.trans (hbn.mono HBN.out.size); clear HBN hbn; have HBN := Lib.hid hbx; clear hbx))
  go_ret
  refine ⟨ret_bool ?_, HBN.out⟩
  rw [Bool.eq_iff_iff]
  simp
  omega

set_option maxHeartbeats 1000000 in
theorem has_any (a c : Int) (w : World) :
    Calls Tryd.prog 40 #[.int .i64 a, .int .i64 c] w fun e w' => e = .returned (.bool (hasN (sS a) c)) ∧ Below w.heap.size w w' := by
  have HA := Lib.hid (fun W => hsn_any a W)
  have HO := Lib.hid (fun W => hOf_any c W)
  have hx := sS_lt a
  have hy := sg_lt c
  unfold hasN
  generalize sS a = x at *
  generalize sg c = y at *
  have HBN : Hid (Below w.heap.size w w) := Below.refl _ _
  go_enter Tryd.func40, Tryd.ntmps40
  go_wp2_with (first
    | (go_at_call 39; with_reducible refine (HA.out _).mono ?_; rintro e wn ⟨rfl, hbn⟩; have hbx := HBN.out.trans (hbn.mono HBN.out.size); clear HBN hbn; have HBN := Lib.hid hbx; clear hbx)
    | (go_at_call 13; with_reducible refine (HO.out _).mono ?_; rintro e wn ⟨rfl, hbn⟩; have hbx := HBN.out.trans (hbn.mono HBN.out.size); clear HBN hbn; have HBN := Lib.hid hbx; clear hbx))
  go_ret
  exact ⟨ret_bool (bits_and hx hy), HBN.out⟩
end Go.Proofs.YtkcgbdggipijlaaDoor
