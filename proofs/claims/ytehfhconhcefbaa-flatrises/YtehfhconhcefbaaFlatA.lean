import Derived.Test.YtehfhconhcefbaaBase
import Derived.Test.YtehfhconhcefbaaFlatM
namespace Go.Proofs.Ytehfhconhcefbaa
open Go Go.RowKit Go.Sort

theorem ret_val {a b : V} (h : a = b) : Ending.returned a.val = .returned b.val := by rw [h]

theorem wrap_i32 (n : Int) : IntKind.i32.wrap n = w32 n := by
  rw [IntKind.wrap_i32]; unfold w32; omega

set_option maxHeartbeats 1000000 in
theorem Sane_any (v : V) (w : World) :
    Calls Try.prog 11 #[v.val] w fun e w' => e = .returned (.bool (decide v.sane)) ∧ Below w.heap.size w w' := by
  obtain ⟨k, c⟩ := v
  unfold V.val
  go_enter Try.func11, Try.ntmps11
  go_wp2
  all_goals
    go_ret
    refine ⟨ret_bool ?_, below1 _ _⟩
    rw [Bool.eq_iff_iff]
    simp only [decide_eq_true_eq]
    unfold V.sane
    simp at *
    omega

set_option maxHeartbeats 1000000 in
theorem rSane_any (v : V) (w : World) :
    Calls Try.prog 12 #[v.val] w fun e w' => e = .returned (.bool (decide v.sane)) ∧ Below w.heap.size w w' := by
  obtain ⟨k, c⟩ := v
  unfold V.val
  go_enter Try.func12, Try.ntmps12
  go_wp2
  all_goals
    go_ret
    refine ⟨ret_bool ?_, below1 _ _⟩
    rw [Bool.eq_iff_iff]
    simp only [decide_eq_true_eq]
    unfold V.sane
    simp at *
    omega

set_option maxHeartbeats 1000000 in
theorem ours_any (v : V) (w : World) :
    Calls Try.prog 10 #[v.val] w fun e w' => e = .returned v.val ∧ Below w.heap.size w w' := by
  unfold V.val
  go_enter Try.func10, Try.ntmps10
  go_wp2
  exact bodyPost_ret (v := .agg #[.int .i64 v.k, .int .i64 v.c]) (by simp [results, Try.results10, go_sem]) rfl ⟨rfl, below2 _ _ _⟩

set_option maxHeartbeats 1000000 in
theorem theirs_any (v : V) (w : World) :
    Calls Try.prog 13 #[v.val] w fun e w' => e = .returned v.val ∧ Below w.heap.size w w' := by
  unfold V.val
  go_enter Try.func13, Try.ntmps13
  go_wp2
  exact bodyPost_ret (v := .agg #[.int .i64 v.k, .int .i64 v.c]) (by simp [results, Try.results13, go_sem]) rfl ⟨rfl, below2 _ _ _⟩

set_option maxHeartbeats 1000000 in
theorem Wrap_any (n : Int) (w : World) :
    Calls Try.prog 18 #[.int .i64 n] w fun e w' => e = .returned (.int .i64 (w32 n)) ∧ Below w.heap.size w w' := by
  go_enter Try.func18, Try.ntmps18
  go_wp2
  go_ret
  refine ⟨ret_int ?_, Below.refl _ _⟩
  unfold wrap64 wrap32 w32
  omega

set_option maxHeartbeats 1000000 in
theorem rWrap_any (n : Int) (w : World) :
    Calls Try.prog 19 #[.int .i64 n] w fun e w' => e = .returned (.int .i64 (w32 n)) ∧ Below w.heap.size w w' := by
  go_enter Try.func19, Try.ntmps19
  go_wp2
  all_goals
    go_ret
    refine ⟨ret_int ?_, Below.refl _ _⟩
    simp only [Int.tmod_eq_emod] at *
    try unfold wrap64 at *
    unfold w32
    (repeat' split at *) <;> omega

set_option maxHeartbeats 1000000 in
theorem leqL_any (a b : V) (w : World) :
    Calls Try.prog 33 #[a.val, b.val] w fun e w' => e = .returned (.bool (leV a b)) ∧ Below w.heap.size w w' := by
  obtain ⟨k, c⟩ := a
  obtain ⟨l, d⟩ := b
  unfold V.val
  go_enter Try.func33, Try.ntmps33
  go_wp2
  all_goals
    go_ret
    refine ⟨ret_bool ?_, below2 _ _ _⟩
    rw [Bool.eq_iff_iff]
    simp [leV] at *
    try omega

set_option maxHeartbeats 1000000 in
theorem kind_any (a b : V) (w : World) :
    Calls Try.prog 38 #[a.val, b.val] w fun e w' => e = .returned (.int .i64 (kindZ a.k b.k)) ∧ Below w.heap.size w w' := by
  obtain ⟨k, c⟩ := a
  obtain ⟨l, d⟩ := b
  unfold V.val
  go_enter Try.func38, Try.ntmps38
  go_wp2
  all_goals
    go_ret
    refine ⟨ret_int ?_, below2 _ _ _⟩
    unfold kindZ
    (try simp only [beq_iff_eq, beq_eq_false_iff_ne] at *)
    split <;> omega

set_option maxHeartbeats 1000000 in
theorem sum_any (x y : Int) (w : World) (hx : -2147483648 ≤ x ∧ x ≤ 2147483647) (hy : -2147483648 ≤ y ∧ y ≤ 2147483647) :
    Calls Try.prog 36 #[.int .i64 x, .int .i64 y] w fun e w' => e = .returned (.int .i64 (x + y)) ∧ Below w.heap.size w w' := by
  go_enter Try.func36, Try.ntmps36
  go_wp2
  go_ret
  refine ⟨ret_int ?_, Below.refl _ _⟩
  first | rfl | (unfold wrap64; omega)
set_option maxHeartbeats 1000000 in
theorem difference_any (x y : Int) (w : World) (hx : -2147483648 ≤ x ∧ x ≤ 2147483647) (hy : -2147483648 ≤ y ∧ y ≤ 2147483647) :
    Calls Try.prog 39 #[.int .i64 x, .int .i64 y] w fun e w' => e = .returned (.int .i64 (x - y)) ∧ Below w.heap.size w w' := by
  go_enter Try.func39, Try.ntmps39
  go_wp2
  go_ret
  refine ⟨ret_int ?_, Below.refl _ _⟩
  first | rfl | (unfold wrap64; omega)

theorem mul_in {x y : Int} (hx : -2147483648 ≤ x ∧ x ≤ 2147483647) (hy : -2147483648 ≤ y ∧ y ≤ 2147483647) : -9223372036854775808 ≤ x * y ∧ x * y ≤ 9223372036854775807 := by
  have h1 : (x * y).natAbs ≤ 2147483648 * 2147483648 := by
    rw [Int.natAbs_mul]
    exact Nat.mul_le_mul (by omega) (by omega)
  omega
set_option maxHeartbeats 1000000 in
theorem product_any (x y : Int) (w : World) (hx : -2147483648 ≤ x ∧ x ≤ 2147483647) (hy : -2147483648 ≤ y ∧ y ≤ 2147483647) :
    Calls Try.prog 40 #[.int .i64 x, .int .i64 y] w fun e w' => e = .returned (.int .i64 (x * y)) ∧ Below w.heap.size w w' := by
  have hm := mul_in hx hy
  go_enter Try.func40, Try.ntmps40
  go_wp2
  go_ret
  refine ⟨ret_int ?_, Below.refl _ _⟩
  first | rfl | exact IntWalk.wrap64_in _ hm

set_option maxHeartbeats 1000000 in
theorem Of_any (n : Int) (w : World) :
    Calls Try.prog 20 #[.int .i64 n] w fun e w' => e = .returned (vone n).val ∧ Below w.heap.size w w' := by
  have HC := Lib.hid (fun W => Wrap_any n W)
  have B0 := Box.new w (.int .i64 0) (.int .i64 0) 25
  have hW := below1 w (.cells #[.int .i64 0, .int .i64 0] 25)
  generalize hE : w.alloc (.cells #[.int .i64 0, .int .i64 0] 25) = W at *
  have HW := Lib.hid hW
  clear hW
  go_enter Try.func20, Try.ntmps20
  go_wp2_with (go_at_call 18; refine (HC.out _).mono ?_; clear HC; rintro e w1 ⟨rfl, hb⟩; have B1 := B0.below hb B0.lt; obtain ⟨d0, d1, g0, g1⟩ := id B1; have HB := Lib.hid (HW.out.trans (hb.mono HW.out.size)); clear hb B0)
  have hb2 := below_put2 HB.out (b := w.heap.size) (Nat.le_refl _) (.int .i64 1) (.int .i64 (w32 n))
  exact bodyPost_ret (v := (vone n).val) (by simp [results, Try.results20, go_sem, d0, d1, V.val, vone]) rfl ⟨rfl, hb2⟩
end Go.Proofs.Ytehfhconhcefbaa
