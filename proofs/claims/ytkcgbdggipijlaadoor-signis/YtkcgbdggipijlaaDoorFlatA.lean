import Derived.Test.YtkcgbdggipijlaaDoorBase
import Derived.Test.YtkcgbdggipijlaaDoorFlatM
namespace Go.Proofs.YtkcgbdggipijlaaDoor
open Go Go.RowKit Go.Sort

theorem ret_val {a b : V} (h : a = b) : Ending.returned a.val = .returned b.val := by rw [h]

theorem wrap_i32 (n : Int) : IntKind.i32.wrap n = w32 n := by
  rw [IntKind.wrap_i32]; unfold w32; omega

set_option maxHeartbeats 1000000 in
theorem Sane_any (v : V) (w : World) :
    Calls Tryd.prog 45 #[v.val] w fun e w' => e = .returned (.bool (decide v.sane)) ∧ Below w.heap.size w w' := by
  obtain ⟨k, c⟩ := v
  unfold V.val
  go_enter Tryd.func45, Tryd.ntmps45
  go_wp2
  all_goals
    go_ret
    refine ⟨ret_bool ?_, below1 _ _⟩
    rw [Bool.eq_iff_iff]
    simp only [decide_eq_true_eq]
    unfold V.sane
    simp at *
    omega

set_option maxHeartbeats 1000000 in
theorem rSane_any (v : V) (w : World) :
    Calls Tryd.prog 46 #[v.val] w fun e w' => e = .returned (.bool (decide v.sane)) ∧ Below w.heap.size w w' := by
  obtain ⟨k, c⟩ := v
  unfold V.val
  go_enter Tryd.func46, Tryd.ntmps46
  go_wp2
  all_goals
    go_ret
    refine ⟨ret_bool ?_, below1 _ _⟩
    rw [Bool.eq_iff_iff]
    simp only [decide_eq_true_eq]
    unfold V.sane
    simp at *
    omega





set_option maxHeartbeats 1000000 in
theorem Wrap_any (n : Int) (w : World) :
    Calls Tryd.prog 47 #[.int .i64 n] w fun e w' => e = .returned (.int .i64 (w32 n)) ∧ Below w.heap.size w w' := by
  go_enter Tryd.func47, Tryd.ntmps47
  go_wp2
  go_ret
  refine ⟨ret_int ?_, Below.refl _ _⟩
  unfold wrap64 wrap32 w32
  omega



set_option maxHeartbeats 1000000 in
theorem leqL_any (a b : V) (w : World) :
    Calls Tryd.prog 48 #[a.val, b.val] w fun e w' => e = .returned (.bool (leV a b)) ∧ Below w.heap.size w w' := by
  obtain ⟨k, c⟩ := a
  obtain ⟨l, d⟩ := b
  unfold V.val
  go_enter Tryd.func48, Tryd.ntmps48
  go_wp2
  all_goals
    go_ret
    refine ⟨ret_bool ?_, below2 _ _ _⟩
    rw [Bool.eq_iff_iff]
    simp [leV] at *
    try omega



set_option maxHeartbeats 1000000 in
theorem sum_any (x y : Int) (w : World) (hx : -2147483648 ≤ x ∧ x ≤ 2147483647) (hy : -2147483648 ≤ y ∧ y ≤ 2147483647) :
    Calls Tryd.prog 50 #[.int .i64 x, .int .i64 y] w fun e w' => e = .returned (.int .i64 (x + y)) ∧ Below w.heap.size w w' := by
  go_enter Tryd.func50, Tryd.ntmps50
  go_wp2
  go_ret
  refine ⟨ret_int ?_, Below.refl _ _⟩
  first | rfl | (unfold wrap64; omega)
set_option maxHeartbeats 1000000 in
theorem difference_any (x y : Int) (w : World) (hx : -2147483648 ≤ x ∧ x ≤ 2147483647) (hy : -2147483648 ≤ y ∧ y ≤ 2147483647) :
    Calls Tryd.prog 52 #[.int .i64 x, .int .i64 y] w fun e w' => e = .returned (.int .i64 (x - y)) ∧ Below w.heap.size w w' := by
  go_enter Tryd.func52, Tryd.ntmps52
  go_wp2
  go_ret
  refine ⟨ret_int ?_, Below.refl _ _⟩
  first | rfl | (unfold wrap64; omega)



set_option maxHeartbeats 1000000 in
theorem Of_any (n : Int) (w : World) :
    Calls Tryd.prog 33 #[.int .i64 n] w fun e w' => e = .returned (vone n).val ∧ Below w.heap.size w w' := by
  have HC := Lib.hid (fun W => Wrap_any n W)
  have B0 := Box.new w (.int .i64 0) (.int .i64 0) 33
  have hW := below1 w (.cells #[.int .i64 0, .int .i64 0] 33)
  generalize hE : w.alloc (.cells #[.int .i64 0, .int .i64 0] 33) = W at *
  have HW := Lib.hid hW
  clear hW
  go_enter Tryd.func33, Tryd.ntmps33
  go_wp2_with (go_at_call 47; refine (HC.out _).mono ?_; clear HC; rintro e w1 ⟨rfl, hb⟩; have B1 := B0.below hb B0.lt; obtain ⟨d0, d1, g0, g1⟩ := id B1; have HB := Lib.hid (HW.out.trans (hb.mono HW.out.size)); clear hb B0)
  have hb2 := below_put2 HB.out (b := w.heap.size) (Nat.le_refl _) (.int .i64 1) (.int .i64 (w32 n))
  exact bodyPost_ret (v := (vone n).val) (by simp [results, Tryd.results33, go_sem, d0, d1, V.val, vone]) rfl ⟨rfl, hb2⟩
end Go.Proofs.YtkcgbdggipijlaaDoor
