import Derived.Test.YtcmncclibhjepaaBase
import Derived.Test.YtcmncclibhjepaaFlatM
namespace Go.Proofs.Ytcmncclibhjepaa
open Go Go.RowKit Go.Sort

theorem ret_val {a b : V} (h : a = b) : Ending.returned a.val = .returned b.val := by rw [h]

theorem wrap_i32 (n : Int) : IntKind.i32.wrap n = w32 n := by
  rw [IntKind.wrap_i32]; unfold w32; omega

set_option maxHeartbeats 1000000 in
theorem Sane_any (v : V) (w : World) :
    Calls Try.prog 67 #[v.val] w fun e w' => e = .returned (.bool (decide v.sane)) ∧ Below w.heap.size w w' := by
  obtain ⟨k, c⟩ := v
  unfold V.val
  go_enter Try.func67, Try.ntmps67
  go_wp2
  all_goals
    go_ret
    refine ⟨ret_bool ?_, below1 _ _⟩
    rw [Bool.eq_iff_iff]
    simp only [decide_eq_true_eq]
    unfold V.sane
    simp at *
    omega

set_option maxHeartbeats 1000000 in
theorem rSane_any (v : V) (w : World) :
    Calls Try.prog 74 #[v.val] w fun e w' => e = .returned (.bool (decide v.sane)) ∧ Below w.heap.size w w' := by
  obtain ⟨k, c⟩ := v
  unfold V.val
  go_enter Try.func74, Try.ntmps74
  go_wp2
  all_goals
    go_ret
    refine ⟨ret_bool ?_, below1 _ _⟩
    rw [Bool.eq_iff_iff]
    simp only [decide_eq_true_eq]
    unfold V.sane
    simp at *
    omega





set_option maxHeartbeats 1000000 in
theorem Wrap_any (n : Int) (w : World) :
    Calls Try.prog 66 #[.int .i64 n] w fun e w' => e = .returned (.int .i64 (w32 n)) ∧ Below w.heap.size w w' := by
  go_enter Try.func66, Try.ntmps66
  go_wp2
  go_ret
  refine ⟨ret_int ?_, Below.refl _ _⟩
  unfold wrap64 wrap32 w32
  omega



set_option maxHeartbeats 1000000 in
theorem leqL_any (a b : V) (w : World) :
    Calls Try.prog 64 #[a.val, b.val] w fun e w' => e = .returned (.bool (leV a b)) ∧ Below w.heap.size w w' := by
  obtain ⟨k, c⟩ := a
  obtain ⟨l, d⟩ := b
  unfold V.val
  go_enter Try.func64, Try.ntmps64
  go_wp2
  all_goals
    go_ret
    refine ⟨ret_bool ?_, below2 _ _ _⟩
    rw [Bool.eq_iff_iff]
    simp [leV] at *
    try omega







set_option maxHeartbeats 1000000 in
theorem Of_any (n : Int) (w : World) :
    Calls Try.prog 40 #[.int .i64 n] w fun e w' => e = .returned (vone n).val ∧ Below w.heap.size w w' := by
  have HC := Lib.hid (fun W => Wrap_any n W)
  have B0 := Box.new w (.int .i64 0) (.int .i64 0) 32
  have hW := below1 w (.cells #[.int .i64 0, .int .i64 0] 32)
  generalize hE : w.alloc (.cells #[.int .i64 0, .int .i64 0] 32) = W at *
  have HW := Lib.hid hW
  clear hW
  go_enter Try.func40, Try.ntmps40
  go_wp2_with (go_at_call 66; refine (HC.out _).mono ?_; clear HC; rintro e w1 ⟨rfl, hb⟩; have B1 := B0.below hb B0.lt; obtain ⟨d0, d1, g0, g1⟩ := id B1; have HB := Lib.hid (HW.out.trans (hb.mono HW.out.size)); clear hb B0)
  have hb2 := below_put2 HB.out (b := w.heap.size) (Nat.le_refl _) (.int .i64 1) (.int .i64 (w32 n))
  exact bodyPost_ret (v := (vone n).val) (by simp [results, Try.results40, go_sem, d0, d1, V.val, vone]) rfl ⟨rfl, hb2⟩
end Go.Proofs.Ytcmncclibhjepaa
