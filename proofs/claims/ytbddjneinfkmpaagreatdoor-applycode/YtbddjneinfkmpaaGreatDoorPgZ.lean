/- Two instructions, held against each other. -/
import Derived.Test.YtbddjneinfkmpaaGreatDoorInsC
namespace Go.Proofs.YtbddjneinfkmpaaGreatDoor
open Go Go.RowKit Go.Sort

theorem eqArr3two (x0 x1 x2 y0 y1 y2 : Int) (w : World) : (Op.equalIn 9999 38 (.agg #[.int .i64 x0, .int .i64 x1, .int .i64 x2]) (.agg #[.int .i64 y0, .int .i64 y1, .int .i64 y2])).run Tryz.prog w = .ok (x0 == y0 && x1 == y1 && x2 == y2) w := by
  have u3 := Tryz.underlying3
  have a3 := Tryz.isAgg3
  have z3 := Tryz.sizeOf3
  rw [show (9999 : Nat) = 9998 + 1 from rfl, Op.equalIn]
  simp only [Sem.run_bind, run_underlying Tryz.underlying38, Result.andThen_ok]
  simp only [Std.Legacy.Range.forIn_eq_forIn_range', Std.Legacy.Range.size, Nat.sub_zero, Nat.add_sub_cancel, Nat.div_one, List.range'_succ, List.range'_zero, List.forIn_cons, List.forIn_nil]
  go_simp
  by_cases h1 : x0 = y0 <;> by_cases h2 : x1 = y1 <;> by_cases h3 : x2 = y2 <;> simp [h1, h2, h3]
set_option maxHeartbeats 2000000 in
theorem eqInsTwo (id kind dst a b c f n x0 x1 x2 id' kind' dst' a' b' c' f' n' x0' x1' x2' : Int) (w : World) : (Op.equalIn 10000 40 (.agg #[.int .i64 id, .int .i64 kind, .int .i64 dst, .int .i64 a, .int .i64 b, .int .i64 c, .int .i64 f, .int .i64 n, .int .i64 x0, .int .i64 x1, .int .i64 x2]) (.agg #[.int .i64 id', .int .i64 kind', .int .i64 dst', .int .i64 a', .int .i64 b', .int .i64 c', .int .i64 f', .int .i64 n', .int .i64 x0', .int .i64 x1', .int .i64 x2'])).run Tryz.prog w = .ok (decide ((⟨id, kind, dst, a, b, c, f, n, x0, x1, x2⟩ : Ins) = ⟨id', kind', dst', a', b', c', f', n', x0', x1', x2'⟩)) w := by
  have u3 := Tryz.underlying3
  have a3 := Tryz.isAgg3
  have z3 := Tryz.sizeOf3
  have a22 := Tryz.isAgg38
  have z22 := Tryz.sizeOf38
  have h22 := eqArr3two x0 x1 x2 x0' x1' x2'
  have hS : Tryz.prog.underlying 40 = some (.struct (Tryz.prog.fieldsOf 40)) := by kernel_rfl
  rw [show (10000 : Nat) = 9999 + 1 from rfl, run_equalIn_agg w 9999 40 _ _ hS (by kernel_rfl)]
  simp only [Program.fieldsOf, Tryz.underlying40]
  go_simp
  by_cases h0 : id = id'
  rotate_left
  · simp [h0]
  simp only [h0, if_true, decide_true, Bool.true_and]
  by_cases h1 : kind = kind'
  rotate_left
  · simp [h1]
  simp only [h1, if_true, decide_true, Bool.true_and]
  by_cases h2 : dst = dst'
  rotate_left
  · simp [h2]
  simp only [h2, if_true, decide_true, Bool.true_and]
  by_cases h3 : a = a'
  rotate_left
  · simp [h3]
  simp only [h3, if_true, decide_true, Bool.true_and]
  by_cases h4 : b = b'
  rotate_left
  · simp [h4]
  simp only [h4, if_true, decide_true, Bool.true_and]
  by_cases h5 : c = c'
  rotate_left
  · simp [h5]
  simp only [h5, if_true, decide_true, Bool.true_and]
  by_cases h6 : f = f'
  rotate_left
  · simp [h6]
  simp only [h6, if_true, decide_true, Bool.true_and]
  by_cases h7 : n = n'
  rotate_left
  · simp [h7]
  simp only [h7, if_true, decide_true, Bool.true_and]
  by_cases g0 : x0 = x0' <;> by_cases g1 : x1 = x1' <;> by_cases g2 : x2 = x2' <;> simp [g0, g1, g2]
end Go.Proofs.YtbddjneinfkmpaaGreatDoor
