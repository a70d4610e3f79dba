import Derived.Test.YtehfhconhcefbaaAwk
import Derived.Test.YtehfhconhcefbaaFlatN
namespace Go.Proofs.Ytehfhconhcefbaa
open Go Go.RowKit Go.Sort

set_option maxRecDepth 100000 in
set_option maxHeartbeats 8000000 in
theorem numbers_law (a b c : Int) (w : World) :
    Calls Try.prog 6 #[.int .i64 a, .int .i64 b, .int .i64 c] w fun e w' => e = .returned (.bool true) ∧ Below w.heap.size w w' := by
  have O0 := Lib.hid (fun W => Of_any a W)
  have O1 := Lib.hid (fun W => Of_any b W)
  have O2 := Lib.hid (fun W => Of_any c W)
  have F0 := Lib.hid (fun W => Sane_any (vone a) W)
  rw [show decide (vone a).sane = true from decide_eq_true (vone_sane a)] at F0
  have F1 := Lib.hid (fun W => Add_any (vone (a)) (vone (b)) W)
  rw [show addV (vone (a)) (vone (b)) = vone (a + b) from (add_one _ _).trans (congrArg vone (rfl))] at F1
  have F2 := Lib.hid (fun W => Add_any (vone (b)) (vone (a)) W)
  rw [show addV (vone (b)) (vone (a)) = vone (a + b) from (add_one _ _).trans (congrArg vone (Int.add_comm b a))] at F2
  have F3 := Lib.hid (fun W => Add_any (vone (a + b)) (vone (c)) W)
  rw [show addV (vone (a + b)) (vone (c)) = vone (a + b + c) from (add_one _ _).trans (congrArg vone (rfl))] at F3
  have F4 := Lib.hid (fun W => Add_any (vone (b)) (vone (c)) W)
  rw [show addV (vone (b)) (vone (c)) = vone (b + c) from (add_one _ _).trans (congrArg vone (rfl))] at F4
  have F5 := Lib.hid (fun W => Add_any (vone (a)) (vone (b + c)) W)
  rw [show addV (vone (a)) (vone (b + c)) = vone (a + b + c) from (add_one _ _).trans (congrArg vone ((Int.add_assoc a b c).symm))] at F5
  have F6 := Lib.hid (fun W => Sub_any (vone (a + b)) (vone (b)) W)
  rw [show subV (vone (a + b)) (vone (b)) = vone (a) from (sub_one _ _).trans (congrArg vone (show a + b - b = a by omega))] at F6
  have F7 := Lib.hid (fun W => Sub_any (vone (a)) (vone (b)) W)
  rw [show subV (vone (a)) (vone (b)) = vone (a - b) from (sub_one _ _).trans (congrArg vone (rfl))] at F7
  have F8 := Lib.hid (fun W => Add_any (vone (a)) (vone (-b)) W)
  rw [show addV (vone (a)) (vone (-b)) = vone (a - b) from (add_one _ _).trans (congrArg vone (show a + -b = a - b by omega))] at F8
  have F9 := Lib.hid (fun W => Mul_any (vone (a)) (vone (b)) W)
  rw [show mulV (vone (a)) (vone (b)) = vone (a * b) from (mul_one' _ _).trans (congrArg vone (rfl))] at F9
  have F10 := Lib.hid (fun W => Mul_any (vone (b)) (vone (a)) W)
  rw [show mulV (vone (b)) (vone (a)) = vone (a * b) from (mul_one' _ _).trans (congrArg vone (Int.mul_comm b a))] at F10
  have F11 := Lib.hid (fun W => Mul_any (vone (a + b)) (vone (c)) W)
  rw [show mulV (vone (a + b)) (vone (c)) = vone ((a + b) * c) from (mul_one' _ _).trans (congrArg vone (rfl))] at F11
  have F12 := Lib.hid (fun W => Mul_any (vone (a)) (vone (c)) W)
  rw [show mulV (vone (a)) (vone (c)) = vone (a * c) from (mul_one' _ _).trans (congrArg vone (rfl))] at F12
  have F13 := Lib.hid (fun W => Mul_any (vone (b)) (vone (c)) W)
  rw [show mulV (vone (b)) (vone (c)) = vone (b * c) from (mul_one' _ _).trans (congrArg vone (rfl))] at F13
  have F14 := Lib.hid (fun W => Add_any (vone (a * c)) (vone (b * c)) W)
  rw [show addV (vone (a * c)) (vone (b * c)) = vone ((a + b) * c) from (add_one _ _).trans (congrArg vone ((Int.add_mul a b c).symm))] at F14
  have F15 := Lib.hid (fun W => Mul_any (vone (a)) (vone (1)) W)
  rw [show mulV (vone (a)) (vone (1)) = vone (a) from (mul_one' _ _).trans (congrArg vone (Int.mul_one a))] at F15
  have F16 := Lib.hid (fun W => Neg_any (vone (b)) W)
  rw [show negV (vone (b)) = vone (-b) from (neg_one _).trans (congrArg vone (show _ = _ by omega))] at F16
  have F17 := Lib.hid (fun W => Neg_any (vone (a)) W)
  rw [show negV (vone (a)) = vone (-a) from (neg_one _).trans (congrArg vone (show _ = _ by omega))] at F17
  have F18 := Lib.hid (fun W => Neg_any (vone (-a)) W)
  rw [show negV (vone (-a)) = vone (a) from (neg_one _).trans (congrArg vone (show _ = _ by omega))] at F18
  have F19 := Lib.hid (fun W => Of_any 1 W)
  have hcx := Lib.hid (show (vone a).c = w32 a from rfl)
  generalize vone (1) = o1 at *
  generalize vone (-a) = nx at *
  generalize vone (b * c) = yzm at *
  generalize vone (a * c) = xz at *
  generalize vone ((a + b) * c) = ps at *
  generalize vone (a * b) = pr at *
  generalize vone (-b) = ny at *
  generalize vone (a - b) = df at *
  generalize vone (b + c) = yz at *
  generalize vone (a + b + c) = s3 at *
  generalize vone (a + b) = s at *
  generalize vone (c) = z at *
  generalize vone (b) = y at *
  generalize vone (a) = x at *
  unfold V.val at *
  have gx : (x.c == wrap64 (wrap32 (a % 4294967296))) = true := by rw [beq_iff_eq, hcx.out]; unfold w32 wrap64 wrap32; omega
  clear hcx
  have HBN : Hid (Below w.heap.size w w) := Below.refl _ _
  go_enter Try.func6, Try.ntmps6
  go_wp2_with fail
  refine (awake_any _).mono ?_
  rintro e w1 ⟨rfl, hb⟩
  have TT := HBN.out.trans (hb.mono HBN.out.size); clear HBN; have HBN := Lib.hid TT; clear TT hb
  go_wp2_with fail
  refine (O0.out _).mono ?_
  rintro e w2 ⟨rfl, hb⟩
  have TT := HBN.out.trans (hb.mono HBN.out.size); clear HBN; have HBN := Lib.hid TT; clear TT hb
  have HX := Lib.hid (Box.new w2 (.int .i64 x.k) (.int .i64 x.c) 25)
  have TT := HBN.out.trans (((Below.refl w2.heap.size w2).alloc (Nat.le_refl _) (.cells #[.int .i64 x.k, .int .i64 x.c] 25)).mono HBN.out.size); clear HBN; have HBN := Lib.hid TT; clear TT
  go_wp2_with fail
  obtain ⟨bX, hbb⟩ : ∃ b, w2.heap.size = b := ⟨_, rfl⟩
  rw [hbb]
  rw [hbb] at HX
  clear hbb
  generalize w2.alloc (.cells #[.int .i64 x.k, .int .i64 x.c] 25) = y2 at *
  refine (O1.out _).mono ?_
  rintro e w3 ⟨rfl, hb⟩
  have TT := HX.out.below hb HX.out.lt; clear HX; have HX := Lib.hid TT; clear TT
  have TT := HBN.out.trans (hb.mono HBN.out.size); clear HBN; have HBN := Lib.hid TT; clear TT hb
  have TT := HX.out.alloc (.cells #[.int .i64 y.k, .int .i64 y.c] 25); clear HX; have HX := Lib.hid TT; clear TT
  have HY := Lib.hid (Box.new w3 (.int .i64 y.k) (.int .i64 y.c) 25)
  have TT := HBN.out.trans (((Below.refl w3.heap.size w3).alloc (Nat.le_refl _) (.cells #[.int .i64 y.k, .int .i64 y.c] 25)).mono HBN.out.size); clear HBN; have HBN := Lib.hid TT; clear TT
  go_wp2_with fail
  obtain ⟨bY, hbb⟩ : ∃ b, w3.heap.size = b := ⟨_, rfl⟩
  rw [hbb]
  rw [hbb] at HY
  clear hbb
  generalize w3.alloc (.cells #[.int .i64 y.k, .int .i64 y.c] 25) = y3 at *
  refine (O2.out _).mono ?_
  rintro e w4 ⟨rfl, hb⟩
  have TT := HX.out.below hb HX.out.lt; clear HX; have HX := Lib.hid TT; clear TT
  have TT := HY.out.below hb HY.out.lt; clear HY; have HY := Lib.hid TT; clear TT
  have TT := HBN.out.trans (hb.mono HBN.out.size); clear HBN; have HBN := Lib.hid TT; clear TT hb
  have TT := HX.out.alloc (.cells #[.int .i64 z.k, .int .i64 z.c] 25); clear HX; have HX := Lib.hid TT; clear TT
  have TT := HY.out.alloc (.cells #[.int .i64 z.k, .int .i64 z.c] 25); clear HY; have HY := Lib.hid TT; clear TT
  have HZ := Lib.hid (Box.new w4 (.int .i64 z.k) (.int .i64 z.c) 25)
  have TT := HBN.out.trans (((Below.refl w4.heap.size w4).alloc (Nat.le_refl _) (.cells #[.int .i64 z.k, .int .i64 z.c] 25)).mono HBN.out.size); clear HBN; have HBN := Lib.hid TT; clear TT
  obtain ⟨cX0, cX1, -, -⟩ := id HX.out
  obtain ⟨cY0, cY1, -, -⟩ := id HY.out
  go_wp2_with fail
  clear cX0 cX1 cY0 cY1
  obtain ⟨bZ, hbb⟩ : ∃ b, w4.heap.size = b := ⟨_, rfl⟩
  rw [hbb]
  rw [hbb] at HZ
  clear hbb
  generalize w4.alloc (.cells #[.int .i64 z.k, .int .i64 z.c] 25) = y4 at *
  refine (F1.out _).mono ?_
  rintro e w5 ⟨rfl, hb⟩
  have TT := HX.out.below hb HX.out.lt; clear HX; have HX := Lib.hid TT; clear TT
  have TT := HY.out.below hb HY.out.lt; clear HY; have HY := Lib.hid TT; clear TT
  have TT := HZ.out.below hb HZ.out.lt; clear HZ; have HZ := Lib.hid TT; clear TT
  have TT := HBN.out.trans (hb.mono HBN.out.size); clear HBN; have HBN := Lib.hid TT; clear TT hb
  have TT := HX.out.alloc (.cells #[.int .i64 s.k, .int .i64 s.c] 25); clear HX; have HX := Lib.hid TT; clear TT
  have TT := HY.out.alloc (.cells #[.int .i64 s.k, .int .i64 s.c] 25); clear HY; have HY := Lib.hid TT; clear TT
  have TT := HZ.out.alloc (.cells #[.int .i64 s.k, .int .i64 s.c] 25); clear HZ; have HZ := Lib.hid TT; clear TT
  have HS := Lib.hid (Box.new w5 (.int .i64 s.k) (.int .i64 s.c) 25)
  have TT := HBN.out.trans (((Below.refl w5.heap.size w5).alloc (Nat.le_refl _) (.cells #[.int .i64 s.k, .int .i64 s.c] 25)).mono HBN.out.size); clear HBN; have HBN := Lib.hid TT; clear TT
  go_wp2_with fail
  obtain ⟨bS, hbb⟩ : ∃ b, w5.heap.size = b := ⟨_, rfl⟩
  rw [hbb]
  rw [hbb] at HS
  clear hbb
  generalize w5.alloc (.cells #[.int .i64 s.k, .int .i64 s.c] 25) = y5 at *
  have kX0 := cell_regrown HX.out.c0
  have kX1 := cell_regrown HX.out.c1
  have kY0 := cell_regrown HY.out.c0
  have kY1 := cell_regrown HY.out.c1
  have kZ0 := cell_regrown HZ.out.c0
  have kZ1 := cell_regrown HZ.out.c1
  have kS0 := cell_regrown HS.out.c0
  have kS1 := cell_regrown HS.out.c1
  have q0 := fun d os => Calls.regrown_of (F0.out (grow (redrawn y5 d) os))
  have q1 := fun d os => Calls.regrown_of (F1.out (grow (redrawn y5 d) os))
  have q2 := fun d os => Calls.regrown_of (F2.out (grow (redrawn y5 d) os))
  have q3 := fun d os => Calls.regrown_of (F3.out (grow (redrawn y5 d) os))
  have q4 := fun d os => Calls.regrown_of (F4.out (grow (redrawn y5 d) os))
  have q5 := fun d os => Calls.regrown_of (F5.out (grow (redrawn y5 d) os))
  have q6 := fun d os => Calls.regrown_of (F6.out (grow (redrawn y5 d) os))
  have q7 := fun d os => Calls.regrown_of (F7.out (grow (redrawn y5 d) os))
  have q8 := fun d os => Calls.regrown_of (F8.out (grow (redrawn y5 d) os))
  have q9 := fun d os => Calls.regrown_of (F9.out (grow (redrawn y5 d) os))
  have q10 := fun d os => Calls.regrown_of (F10.out (grow (redrawn y5 d) os))
  have q11 := fun d os => Calls.regrown_of (F11.out (grow (redrawn y5 d) os))
  have q12 := fun d os => Calls.regrown_of (F12.out (grow (redrawn y5 d) os))
  have q13 := fun d os => Calls.regrown_of (F13.out (grow (redrawn y5 d) os))
  have q14 := fun d os => Calls.regrown_of (F14.out (grow (redrawn y5 d) os))
  have q15 := fun d os => Calls.regrown_of (F15.out (grow (redrawn y5 d) os))
  have q16 := fun d os => Calls.regrown_of (F16.out (grow (redrawn y5 d) os))
  have q17 := fun d os => Calls.regrown_of (F17.out (grow (redrawn y5 d) os))
  have q18 := fun d os => Calls.regrown_of (F18.out (grow (redrawn y5 d) os))
  have q19 := fun d os => Calls.regrown_of (F19.out (grow (redrawn y5 d) os))
  simp only [List.append_eq, List.cons_append, List.nil_append]
  refine wp_region_quiet_below (by kernel_rfl) (by kernel_rfl) ?_
  repeat (first | go_big_quiet_step (first | with_reducible exact q0 _ _ | with_reducible exact q1 _ _ | with_reducible exact q2 _ _ | with_reducible exact q3 _ _ | with_reducible exact q4 _ _ | with_reducible exact q5 _ _ | with_reducible exact q6 _ _ | with_reducible exact q7 _ _ | with_reducible exact q8 _ _ | with_reducible exact q9 _ _ | with_reducible exact q10 _ _ | with_reducible exact q11 _ _ | with_reducible exact q12 _ _ | with_reducible exact q13 _ _ | with_reducible exact q14 _ _ | with_reducible exact q15 _ _ | with_reducible exact q16 _ _ | with_reducible exact q17 _ _ | with_reducible exact q18 _ _ | with_reducible exact q19 _ _) | quiet_step (first | with_reducible exact q0 _ _ | with_reducible exact q1 _ _ | with_reducible exact q2 _ _ | with_reducible exact q3 _ _ | with_reducible exact q4 _ _ | with_reducible exact q5 _ _ | with_reducible exact q6 _ _ | with_reducible exact q7 _ _ | with_reducible exact q8 _ _ | with_reducible exact q9 _ _ | with_reducible exact q10 _ _ | with_reducible exact q11 _ _ | with_reducible exact q12 _ _ | with_reducible exact q13 _ _ | with_reducible exact q14 _ _ | with_reducible exact q15 _ _ | with_reducible exact q16 _ _ | with_reducible exact q17 _ _ | with_reducible exact q18 _ _ | with_reducible exact q19 _ _))
  refine wpQuiet_nil ?_
  intro _ hw'
  obtain ⟨⟨dq, osq⟩, hw''⟩ := hw'
  subst hw''
  have hb := below_regrown y5 dq osq
  clear kX0 kX1 kY0 kY1 kZ0 kZ1 kS0 kS1 q0 q1 q2 q3 q4 q5 q6 q7 q8 q9 q10 q11 q12 q13 q14 q15 q16 q17 q18 q19
  have TT := HX.out.below hb HX.out.lt; clear HX; have HX := Lib.hid TT; clear TT
  have TT := HY.out.below hb HY.out.lt; clear HY; have HY := Lib.hid TT; clear TT
  have TT := HZ.out.below hb HZ.out.lt; clear HZ; have HZ := Lib.hid TT; clear TT
  have TT := HS.out.below hb HS.out.lt; clear HS; have HS := Lib.hid TT; clear TT
  have TT := HBN.out.trans (hb.mono HBN.out.size); clear HBN; have HBN := Lib.hid TT; clear TT hb
  generalize grow (redrawn y5 dq) osq = W1q at *
  go_wp2_with fail
  go_ret
  exact ⟨rfl, HBN.out⟩
end Go.Proofs.Ytehfhconhcefbaa
