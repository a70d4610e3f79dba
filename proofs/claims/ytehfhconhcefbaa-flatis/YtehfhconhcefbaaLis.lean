import Derived.Test.YtehfhconhcefbaaAwk
namespace Go.Proofs.Ytehfhconhcefbaa
open Go Go.RowKit Go.Sort

set_option maxRecDepth 100000 in
set_option maxHeartbeats 8000000 in
theorem is_law (a b : V) (n : Int) (w : World) :
    Calls Try.prog 3 #[a.val, b.val, .int .i64 n] w fun e w' => e = .returned (.bool true) ∧ Below w.heap.size w w' := by
  have F0 := Lib.hid (fun W => Sane_any a W)
  have F1 := Lib.hid (fun W => rSane_any a W)
  have F2 := Lib.hid (fun W => Join_any a b W)
  have F3 := Lib.hid (fun W => theirs_any (join a b) W)
  have F4 := Lib.hid (fun W => rJoin_any a b W)
  have F5 := Lib.hid (fun W => Leq_any a b W)
  have F6 := Lib.hid (fun W => rLeq_any a b W)
  have F7 := Lib.hid (fun W => Wrap_any n W)
  have F8 := Lib.hid (fun W => rWrap_any n W)
  have F9 := Lib.hid (fun W => Of_any n W)
  have F10 := Lib.hid (fun W => theirs_any (vone n) W)
  have F11 := Lib.hid (fun W => rOf_any n W)
  have F12 := Lib.hid (fun W => Height_any a W)
  have F13 := Lib.hid (fun W => rHeight_any a W)
  have F14 := Lib.hid (fun W => Neg_any a W)
  have F15 := Lib.hid (fun W => theirs_any (negV a) W)
  have F16 := Lib.hid (fun W => rNeg_any a W)
  have F17 := Lib.hid (fun W => Add_any a b W)
  have F18 := Lib.hid (fun W => theirs_any (addV a b) W)
  have F19 := Lib.hid (fun W => rAdd_any a b W)
  have F20 := Lib.hid (fun W => Sub_any a b W)
  have F21 := Lib.hid (fun W => theirs_any (subV a b) W)
  have F22 := Lib.hid (fun W => rSub_any a b W)
  have F23 := Lib.hid (fun W => Mul_any a b W)
  have F24 := Lib.hid (fun W => theirs_any (mulV a b) W)
  have F25 := Lib.hid (fun W => rMul_any a b W)
  have HO1 := Lib.hid (fun W => ours_any a W)
  have HO2 := Lib.hid (fun W => ours_any b W)
  generalize decide a.sane = s at *
  generalize join a b = j at *
  generalize leq a b = q at *
  generalize w32 n = m at *
  generalize vone n = o at *
  generalize hgt a = h at *
  generalize negV a = r1 at *
  generalize addV a b = r2 at *
  generalize subV a b = r3 at *
  generalize mulV a b = r4 at *
  unfold V.val at *
  have g0 : (s != s) = false := by simp
  have g1 : (q != q) = false := by simp
  have g2 : (m != m) = false := by simp
  have g3 : (h != h) = false := by simp
  have BA := ((Box.new w (.int .i64 a.k) (.int .i64 a.c) 23).alloc (.cells #[.int .i64 b.k, .int .i64 b.c] 23))
  have BB := (Box.new (w.alloc (.cells #[.int .i64 a.k, .int .i64 a.c] 23)) (.int .i64 b.k) (.int .i64 b.c) 23)
  have hW := below2 w (.cells #[.int .i64 a.k, .int .i64 a.c] 23) (.cells #[.int .i64 b.k, .int .i64 b.c] 23)
  simp only [World.size_alloc] at BB
  generalize hE : ((w.alloc (.cells #[.int .i64 a.k, .int .i64 a.c] 23)).alloc (.cells #[.int .i64 b.k, .int .i64 b.c] 23)) = W0 at *
  have HA := Lib.hid BA
  have HB := Lib.hid BB
  have HBN := Lib.hid hW
  clear hW BA BB
  go_enter Try.func3, Try.ntmps3
  go_wp2_with fail
  refine (awake_any _).mono ?_
  rintro e w1 ⟨rfl, hb⟩
  have TT := HA.out.below hb HA.out.lt; clear HA; have HA := Lib.hid TT; clear TT
  have TT := HB.out.below hb HB.out.lt; clear HB; have HB := Lib.hid TT; clear TT
  have TT := HBN.out.trans (hb.mono HBN.out.size); clear HBN; have HBN := Lib.hid TT; clear TT hb
  clear hE
  obtain ⟨cA0, cA1, -, -⟩ := id HA.out
  go_wp2_with fail
  clear cA0 cA1
  refine (HO1.out _).mono ?_
  rintro e w2 ⟨rfl, hb⟩
  have TT := HA.out.below hb HA.out.lt; clear HA; have HA := Lib.hid TT; clear TT
  have TT := HB.out.below hb HB.out.lt; clear HB; have HB := Lib.hid TT; clear TT
  have TT := HBN.out.trans (hb.mono HBN.out.size); clear HBN; have HBN := Lib.hid TT; clear TT hb
  have TT := HA.out.alloc (.cells #[.int .i64 a.k, .int .i64 a.c] 25); clear HA; have HA := Lib.hid TT; clear TT
  have TT := HB.out.alloc (.cells #[.int .i64 a.k, .int .i64 a.c] 25); clear HB; have HB := Lib.hid TT; clear TT
  have HX := Lib.hid (Box.new w2 (.int .i64 a.k) (.int .i64 a.c) 25)
  have TT := HBN.out.trans (((Below.refl w2.heap.size w2).alloc (Nat.le_refl _) (.cells #[.int .i64 a.k, .int .i64 a.c] 25)).mono HBN.out.size); clear HBN; have HBN := Lib.hid TT; clear TT
  obtain ⟨cB0, cB1, -, -⟩ := id HB.out
  go_wp2_with fail
  clear cB0 cB1
  obtain ⟨bX, hbb⟩ : ∃ b, w2.heap.size = b := ⟨_, rfl⟩
  rw [hbb]
  rw [hbb] at HX
  clear hbb
  generalize w2.alloc (.cells #[.int .i64 a.k, .int .i64 a.c] 25) = y2 at *
  refine (HO2.out _).mono ?_
  rintro e w3 ⟨rfl, hb⟩
  have TT := HA.out.below hb HA.out.lt; clear HA; have HA := Lib.hid TT; clear TT
  have TT := HB.out.below hb HB.out.lt; clear HB; have HB := Lib.hid TT; clear TT
  have TT := HX.out.below hb HX.out.lt; clear HX; have HX := Lib.hid TT; clear TT
  have TT := HBN.out.trans (hb.mono HBN.out.size); clear HBN; have HBN := Lib.hid TT; clear TT hb
  have TT := HA.out.alloc (.cells #[.int .i64 b.k, .int .i64 b.c] 25); clear HA; have HA := Lib.hid TT; clear TT
  have TT := HB.out.alloc (.cells #[.int .i64 b.k, .int .i64 b.c] 25); clear HB; have HB := Lib.hid TT; clear TT
  have TT := HX.out.alloc (.cells #[.int .i64 b.k, .int .i64 b.c] 25); clear HX; have HX := Lib.hid TT; clear TT
  have HY := Lib.hid (Box.new w3 (.int .i64 b.k) (.int .i64 b.c) 25)
  have TT := HBN.out.trans (((Below.refl w3.heap.size w3).alloc (Nat.le_refl _) (.cells #[.int .i64 b.k, .int .i64 b.c] 25)).mono HBN.out.size); clear HBN; have HBN := Lib.hid TT; clear TT
  go_wp2_with fail
  obtain ⟨bY, hbb⟩ : ∃ b, w3.heap.size = b := ⟨_, rfl⟩
  rw [hbb]
  rw [hbb] at HY
  clear hbb
  generalize w3.alloc (.cells #[.int .i64 b.k, .int .i64 b.c] 25) = y3 at *
  have kA0 := cell_regrown HA.out.c0
  have kA1 := cell_regrown HA.out.c1
  have kB0 := cell_regrown HB.out.c0
  have kB1 := cell_regrown HB.out.c1
  have kX0 := cell_regrown HX.out.c0
  have kX1 := cell_regrown HX.out.c1
  have kY0 := cell_regrown HY.out.c0
  have kY1 := cell_regrown HY.out.c1
  have q0 := fun d os => Calls.regrown_of (F0.out (grow (redrawn y3 d) os))
  have q1 := fun d os => Calls.regrown_of (F1.out (grow (redrawn y3 d) os))
  have q2 := fun d os => Calls.regrown_of (F2.out (grow (redrawn y3 d) os))
  have q3 := fun d os => Calls.regrown_of (F3.out (grow (redrawn y3 d) os))
  have q4 := fun d os => Calls.regrown_of (F4.out (grow (redrawn y3 d) os))
  have q5 := fun d os => Calls.regrown_of (F5.out (grow (redrawn y3 d) os))
  have q6 := fun d os => Calls.regrown_of (F6.out (grow (redrawn y3 d) os))
  have q7 := fun d os => Calls.regrown_of (F7.out (grow (redrawn y3 d) os))
  have q8 := fun d os => Calls.regrown_of (F8.out (grow (redrawn y3 d) os))
  have q9 := fun d os => Calls.regrown_of (F9.out (grow (redrawn y3 d) os))
  have q10 := fun d os => Calls.regrown_of (F10.out (grow (redrawn y3 d) os))
  have q11 := fun d os => Calls.regrown_of (F11.out (grow (redrawn y3 d) os))
  have q12 := fun d os => Calls.regrown_of (F12.out (grow (redrawn y3 d) os))
  have q13 := fun d os => Calls.regrown_of (F13.out (grow (redrawn y3 d) os))
  refine wp_region_quiet_below (by kernel_rfl) (by kernel_rfl) ?_
  repeat (first | go_big_quiet_step (first | with_reducible exact q0 _ _ | with_reducible exact q1 _ _ | with_reducible exact q2 _ _ | with_reducible exact q3 _ _ | with_reducible exact q4 _ _ | with_reducible exact q5 _ _ | with_reducible exact q6 _ _ | with_reducible exact q7 _ _ | with_reducible exact q8 _ _ | with_reducible exact q9 _ _ | with_reducible exact q10 _ _ | with_reducible exact q11 _ _ | with_reducible exact q12 _ _ | with_reducible exact q13 _ _) | quiet_step (first | with_reducible exact q0 _ _ | with_reducible exact q1 _ _ | with_reducible exact q2 _ _ | with_reducible exact q3 _ _ | with_reducible exact q4 _ _ | with_reducible exact q5 _ _ | with_reducible exact q6 _ _ | with_reducible exact q7 _ _ | with_reducible exact q8 _ _ | with_reducible exact q9 _ _ | with_reducible exact q10 _ _ | with_reducible exact q11 _ _ | with_reducible exact q12 _ _ | with_reducible exact q13 _ _))
  refine wpQuiet_nil ?_
  intro _ hw'
  obtain ⟨⟨dq, osq⟩, hw''⟩ := hw'
  subst hw''
  have hb := below_regrown y3 dq osq
  clear kA0 kA1 kB0 kB1 kX0 kX1 kY0 kY1 q0 q1 q2 q3 q4 q5 q6 q7 q8 q9 q10 q11 q12 q13
  have TT := HA.out.below hb HA.out.lt; clear HA; have HA := Lib.hid TT; clear TT
  have TT := HB.out.below hb HB.out.lt; clear HB; have HB := Lib.hid TT; clear TT
  have TT := HX.out.below hb HX.out.lt; clear HX; have HX := Lib.hid TT; clear TT
  have TT := HY.out.below hb HY.out.lt; clear HY; have HY := Lib.hid TT; clear TT
  have TT := HBN.out.trans (hb.mono HBN.out.size); clear HBN; have HBN := Lib.hid TT; clear TT hb
  generalize grow (redrawn y3 dq) osq = W1q at *
  clear F0 F1 F2 F3 F4 F5 F6 F7 F8 F9 F10 F11 F12 F13
  go_wp2_with fail
  have kA0 := cell_regrown HA.out.c0
  have kA1 := cell_regrown HA.out.c1
  have kB0 := cell_regrown HB.out.c0
  have kB1 := cell_regrown HB.out.c1
  have kX0 := cell_regrown HX.out.c0
  have kX1 := cell_regrown HX.out.c1
  have kY0 := cell_regrown HY.out.c0
  have kY1 := cell_regrown HY.out.c1
  have q0 := fun d os => Calls.regrown_of (F14.out (grow (redrawn W1q d) os))
  have q1 := fun d os => Calls.regrown_of (F15.out (grow (redrawn W1q d) os))
  have q2 := fun d os => Calls.regrown_of (F16.out (grow (redrawn W1q d) os))
  have q3 := fun d os => Calls.regrown_of (F17.out (grow (redrawn W1q d) os))
  have q4 := fun d os => Calls.regrown_of (F18.out (grow (redrawn W1q d) os))
  have q5 := fun d os => Calls.regrown_of (F19.out (grow (redrawn W1q d) os))
  have q6 := fun d os => Calls.regrown_of (F20.out (grow (redrawn W1q d) os))
  have q7 := fun d os => Calls.regrown_of (F21.out (grow (redrawn W1q d) os))
  have q8 := fun d os => Calls.regrown_of (F22.out (grow (redrawn W1q d) os))
  have q9 := fun d os => Calls.regrown_of (F23.out (grow (redrawn W1q d) os))
  have q10 := fun d os => Calls.regrown_of (F24.out (grow (redrawn W1q d) os))
  have q11 := fun d os => Calls.regrown_of (F25.out (grow (redrawn W1q d) os))
  refine wp_region_quiet_below (by kernel_rfl) (by kernel_rfl) ?_
  repeat (first | go_big_quiet_step (first | with_reducible exact q0 _ _ | with_reducible exact q1 _ _ | with_reducible exact q2 _ _ | with_reducible exact q3 _ _ | with_reducible exact q4 _ _ | with_reducible exact q5 _ _ | with_reducible exact q6 _ _ | with_reducible exact q7 _ _ | with_reducible exact q8 _ _ | with_reducible exact q9 _ _ | with_reducible exact q10 _ _ | with_reducible exact q11 _ _) | quiet_step (first | with_reducible exact q0 _ _ | with_reducible exact q1 _ _ | with_reducible exact q2 _ _ | with_reducible exact q3 _ _ | with_reducible exact q4 _ _ | with_reducible exact q5 _ _ | with_reducible exact q6 _ _ | with_reducible exact q7 _ _ | with_reducible exact q8 _ _ | with_reducible exact q9 _ _ | with_reducible exact q10 _ _ | with_reducible exact q11 _ _))
  refine wpQuiet_nil ?_
  intro _ hw'
  obtain ⟨⟨dq, osq⟩, hw''⟩ := hw'
  subst hw''
  have hb := below_regrown W1q dq osq
  clear kA0 kA1 kB0 kB1 kX0 kX1 kY0 kY1 q0 q1 q2 q3 q4 q5 q6 q7 q8 q9 q10 q11
  have TT := HA.out.below hb HA.out.lt; clear HA; have HA := Lib.hid TT; clear TT
  have TT := HB.out.below hb HB.out.lt; clear HB; have HB := Lib.hid TT; clear TT
  have TT := HX.out.below hb HX.out.lt; clear HX; have HX := Lib.hid TT; clear TT
  have TT := HY.out.below hb HY.out.lt; clear HY; have HY := Lib.hid TT; clear TT
  have TT := HBN.out.trans (hb.mono HBN.out.size); clear HBN; have HBN := Lib.hid TT; clear TT hb
  generalize grow (redrawn W1q dq) osq = W2q at *
  go_wp2_with fail
  go_ret
  exact ⟨rfl, HBN.out⟩
end Go.Proofs.Ytehfhconhcefbaa
