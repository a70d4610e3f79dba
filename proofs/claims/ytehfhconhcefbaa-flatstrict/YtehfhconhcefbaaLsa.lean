import Derived.Test.YtehfhconhcefbaaAwk
import Derived.Test.YtehfhconhcefbaaFlatN
namespace Go.Proofs.Ytehfhconhcefbaa
open Go Go.RowKit Go.Sort

set_option maxRecDepth 100000 in
set_option maxHeartbeats 16000000 in
theorem strict_A (a b : V) (hx : hgt a = 0) (hy : hgt b = 0) (w : World) :
    Calls Try.prog 8 #[a.val, b.val] w fun e w' => e = .returned (.bool true) ∧ Below w.heap.size w w' := by
  have hk : kindZ (hgt a) (hgt b) = 0 := by rw [hx, hy]; unfold kindZ; split <;> omega
  have F0 := Lib.hid (fun W => Height_any a W)
  rw [hx] at F0
  have F1 := Lib.hid (fun W => Height_any b W)
  rw [hy] at F1
  have F2 := Lib.hid (fun W => Add_any a b W)
  have F3 := Lib.hid (fun W => Height_any (addV a b) W)
  rw [show hgt (addV a b) = 0 from (hgt_comb _ a b).trans hk] at F3
  have F4 := Lib.hid (fun W => Sub_any a b W)
  have F5 := Lib.hid (fun W => Height_any (subV a b) W)
  rw [show hgt (subV a b) = 0 from (hgt_comb _ a b).trans hk] at F5
  have F6 := Lib.hid (fun W => Mul_any a b W)
  have F7 := Lib.hid (fun W => Height_any (mulV a b) W)
  rw [show hgt (mulV a b) = 0 from (hgt_comb _ a b).trans hk] at F7
  have F8 := Lib.hid (fun W => Neg_any a W)
  have F9 := Lib.hid (fun W => Height_any (negV a) W)
  rw [hgt_neg, hx] at F9
  have F10 := Lib.hid (fun W => Sane_any (addV a b) W)
  rw [show decide (addV a b).sane = true from decide_eq_true (comb_sane _ a b)] at F10
  have F11 := Lib.hid (fun W => Sane_any (mulV a b) W)
  rw [show decide (mulV a b).sane = true from decide_eq_true (comb_sane _ a b)] at F11
  have F12 := Lib.hid (fun W => Sane_any (negV a) W)
  rw [show decide (negV a).sane = true from decide_eq_true (comb_sane _ _ a)] at F12
  generalize addV a b = r1 at *
  generalize subV a b = r2 at *
  generalize mulV a b = r3 at *
  generalize negV a = r4 at *
  have HO0 := Lib.hid (fun W => ours_any a W)
  have HO1 := Lib.hid (fun W => ours_any b W)
  clear hx hy hk
  unfold V.val at *
  have BA := ((Box.new w (.int .i64 a.k) (.int .i64 a.c) 23).alloc (.cells #[.int .i64 b.k, .int .i64 b.c] 23))
  have BB := (Box.new (w.alloc (.cells #[.int .i64 a.k, .int .i64 a.c] 23)) (.int .i64 b.k) (.int .i64 b.c) 23)
  have hW := below2 w (.cells #[.int .i64 a.k, .int .i64 a.c] 23) (.cells #[.int .i64 b.k, .int .i64 b.c] 23)
  simp only [World.size_alloc] at BB
  generalize hE : ((w.alloc (.cells #[.int .i64 a.k, .int .i64 a.c] 23)).alloc (.cells #[.int .i64 b.k, .int .i64 b.c] 23)) = W0 at *
  have HA := Lib.hid BA
  have HB := Lib.hid BB
  have HBN := Lib.hid hW
  clear hW BA BB
  go_enter Try.func8, Try.ntmps8
  go_wp2_with fail
  refine (awake_any _).mono ?_
  rintro e w1 ⟨rfl, hb⟩
  have TT := HA.out.below hb HA.out.lt; clear HA; have HA := Lib.hid TT; clear TT
  have TT := HB.out.below hb HB.out.lt; clear HB; have HB := Lib.hid TT; clear TT
  have TT := HBN.out.trans (hb.mono HBN.out.size); clear HBN; have HBN := Lib.hid TT; clear TT hb
  clear hE
  obtain ⟨cA0, cA1, -, -⟩ := id HA.out
  go_wp2_with fail
  clear cA0 cA1
  refine (HO0.out _).mono ?_
  rintro e w2 ⟨rfl, hb⟩
  have TT := HA.out.below hb HA.out.lt; clear HA; have HA := Lib.hid TT; clear TT
  have TT := HB.out.below hb HB.out.lt; clear HB; have HB := Lib.hid TT; clear TT
  have TT := HBN.out.trans (hb.mono HBN.out.size); clear HBN; have HBN := Lib.hid TT; clear TT hb
  have TT := HA.out.alloc (.cells #[.int .i64 a.k, .int .i64 a.c] 25); clear HA; have HA := Lib.hid TT; clear TT
  have TT := HB.out.alloc (.cells #[.int .i64 a.k, .int .i64 a.c] 25); clear HB; have HB := Lib.hid TT; clear TT
  have HX := Lib.hid (Box.new w2 (.int .i64 a.k) (.int .i64 a.c) 25)
  have TT := HBN.out.trans (((Below.refl w2.heap.size w2).alloc (Nat.le_refl _) (.cells #[.int .i64 a.k, .int .i64 a.c] 25)).mono HBN.out.size); clear HBN; have HBN := Lib.hid TT; clear TT
  obtain ⟨cB0, cB1, -, -⟩ := id HB.out
  go_wp2_with fail
  clear cB0 cB1
  obtain ⟨bX, hbb⟩ : ∃ b, w2.heap.size = b := ⟨_, rfl⟩
  rw [hbb]
  rw [hbb] at HX
  clear hbb
  generalize w2.alloc (.cells #[.int .i64 a.k, .int .i64 a.c] 25) = y2 at *
  refine (HO1.out _).mono ?_
  rintro e w3 ⟨rfl, hb⟩
  have TT := HA.out.below hb HA.out.lt; clear HA; have HA := Lib.hid TT; clear TT
  have TT := HB.out.below hb HB.out.lt; clear HB; have HB := Lib.hid TT; clear TT
  have TT := HX.out.below hb HX.out.lt; clear HX; have HX := Lib.hid TT; clear TT
  have TT := HBN.out.trans (hb.mono HBN.out.size); clear HBN; have HBN := Lib.hid TT; clear TT hb
  have TT := HA.out.alloc (.cells #[.int .i64 b.k, .int .i64 b.c] 25); clear HA; have HA := Lib.hid TT; clear TT
  have TT := HB.out.alloc (.cells #[.int .i64 b.k, .int .i64 b.c] 25); clear HB; have HB := Lib.hid TT; clear TT
  have TT := HX.out.alloc (.cells #[.int .i64 b.k, .int .i64 b.c] 25); clear HX; have HX := Lib.hid TT; clear TT
  have HY := Lib.hid (Box.new w3 (.int .i64 b.k) (.int .i64 b.c) 25)
  have TT := HBN.out.trans (((Below.refl w3.heap.size w3).alloc (Nat.le_refl _) (.cells #[.int .i64 b.k, .int .i64 b.c] 25)).mono HBN.out.size); clear HBN; have HBN := Lib.hid TT; clear TT
  go_upto_region 4 with fail
  obtain ⟨bY, hbb⟩ : ∃ b, w3.heap.size = b := ⟨_, rfl⟩
  rw [hbb]
  rw [hbb] at HY
  clear hbb
  generalize w3.alloc (.cells #[.int .i64 b.k, .int .i64 b.c] 25) = y3 at *
  have kX0 := cell_regrown HX.out.c0
  have kX1 := cell_regrown HX.out.c1
  have kY0 := cell_regrown HY.out.c0
  have kY1 := cell_regrown HY.out.c1
  have q0 := fun d os => Calls.regrown_of (F0.out (grow (redrawn y3 d) os))
  have q1 := fun d os => Calls.regrown_of (F1.out (grow (redrawn y3 d) os))
  refine wp_region_quiet_below (by kernel_rfl) (by kernel_rfl) ?_
  repeat (first | go_big_quiet_step (first | with_reducible exact q0 _ _ | with_reducible exact q1 _ _) | quiet_step (first | with_reducible exact q0 _ _ | with_reducible exact q1 _ _))
  refine wpQuiet_nil ?_
  intro _ hw'
  obtain ⟨⟨dq, osq⟩, hw''⟩ := hw'
  subst hw''
  have hb := below_regrown y3 dq osq
  clear kX0 kX1 kY0 kY1 q0 q1
  have TT := HA.out.below hb HA.out.lt; clear HA; have HA := Lib.hid TT; clear TT
  have TT := HB.out.below hb HB.out.lt; clear HB; have HB := Lib.hid TT; clear TT
  have TT := HX.out.below hb HX.out.lt; clear HX; have HX := Lib.hid TT; clear TT
  have TT := HY.out.below hb HY.out.lt; clear HY; have HY := Lib.hid TT; clear TT
  have TT := HBN.out.trans (hb.mono HBN.out.size); clear HBN; have HBN := Lib.hid TT; clear TT hb
  generalize grow (redrawn y3 dq) osq = W1q at *
  clear HA HB
  obtain ⟨cX0, cX1, -, -⟩ := id HX.out
  obtain ⟨cY0, cY1, -, -⟩ := id HY.out
  have tok1 : True := trivial
  have tok2 : True := trivial
  go_upto_region 7 with (first | (have _t := tok1; go_at_call 22; with_reducible refine (F0.out _).mono ?_; clear _t tok1 cX0 cX1 cY0 cY1; rintro e v1 ⟨rfl, hb⟩; have TT := HX.out.below hb HX.out.lt; clear HX; have HX := Lib.hid TT; clear TT; have TT := HY.out.below hb HY.out.lt; clear HY; have HY := Lib.hid TT; clear TT; have TT := HBN.out.trans (hb.mono HBN.out.size); clear HBN; have HBN := Lib.hid TT; clear TT hb; obtain ⟨cX0, cX1, -, -⟩ := id HX.out; obtain ⟨cY0, cY1, -, -⟩ := id HY.out))
  clear cX0 cX1 cY0 cY1
  have kX0 := cell_regrown HX.out.c0
  have kX1 := cell_regrown HX.out.c1
  have kY0 := cell_regrown HY.out.c0
  have kY1 := cell_regrown HY.out.c1
  have q0 := fun d os => Calls.regrown_of (F0.out (grow (redrawn v1 d) os))
  have q1 := fun d os => Calls.regrown_of (F1.out (grow (redrawn v1 d) os))
  have q2 := fun d os => Calls.regrown_of (F2.out (grow (redrawn v1 d) os))
  have q3 := fun d os => Calls.regrown_of (F3.out (grow (redrawn v1 d) os))
  have q4 := fun d os => Calls.regrown_of (F4.out (grow (redrawn v1 d) os))
  have q5 := fun d os => Calls.regrown_of (F5.out (grow (redrawn v1 d) os))
  have q6 := fun d os => Calls.regrown_of (F6.out (grow (redrawn v1 d) os))
  have q7 := fun d os => Calls.regrown_of (F7.out (grow (redrawn v1 d) os))
  have q8 := fun d os => Calls.regrown_of (F8.out (grow (redrawn v1 d) os))
  have q9 := fun d os => Calls.regrown_of (F9.out (grow (redrawn v1 d) os))
  have q10 := fun d os => Calls.regrown_of (F10.out (grow (redrawn v1 d) os))
  have q11 := fun d os => Calls.regrown_of (F11.out (grow (redrawn v1 d) os))
  have q12 := fun d os => Calls.regrown_of (F12.out (grow (redrawn v1 d) os))
  refine wp_region_quiet_below (by kernel_rfl) (by kernel_rfl) ?_
  repeat (first | go_big_quiet_step (first | with_reducible exact q0 _ _ | with_reducible exact q1 _ _ | with_reducible exact q2 _ _ | with_reducible exact q3 _ _ | with_reducible exact q4 _ _ | with_reducible exact q5 _ _ | with_reducible exact q6 _ _ | with_reducible exact q7 _ _ | with_reducible exact q8 _ _ | with_reducible exact q9 _ _ | with_reducible exact q10 _ _ | with_reducible exact q11 _ _ | with_reducible exact q12 _ _) | quiet_step (first | with_reducible exact q0 _ _ | with_reducible exact q1 _ _ | with_reducible exact q2 _ _ | with_reducible exact q3 _ _ | with_reducible exact q4 _ _ | with_reducible exact q5 _ _ | with_reducible exact q6 _ _ | with_reducible exact q7 _ _ | with_reducible exact q8 _ _ | with_reducible exact q9 _ _ | with_reducible exact q10 _ _ | with_reducible exact q11 _ _ | with_reducible exact q12 _ _))
  refine wpQuiet_nil ?_
  intro _ hw'
  obtain ⟨⟨dq, osq⟩, hw''⟩ := hw'
  subst hw''
  have hb := below_regrown v1 dq osq
  clear kX0 kX1 kY0 kY1 q0 q1 q2 q3 q4 q5 q6 q7 q8 q9 q10 q11 q12
  have TT := HX.out.below hb HX.out.lt; clear HX; have HX := Lib.hid TT; clear TT
  have TT := HY.out.below hb HY.out.lt; clear HY; have HY := Lib.hid TT; clear TT
  have TT := HBN.out.trans (hb.mono HBN.out.size); clear HBN; have HBN := Lib.hid TT; clear TT hb
  generalize grow (redrawn v1 dq) osq = W2q at *
  go_wp2_with fail
  go_ret
  exact ⟨rfl, HBN.out⟩

set_option maxRecDepth 100000 in
set_option maxHeartbeats 16000000 in
theorem strict_B (a b : V) (q : Int) (hq : 0 < q) (hx : hgt a = 0) (hy : hgt b = q) (w : World) :
    Calls Try.prog 8 #[a.val, b.val] w fun e w' => e = .returned (.bool true) ∧ Below w.heap.size w w' := by
  have hk : kindZ (hgt a) (hgt b) = 0 := by rw [hx, hy]; unfold kindZ; split <;> omega
  have F0 := Lib.hid (fun W => Height_any a W)
  rw [hx] at F0
  have F1 := Lib.hid (fun W => Height_any b W)
  rw [hy] at F1
  have F2 := Lib.hid (fun W => Add_any a b W)
  have F3 := Lib.hid (fun W => Height_any (addV a b) W)
  rw [show hgt (addV a b) = 0 from (hgt_comb _ a b).trans hk] at F3
  have F4 := Lib.hid (fun W => Sub_any a b W)
  have F5 := Lib.hid (fun W => Height_any (subV a b) W)
  rw [show hgt (subV a b) = 0 from (hgt_comb _ a b).trans hk] at F5
  have F6 := Lib.hid (fun W => Mul_any a b W)
  have F7 := Lib.hid (fun W => Height_any (mulV a b) W)
  rw [show hgt (mulV a b) = 0 from (hgt_comb _ a b).trans hk] at F7
  have F8 := Lib.hid (fun W => Neg_any a W)
  have F9 := Lib.hid (fun W => Height_any (negV a) W)
  rw [hgt_neg, hx] at F9
  have F10 := Lib.hid (fun W => Sane_any (addV a b) W)
  rw [show decide (addV a b).sane = true from decide_eq_true (comb_sane _ a b)] at F10
  have F11 := Lib.hid (fun W => Sane_any (mulV a b) W)
  rw [show decide (mulV a b).sane = true from decide_eq_true (comb_sane _ a b)] at F11
  have F12 := Lib.hid (fun W => Sane_any (negV a) W)
  rw [show decide (negV a).sane = true from decide_eq_true (comb_sane _ _ a)] at F12
  generalize addV a b = r1 at *
  generalize subV a b = r2 at *
  generalize mulV a b = r3 at *
  generalize negV a = r4 at *
  have HO0 := Lib.hid (fun W => ours_any a W)
  have HO1 := Lib.hid (fun W => ours_any b W)
  have q0 : (q == 0) = false := by rw [beq_eq_false_iff_ne]; omega
  clear hx hy hk
  unfold V.val at *
  have BA := ((Box.new w (.int .i64 a.k) (.int .i64 a.c) 23).alloc (.cells #[.int .i64 b.k, .int .i64 b.c] 23))
  have BB := (Box.new (w.alloc (.cells #[.int .i64 a.k, .int .i64 a.c] 23)) (.int .i64 b.k) (.int .i64 b.c) 23)
  have hW := below2 w (.cells #[.int .i64 a.k, .int .i64 a.c] 23) (.cells #[.int .i64 b.k, .int .i64 b.c] 23)
  simp only [World.size_alloc] at BB
  generalize hE : ((w.alloc (.cells #[.int .i64 a.k, .int .i64 a.c] 23)).alloc (.cells #[.int .i64 b.k, .int .i64 b.c] 23)) = W0 at *
  have HA := Lib.hid BA
  have HB := Lib.hid BB
  have HBN := Lib.hid hW
  clear hW BA BB
  go_enter Try.func8, Try.ntmps8
  go_wp2_with fail
  refine (awake_any _).mono ?_
  rintro e w1 ⟨rfl, hb⟩
  have TT := HA.out.below hb HA.out.lt; clear HA; have HA := Lib.hid TT; clear TT
  have TT := HB.out.below hb HB.out.lt; clear HB; have HB := Lib.hid TT; clear TT
  have TT := HBN.out.trans (hb.mono HBN.out.size); clear HBN; have HBN := Lib.hid TT; clear TT hb
  clear hE
  obtain ⟨cA0, cA1, -, -⟩ := id HA.out
  go_wp2_with fail
  clear cA0 cA1
  refine (HO0.out _).mono ?_
  rintro e w2 ⟨rfl, hb⟩
  have TT := HA.out.below hb HA.out.lt; clear HA; have HA := Lib.hid TT; clear TT
  have TT := HB.out.below hb HB.out.lt; clear HB; have HB := Lib.hid TT; clear TT
  have TT := HBN.out.trans (hb.mono HBN.out.size); clear HBN; have HBN := Lib.hid TT; clear TT hb
  have TT := HA.out.alloc (.cells #[.int .i64 a.k, .int .i64 a.c] 25); clear HA; have HA := Lib.hid TT; clear TT
  have TT := HB.out.alloc (.cells #[.int .i64 a.k, .int .i64 a.c] 25); clear HB; have HB := Lib.hid TT; clear TT
  have HX := Lib.hid (Box.new w2 (.int .i64 a.k) (.int .i64 a.c) 25)
  have TT := HBN.out.trans (((Below.refl w2.heap.size w2).alloc (Nat.le_refl _) (.cells #[.int .i64 a.k, .int .i64 a.c] 25)).mono HBN.out.size); clear HBN; have HBN := Lib.hid TT; clear TT
  obtain ⟨cB0, cB1, -, -⟩ := id HB.out
  go_wp2_with fail
  clear cB0 cB1
  obtain ⟨bX, hbb⟩ : ∃ b, w2.heap.size = b := ⟨_, rfl⟩
  rw [hbb]
  rw [hbb] at HX
  clear hbb
  generalize w2.alloc (.cells #[.int .i64 a.k, .int .i64 a.c] 25) = y2 at *
  refine (HO1.out _).mono ?_
  rintro e w3 ⟨rfl, hb⟩
  have TT := HA.out.below hb HA.out.lt; clear HA; have HA := Lib.hid TT; clear TT
  have TT := HB.out.below hb HB.out.lt; clear HB; have HB := Lib.hid TT; clear TT
  have TT := HX.out.below hb HX.out.lt; clear HX; have HX := Lib.hid TT; clear TT
  have TT := HBN.out.trans (hb.mono HBN.out.size); clear HBN; have HBN := Lib.hid TT; clear TT hb
  have TT := HA.out.alloc (.cells #[.int .i64 b.k, .int .i64 b.c] 25); clear HA; have HA := Lib.hid TT; clear TT
  have TT := HB.out.alloc (.cells #[.int .i64 b.k, .int .i64 b.c] 25); clear HB; have HB := Lib.hid TT; clear TT
  have TT := HX.out.alloc (.cells #[.int .i64 b.k, .int .i64 b.c] 25); clear HX; have HX := Lib.hid TT; clear TT
  have HY := Lib.hid (Box.new w3 (.int .i64 b.k) (.int .i64 b.c) 25)
  have TT := HBN.out.trans (((Below.refl w3.heap.size w3).alloc (Nat.le_refl _) (.cells #[.int .i64 b.k, .int .i64 b.c] 25)).mono HBN.out.size); clear HBN; have HBN := Lib.hid TT; clear TT
  go_upto_region 4 with fail
  obtain ⟨bY, hbb⟩ : ∃ b, w3.heap.size = b := ⟨_, rfl⟩
  rw [hbb]
  rw [hbb] at HY
  clear hbb
  generalize w3.alloc (.cells #[.int .i64 b.k, .int .i64 b.c] 25) = y3 at *
  have kX0 := cell_regrown HX.out.c0
  have kX1 := cell_regrown HX.out.c1
  have kY0 := cell_regrown HY.out.c0
  have kY1 := cell_regrown HY.out.c1
  have q0 := fun d os => Calls.regrown_of (F0.out (grow (redrawn y3 d) os))
  have q1 := fun d os => Calls.regrown_of (F1.out (grow (redrawn y3 d) os))
  refine wp_region_quiet_below (by kernel_rfl) (by kernel_rfl) ?_
  repeat (first | go_big_quiet_step (first | with_reducible exact q0 _ _ | with_reducible exact q1 _ _) | quiet_step (first | with_reducible exact q0 _ _ | with_reducible exact q1 _ _))
  refine wpQuiet_nil ?_
  intro _ hw'
  obtain ⟨⟨dq, osq⟩, hw''⟩ := hw'
  subst hw''
  have hb := below_regrown y3 dq osq
  clear kX0 kX1 kY0 kY1 q0 q1
  have TT := HA.out.below hb HA.out.lt; clear HA; have HA := Lib.hid TT; clear TT
  have TT := HB.out.below hb HB.out.lt; clear HB; have HB := Lib.hid TT; clear TT
  have TT := HX.out.below hb HX.out.lt; clear HX; have HX := Lib.hid TT; clear TT
  have TT := HY.out.below hb HY.out.lt; clear HY; have HY := Lib.hid TT; clear TT
  have TT := HBN.out.trans (hb.mono HBN.out.size); clear HBN; have HBN := Lib.hid TT; clear TT hb
  generalize grow (redrawn y3 dq) osq = W1q at *
  clear HA HB
  obtain ⟨cX0, cX1, -, -⟩ := id HX.out
  obtain ⟨cY0, cY1, -, -⟩ := id HY.out
  have tok1 : True := trivial
  have tok2 : True := trivial
  go_upto_region 7 with (first | (have _t := tok1; go_at_call 22; with_reducible refine (F0.out _).mono ?_; clear _t tok1 cX0 cX1 cY0 cY1; rintro e v1 ⟨rfl, hb⟩; have TT := HX.out.below hb HX.out.lt; clear HX; have HX := Lib.hid TT; clear TT; have TT := HY.out.below hb HY.out.lt; clear HY; have HY := Lib.hid TT; clear TT; have TT := HBN.out.trans (hb.mono HBN.out.size); clear HBN; have HBN := Lib.hid TT; clear TT hb; obtain ⟨cX0, cX1, -, -⟩ := id HX.out; obtain ⟨cY0, cY1, -, -⟩ := id HY.out))
  clear cX0 cX1 cY0 cY1
  have kX0 := cell_regrown HX.out.c0
  have kX1 := cell_regrown HX.out.c1
  have kY0 := cell_regrown HY.out.c0
  have kY1 := cell_regrown HY.out.c1
  have q0 := fun d os => Calls.regrown_of (F0.out (grow (redrawn v1 d) os))
  have q1 := fun d os => Calls.regrown_of (F1.out (grow (redrawn v1 d) os))
  have q2 := fun d os => Calls.regrown_of (F2.out (grow (redrawn v1 d) os))
  have q3 := fun d os => Calls.regrown_of (F3.out (grow (redrawn v1 d) os))
  have q4 := fun d os => Calls.regrown_of (F4.out (grow (redrawn v1 d) os))
  have q5 := fun d os => Calls.regrown_of (F5.out (grow (redrawn v1 d) os))
  have q6 := fun d os => Calls.regrown_of (F6.out (grow (redrawn v1 d) os))
  have q7 := fun d os => Calls.regrown_of (F7.out (grow (redrawn v1 d) os))
  have q8 := fun d os => Calls.regrown_of (F8.out (grow (redrawn v1 d) os))
  have q9 := fun d os => Calls.regrown_of (F9.out (grow (redrawn v1 d) os))
  have q10 := fun d os => Calls.regrown_of (F10.out (grow (redrawn v1 d) os))
  have q11 := fun d os => Calls.regrown_of (F11.out (grow (redrawn v1 d) os))
  have q12 := fun d os => Calls.regrown_of (F12.out (grow (redrawn v1 d) os))
  refine wp_region_quiet_below (by kernel_rfl) (by kernel_rfl) ?_
  repeat (first | go_big_quiet_step (first | with_reducible exact q0 _ _ | with_reducible exact q1 _ _ | with_reducible exact q2 _ _ | with_reducible exact q3 _ _ | with_reducible exact q4 _ _ | with_reducible exact q5 _ _ | with_reducible exact q6 _ _ | with_reducible exact q7 _ _ | with_reducible exact q8 _ _ | with_reducible exact q9 _ _ | with_reducible exact q10 _ _ | with_reducible exact q11 _ _ | with_reducible exact q12 _ _) | quiet_step (first | with_reducible exact q0 _ _ | with_reducible exact q1 _ _ | with_reducible exact q2 _ _ | with_reducible exact q3 _ _ | with_reducible exact q4 _ _ | with_reducible exact q5 _ _ | with_reducible exact q6 _ _ | with_reducible exact q7 _ _ | with_reducible exact q8 _ _ | with_reducible exact q9 _ _ | with_reducible exact q10 _ _ | with_reducible exact q11 _ _ | with_reducible exact q12 _ _))
  refine wpQuiet_nil ?_
  intro _ hw'
  obtain ⟨⟨dq, osq⟩, hw''⟩ := hw'
  subst hw''
  have hb := below_regrown v1 dq osq
  clear kX0 kX1 kY0 kY1 q0 q1 q2 q3 q4 q5 q6 q7 q8 q9 q10 q11 q12
  have TT := HX.out.below hb HX.out.lt; clear HX; have HX := Lib.hid TT; clear TT
  have TT := HY.out.below hb HY.out.lt; clear HY; have HY := Lib.hid TT; clear TT
  have TT := HBN.out.trans (hb.mono HBN.out.size); clear HBN; have HBN := Lib.hid TT; clear TT hb
  generalize grow (redrawn v1 dq) osq = W2q at *
  go_wp2_with fail
  go_ret
  exact ⟨rfl, HBN.out⟩
end Go.Proofs.Ytehfhconhcefbaa
