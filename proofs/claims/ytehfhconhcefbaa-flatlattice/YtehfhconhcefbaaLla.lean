import Derived.Test.YtehfhconhcefbaaAwk
import Derived.Test.YtehfhconhcefbaaFlatN
namespace Go.Proofs.Ytehfhconhcefbaa
open Go Go.RowKit Go.Sort

set_option maxRecDepth 100000 in
set_option maxHeartbeats 16000000 in
theorem lattice_law (a b c : V) (w : World) :
    Calls Try.prog 4 #[a.val, b.val, c.val] w fun e w' => e = .returned (.bool true) ∧ Below w.heap.size w w' := by
  obtain ⟨j, hj⟩ : ∃ j, join a b = j := ⟨_, rfl⟩
  have F0 := Lib.hid (fun W => Leq_any a b W)
  have F1 := Lib.hid (fun W => Leq_any b c W)
  have F2 := Lib.hid (fun W => Leq_any a c W)
  have F3 := Lib.hid (fun W => Leq_any j c W)
  rw [← hj, leq_join, hj] at F3
  have F4 := Lib.hid (fun W => Leq_any b a W)
  have F5 := Lib.hid (fun W => Join_any a a W)
  have F6 := Lib.hid (fun W => Join_any b b W)
  have F7 := Lib.hid (fun W => Sane_any j W)
  rw [show decide j.sane = true from decide_eq_true (hj ▸ join_sane a b)] at F7
  have F8 := Lib.hid (fun W => Leq_any a a W)
  rw [leq_refl] at F8
  have F9 := Lib.hid (fun W => Leq_any a j W)
  rw [show leq a j = true by rw [← hj]; exact leq_left a b] at F9
  have F10 := Lib.hid (fun W => Leq_any b j W)
  rw [show leq b j = true by rw [← hj]; exact leq_right a b] at F10
  have F11 := Lib.hid (fun W => Join_any b a W)
  rw [join_comm a b, hj] at F11
  have F12 := Lib.hid (fun W => Join_any j c W)
  have F13 := Lib.hid (fun W => Join_any b c W)
  have F14 := Lib.hid (fun W => Join_any a (join b c) W)
  rw [join_assoc a b c, hj] at F14
  have F15 := Lib.hid (fun W => Height_any a W)
  have F16 := Lib.hid (fun W => Height_any b W)
  have F17 := Lib.hid (fun W => Height_any j W)
  have HJo := Lib.hid (fun W => Join_any a b W)
  rw [hj] at HJo
  have hj2 : hgt j ≤ 2 := hgt_le2 j
  have hle : leq a b = true → hgt a ≤ hgt b := hgt_le
  have htr : leq a b = true → leq b c = true → leq a c = true := leq_trans
  have han : leq a b = true → leq b a = true → join a a = join b b := fun h1 h2 => by rw [join_self, join_self]; exact leq_antisymm h1 h2
  clear hj
  generalize join j c = jc at *
  generalize join b c = bc at *
  generalize join a a = aa at *
  generalize join b b = bb at *
  generalize hgt a = ha at *
  generalize hgt b = hb' at *
  generalize hgt j = hjj at *
  generalize leq a b = p at *
  generalize leq b c = q at *
  generalize leq a c = r at *
  generalize leq b a = t at *
  have HO0 := Lib.hid (fun W => ours_any a W)
  have HO1 := Lib.hid (fun W => ours_any b W)
  have HO2 := Lib.hid (fun W => ours_any c W)
  have Hle := Lib.hid hle
  have Htr := Lib.hid htr
  have Han := Lib.hid han
  clear hle htr han
  unfold V.val at *
  have BA := (((Box.new w (.int .i64 a.k) (.int .i64 a.c) 23).alloc (.cells #[.int .i64 b.k, .int .i64 b.c] 23)).alloc (.cells #[.int .i64 c.k, .int .i64 c.c] 23))
  have BB := ((Box.new (w.alloc (.cells #[.int .i64 a.k, .int .i64 a.c] 23)) (.int .i64 b.k) (.int .i64 b.c) 23).alloc (.cells #[.int .i64 c.k, .int .i64 c.c] 23))
  have BC := (Box.new ((w.alloc (.cells #[.int .i64 a.k, .int .i64 a.c] 23)).alloc (.cells #[.int .i64 b.k, .int .i64 b.c] 23)) (.int .i64 c.k) (.int .i64 c.c) 23)
  have hW := below3 w (.cells #[.int .i64 a.k, .int .i64 a.c] 23) (.cells #[.int .i64 b.k, .int .i64 b.c] 23) (.cells #[.int .i64 c.k, .int .i64 c.c] 23)
  simp only [World.size_alloc] at BB BC
  generalize hE : (((w.alloc (.cells #[.int .i64 a.k, .int .i64 a.c] 23)).alloc (.cells #[.int .i64 b.k, .int .i64 b.c] 23)).alloc (.cells #[.int .i64 c.k, .int .i64 c.c] 23)) = W0 at *
  have HA := Lib.hid BA
  have HB := Lib.hid BB
  have HC := Lib.hid BC
  have HBN := Lib.hid hW
  clear hW BA BB BC
  go_enter Try.func4, Try.ntmps4
  go_wp2_with fail
  refine (awake_any _).mono ?_
  rintro e w1 ⟨rfl, hb⟩
  have TT := HA.out.below hb HA.out.lt; clear HA; have HA := Lib.hid TT; clear TT
  have TT := HB.out.below hb HB.out.lt; clear HB; have HB := Lib.hid TT; clear TT
  have TT := HC.out.below hb HC.out.lt; clear HC; have HC := Lib.hid TT; clear TT
  have TT := HBN.out.trans (hb.mono HBN.out.size); clear HBN; have HBN := Lib.hid TT; clear TT hb
  clear hE
  obtain ⟨cA0, cA1, -, -⟩ := id HA.out
  go_wp2_with fail
  clear cA0 cA1
  refine (HO0.out _).mono ?_
  rintro e w2 ⟨rfl, hb⟩
  have TT := HA.out.below hb HA.out.lt; clear HA; have HA := Lib.hid TT; clear TT
  have TT := HB.out.below hb HB.out.lt; clear HB; have HB := Lib.hid TT; clear TT
  have TT := HC.out.below hb HC.out.lt; clear HC; have HC := Lib.hid TT; clear TT
  have TT := HBN.out.trans (hb.mono HBN.out.size); clear HBN; have HBN := Lib.hid TT; clear TT hb
  have TT := HA.out.alloc (.cells #[.int .i64 a.k, .int .i64 a.c] 25); clear HA; have HA := Lib.hid TT; clear TT
  have TT := HB.out.alloc (.cells #[.int .i64 a.k, .int .i64 a.c] 25); clear HB; have HB := Lib.hid TT; clear TT
  have TT := HC.out.alloc (.cells #[.int .i64 a.k, .int .i64 a.c] 25); clear HC; have HC := Lib.hid TT; clear TT
  have HX := Lib.hid (Box.new w2 (.int .i64 a.k) (.int .i64 a.c) 25)
  have TT := HBN.out.trans (((Below.refl w2.heap.size w2).alloc (Nat.le_refl _) (.cells #[.int .i64 a.k, .int .i64 a.c] 25)).mono HBN.out.size); clear HBN; have HBN := Lib.hid TT; clear TT
  obtain ⟨cB0, cB1, -, -⟩ := id HB.out
  go_wp2_with fail
  clear cB0 cB1
  obtain ⟨bX, hbb⟩ : ∃ b, w2.heap.size = b := ⟨_, rfl⟩
  rw [hbb]
  rw [hbb] at HX
  clear hbb
  generalize w2.alloc (.cells #[.int .i64 a.k, .int .i64 a.c] 25) = y2 at *
  refine (HO1.out _).mono ?_
  rintro e w3 ⟨rfl, hb⟩
  have TT := HA.out.below hb HA.out.lt; clear HA; have HA := Lib.hid TT; clear TT
  have TT := HB.out.below hb HB.out.lt; clear HB; have HB := Lib.hid TT; clear TT
  have TT := HC.out.below hb HC.out.lt; clear HC; have HC := Lib.hid TT; clear TT
  have TT := HX.out.below hb HX.out.lt; clear HX; have HX := Lib.hid TT; clear TT
  have TT := HBN.out.trans (hb.mono HBN.out.size); clear HBN; have HBN := Lib.hid TT; clear TT hb
  have TT := HA.out.alloc (.cells #[.int .i64 b.k, .int .i64 b.c] 25); clear HA; have HA := Lib.hid TT; clear TT
  have TT := HB.out.alloc (.cells #[.int .i64 b.k, .int .i64 b.c] 25); clear HB; have HB := Lib.hid TT; clear TT
  have TT := HC.out.alloc (.cells #[.int .i64 b.k, .int .i64 b.c] 25); clear HC; have HC := Lib.hid TT; clear TT
  have TT := HX.out.alloc (.cells #[.int .i64 b.k, .int .i64 b.c] 25); clear HX; have HX := Lib.hid TT; clear TT
  have HY := Lib.hid (Box.new w3 (.int .i64 b.k) (.int .i64 b.c) 25)
  have TT := HBN.out.trans (((Below.refl w3.heap.size w3).alloc (Nat.le_refl _) (.cells #[.int .i64 b.k, .int .i64 b.c] 25)).mono HBN.out.size); clear HBN; have HBN := Lib.hid TT; clear TT
  obtain ⟨cC0, cC1, -, -⟩ := id HC.out
  go_wp2_with fail
  clear cC0 cC1
  obtain ⟨bY, hbb⟩ : ∃ b, w3.heap.size = b := ⟨_, rfl⟩
  rw [hbb]
  rw [hbb] at HY
  clear hbb
  generalize w3.alloc (.cells #[.int .i64 b.k, .int .i64 b.c] 25) = y3 at *
  refine (HO2.out _).mono ?_
  rintro e w4 ⟨rfl, hb⟩
  have TT := HA.out.below hb HA.out.lt; clear HA; have HA := Lib.hid TT; clear TT
  have TT := HB.out.below hb HB.out.lt; clear HB; have HB := Lib.hid TT; clear TT
  have TT := HC.out.below hb HC.out.lt; clear HC; have HC := Lib.hid TT; clear TT
  have TT := HX.out.below hb HX.out.lt; clear HX; have HX := Lib.hid TT; clear TT
  have TT := HY.out.below hb HY.out.lt; clear HY; have HY := Lib.hid TT; clear TT
  have TT := HBN.out.trans (hb.mono HBN.out.size); clear HBN; have HBN := Lib.hid TT; clear TT hb
  have TT := HA.out.alloc (.cells #[.int .i64 c.k, .int .i64 c.c] 25); clear HA; have HA := Lib.hid TT; clear TT
  have TT := HB.out.alloc (.cells #[.int .i64 c.k, .int .i64 c.c] 25); clear HB; have HB := Lib.hid TT; clear TT
  have TT := HC.out.alloc (.cells #[.int .i64 c.k, .int .i64 c.c] 25); clear HC; have HC := Lib.hid TT; clear TT
  have TT := HX.out.alloc (.cells #[.int .i64 c.k, .int .i64 c.c] 25); clear HX; have HX := Lib.hid TT; clear TT
  have TT := HY.out.alloc (.cells #[.int .i64 c.k, .int .i64 c.c] 25); clear HY; have HY := Lib.hid TT; clear TT
  have HZ := Lib.hid (Box.new w4 (.int .i64 c.k) (.int .i64 c.c) 25)
  have TT := HBN.out.trans (((Below.refl w4.heap.size w4).alloc (Nat.le_refl _) (.cells #[.int .i64 c.k, .int .i64 c.c] 25)).mono HBN.out.size); clear HBN; have HBN := Lib.hid TT; clear TT
  obtain ⟨cX0, cX1, -, -⟩ := id HX.out
  obtain ⟨cY0, cY1, -, -⟩ := id HY.out
  go_wp2_with fail
  clear cX0 cX1 cY0 cY1
  obtain ⟨bZ, hbb⟩ : ∃ b, w4.heap.size = b := ⟨_, rfl⟩
  rw [hbb]
  rw [hbb] at HZ
  clear hbb
  generalize w4.alloc (.cells #[.int .i64 c.k, .int .i64 c.c] 25) = y4 at *
  refine (HJo.out _).mono ?_
  rintro e w5 ⟨rfl, hb⟩
  have TT := HA.out.below hb HA.out.lt; clear HA; have HA := Lib.hid TT; clear TT
  have TT := HB.out.below hb HB.out.lt; clear HB; have HB := Lib.hid TT; clear TT
  have TT := HC.out.below hb HC.out.lt; clear HC; have HC := Lib.hid TT; clear TT
  have TT := HX.out.below hb HX.out.lt; clear HX; have HX := Lib.hid TT; clear TT
  have TT := HY.out.below hb HY.out.lt; clear HY; have HY := Lib.hid TT; clear TT
  have TT := HZ.out.below hb HZ.out.lt; clear HZ; have HZ := Lib.hid TT; clear TT
  have TT := HBN.out.trans (hb.mono HBN.out.size); clear HBN; have HBN := Lib.hid TT; clear TT hb
  have TT := HA.out.alloc (.cells #[.int .i64 j.k, .int .i64 j.c] 25); clear HA; have HA := Lib.hid TT; clear TT
  have TT := HB.out.alloc (.cells #[.int .i64 j.k, .int .i64 j.c] 25); clear HB; have HB := Lib.hid TT; clear TT
  have TT := HC.out.alloc (.cells #[.int .i64 j.k, .int .i64 j.c] 25); clear HC; have HC := Lib.hid TT; clear TT
  have TT := HX.out.alloc (.cells #[.int .i64 j.k, .int .i64 j.c] 25); clear HX; have HX := Lib.hid TT; clear TT
  have TT := HY.out.alloc (.cells #[.int .i64 j.k, .int .i64 j.c] 25); clear HY; have HY := Lib.hid TT; clear TT
  have TT := HZ.out.alloc (.cells #[.int .i64 j.k, .int .i64 j.c] 25); clear HZ; have HZ := Lib.hid TT; clear TT
  have HJ := Lib.hid (Box.new w5 (.int .i64 j.k) (.int .i64 j.c) 25)
  have TT := HBN.out.trans (((Below.refl w5.heap.size w5).alloc (Nat.le_refl _) (.cells #[.int .i64 j.k, .int .i64 j.c] 25)).mono HBN.out.size); clear HBN; have HBN := Lib.hid TT; clear TT
  go_upto_region 6 with fail
  obtain ⟨bJ, hbb⟩ : ∃ b, w5.heap.size = b := ⟨_, rfl⟩
  rw [hbb]
  rw [hbb] at HJ
  clear hbb
  generalize w5.alloc (.cells #[.int .i64 j.k, .int .i64 j.c] 25) = y5 at *
  go_cut [68] (fun s wx => s = .bool false ∧ Box wx (bX) (.int .i64 a.k) (.int .i64 a.c) ∧ Box wx (bY) (.int .i64 b.k) (.int .i64 b.c) ∧ Box wx (bZ) (.int .i64 c.k) (.int .i64 c.c) ∧ Box wx (bJ) (.int .i64 j.k) (.int .i64 j.c) ∧ Below w.heap.size w wx)
  case first =>
    clear F7 F8 F9 F10 F11 F12 F13 F14 F15 F16 F17 Hle hj2
    cases p with
    | false =>
      cases q with
      | false =>
        cases r with
        | false =>
          rw [show (false && false) = false from rfl] at F3
          clear Han Htr
          have kX0 := cell_regrown HX.out.c0
          have kX1 := cell_regrown HX.out.c1
          have kY0 := cell_regrown HY.out.c0
          have kY1 := cell_regrown HY.out.c1
          have kZ0 := cell_regrown HZ.out.c0
          have kZ1 := cell_regrown HZ.out.c1
          have kJ0 := cell_regrown HJ.out.c0
          have kJ1 := cell_regrown HJ.out.c1
          have q0 := fun d os => Calls.regrown_of (F0.out (grow (redrawn y5 d) os))
          have q1 := fun d os => Calls.regrown_of (F1.out (grow (redrawn y5 d) os))
          have q2 := fun d os => Calls.regrown_of (F2.out (grow (redrawn y5 d) os))
          have q3 := fun d os => Calls.regrown_of (F3.out (grow (redrawn y5 d) os))
          have q4 := fun d os => Calls.regrown_of (F4.out (grow (redrawn y5 d) os))
          have q5 := fun d os => Calls.regrown_of (F5.out (grow (redrawn y5 d) os))
          have q6 := fun d os => Calls.regrown_of (F6.out (grow (redrawn y5 d) os))
          refine wp_region_quiet_below (by kernel_rfl) (by kernel_rfl) ?_
          repeat (first | go_big_quiet_step (first | with_reducible exact q0 _ _ | with_reducible exact q1 _ _ | with_reducible exact q2 _ _ | with_reducible exact q3 _ _ | with_reducible exact q4 _ _ | with_reducible exact q5 _ _ | with_reducible exact q6 _ _) | quiet_step (first | with_reducible exact q0 _ _ | with_reducible exact q1 _ _ | with_reducible exact q2 _ _ | with_reducible exact q3 _ _ | with_reducible exact q4 _ _ | with_reducible exact q5 _ _ | with_reducible exact q6 _ _))
          refine wpQuiet_nil ?_
          intro _ hw'
          obtain ⟨⟨dq, osq⟩, hw''⟩ := hw'
          subst hw''
          have hb := below_regrown y5 dq osq
          clear kX0 kX1 kY0 kY1 kZ0 kZ1 kJ0 kJ1 q0 q1 q2 q3 q4 q5 q6
          have TT := HA.out.below hb HA.out.lt; clear HA; have HA := Lib.hid TT; clear TT
          have TT := HB.out.below hb HB.out.lt; clear HB; have HB := Lib.hid TT; clear TT
          have TT := HC.out.below hb HC.out.lt; clear HC; have HC := Lib.hid TT; clear TT
          have TT := HX.out.below hb HX.out.lt; clear HX; have HX := Lib.hid TT; clear TT
          have TT := HY.out.below hb HY.out.lt; clear HY; have HY := Lib.hid TT; clear TT
          have TT := HZ.out.below hb HZ.out.lt; clear HZ; have HZ := Lib.hid TT; clear TT
          have TT := HJ.out.below hb HJ.out.lt; clear HJ; have HJ := Lib.hid TT; clear TT
          have TT := HBN.out.trans (hb.mono HBN.out.size); clear HBN; have HBN := Lib.hid TT; clear TT hb
          generalize grow (redrawn y5 dq) osq = W1q at *
          go_wp2_with fail
          go_meet
          exact ⟨rfl, HX.out, HY.out, HZ.out, HJ.out, HBN.out⟩
        | true =>
          rw [show (true && false) = false from rfl] at F3
          clear Han Htr
          have kX0 := cell_regrown HX.out.c0
          have kX1 := cell_regrown HX.out.c1
          have kY0 := cell_regrown HY.out.c0
          have kY1 := cell_regrown HY.out.c1
          have kZ0 := cell_regrown HZ.out.c0
          have kZ1 := cell_regrown HZ.out.c1
          have kJ0 := cell_regrown HJ.out.c0
          have kJ1 := cell_regrown HJ.out.c1
          have q0 := fun d os => Calls.regrown_of (F0.out (grow (redrawn y5 d) os))
          have q1 := fun d os => Calls.regrown_of (F1.out (grow (redrawn y5 d) os))
          have q2 := fun d os => Calls.regrown_of (F2.out (grow (redrawn y5 d) os))
          have q3 := fun d os => Calls.regrown_of (F3.out (grow (redrawn y5 d) os))
          have q4 := fun d os => Calls.regrown_of (F4.out (grow (redrawn y5 d) os))
          have q5 := fun d os => Calls.regrown_of (F5.out (grow (redrawn y5 d) os))
          have q6 := fun d os => Calls.regrown_of (F6.out (grow (redrawn y5 d) os))
          refine wp_region_quiet_below (by kernel_rfl) (by kernel_rfl) ?_
          repeat (first | go_big_quiet_step (first | with_reducible exact q0 _ _ | with_reducible exact q1 _ _ | with_reducible exact q2 _ _ | with_reducible exact q3 _ _ | with_reducible exact q4 _ _ | with_reducible exact q5 _ _ | with_reducible exact q6 _ _) | quiet_step (first | with_reducible exact q0 _ _ | with_reducible exact q1 _ _ | with_reducible exact q2 _ _ | with_reducible exact q3 _ _ | with_reducible exact q4 _ _ | with_reducible exact q5 _ _ | with_reducible exact q6 _ _))
          refine wpQuiet_nil ?_
          intro _ hw'
          obtain ⟨⟨dq, osq⟩, hw''⟩ := hw'
          subst hw''
          have hb := below_regrown y5 dq osq
          clear kX0 kX1 kY0 kY1 kZ0 kZ1 kJ0 kJ1 q0 q1 q2 q3 q4 q5 q6
          have TT := HA.out.below hb HA.out.lt; clear HA; have HA := Lib.hid TT; clear TT
          have TT := HB.out.below hb HB.out.lt; clear HB; have HB := Lib.hid TT; clear TT
          have TT := HC.out.below hb HC.out.lt; clear HC; have HC := Lib.hid TT; clear TT
          have TT := HX.out.below hb HX.out.lt; clear HX; have HX := Lib.hid TT; clear TT
          have TT := HY.out.below hb HY.out.lt; clear HY; have HY := Lib.hid TT; clear TT
          have TT := HZ.out.below hb HZ.out.lt; clear HZ; have HZ := Lib.hid TT; clear TT
          have TT := HJ.out.below hb HJ.out.lt; clear HJ; have HJ := Lib.hid TT; clear TT
          have TT := HBN.out.trans (hb.mono HBN.out.size); clear HBN; have HBN := Lib.hid TT; clear TT hb
          generalize grow (redrawn y5 dq) osq = W2q at *
          go_wp2_with fail
          go_meet
          exact ⟨rfl, HX.out, HY.out, HZ.out, HJ.out, HBN.out⟩
      | true =>
        cases r with
        | false =>
          rw [show (false && true) = false from rfl] at F3
          clear Han Htr
          have kX0 := cell_regrown HX.out.c0
          have kX1 := cell_regrown HX.out.c1
          have kY0 := cell_regrown HY.out.c0
          have kY1 := cell_regrown HY.out.c1
          have kZ0 := cell_regrown HZ.out.c0
          have kZ1 := cell_regrown HZ.out.c1
          have kJ0 := cell_regrown HJ.out.c0
          have kJ1 := cell_regrown HJ.out.c1
          have q0 := fun d os => Calls.regrown_of (F0.out (grow (redrawn y5 d) os))
          have q1 := fun d os => Calls.regrown_of (F1.out (grow (redrawn y5 d) os))
          have q2 := fun d os => Calls.regrown_of (F2.out (grow (redrawn y5 d) os))
          have q3 := fun d os => Calls.regrown_of (F3.out (grow (redrawn y5 d) os))
          have q4 := fun d os => Calls.regrown_of (F4.out (grow (redrawn y5 d) os))
          have q5 := fun d os => Calls.regrown_of (F5.out (grow (redrawn y5 d) os))
          have q6 := fun d os => Calls.regrown_of (F6.out (grow (redrawn y5 d) os))
          refine wp_region_quiet_below (by kernel_rfl) (by kernel_rfl) ?_
          repeat (first | go_big_quiet_step (first | with_reducible exact q0 _ _ | with_reducible exact q1 _ _ | with_reducible exact q2 _ _ | with_reducible exact q3 _ _ | with_reducible exact q4 _ _ | with_reducible exact q5 _ _ | with_reducible exact q6 _ _) | quiet_step (first | with_reducible exact q0 _ _ | with_reducible exact q1 _ _ | with_reducible exact q2 _ _ | with_reducible exact q3 _ _ | with_reducible exact q4 _ _ | with_reducible exact q5 _ _ | with_reducible exact q6 _ _))
          refine wpQuiet_nil ?_
          intro _ hw'
          obtain ⟨⟨dq, osq⟩, hw''⟩ := hw'
          subst hw''
          have hb := below_regrown y5 dq osq
          clear kX0 kX1 kY0 kY1 kZ0 kZ1 kJ0 kJ1 q0 q1 q2 q3 q4 q5 q6
          have TT := HA.out.below hb HA.out.lt; clear HA; have HA := Lib.hid TT; clear TT
          have TT := HB.out.below hb HB.out.lt; clear HB; have HB := Lib.hid TT; clear TT
          have TT := HC.out.below hb HC.out.lt; clear HC; have HC := Lib.hid TT; clear TT
          have TT := HX.out.below hb HX.out.lt; clear HX; have HX := Lib.hid TT; clear TT
          have TT := HY.out.below hb HY.out.lt; clear HY; have HY := Lib.hid TT; clear TT
          have TT := HZ.out.below hb HZ.out.lt; clear HZ; have HZ := Lib.hid TT; clear TT
          have TT := HJ.out.below hb HJ.out.lt; clear HJ; have HJ := Lib.hid TT; clear TT
          have TT := HBN.out.trans (hb.mono HBN.out.size); clear HBN; have HBN := Lib.hid TT; clear TT hb
          generalize grow (redrawn y5 dq) osq = W3q at *
          go_wp2_with fail
          go_meet
          exact ⟨rfl, HX.out, HY.out, HZ.out, HJ.out, HBN.out⟩
        | true =>
          rw [show (true && true) = true from rfl] at F3
          clear Han Htr
          have kX0 := cell_regrown HX.out.c0
          have kX1 := cell_regrown HX.out.c1
          have kY0 := cell_regrown HY.out.c0
          have kY1 := cell_regrown HY.out.c1
          have kZ0 := cell_regrown HZ.out.c0
          have kZ1 := cell_regrown HZ.out.c1
          have kJ0 := cell_regrown HJ.out.c0
          have kJ1 := cell_regrown HJ.out.c1
          have q0 := fun d os => Calls.regrown_of (F0.out (grow (redrawn y5 d) os))
          have q1 := fun d os => Calls.regrown_of (F1.out (grow (redrawn y5 d) os))
          have q2 := fun d os => Calls.regrown_of (F2.out (grow (redrawn y5 d) os))
          have q3 := fun d os => Calls.regrown_of (F3.out (grow (redrawn y5 d) os))
          have q4 := fun d os => Calls.regrown_of (F4.out (grow (redrawn y5 d) os))
          have q5 := fun d os => Calls.regrown_of (F5.out (grow (redrawn y5 d) os))
          have q6 := fun d os => Calls.regrown_of (F6.out (grow (redrawn y5 d) os))
          refine wp_region_quiet_below (by kernel_rfl) (by kernel_rfl) ?_
          repeat (first | go_big_quiet_step (first | with_reducible exact q0 _ _ | with_reducible exact q1 _ _ | with_reducible exact q2 _ _ | with_reducible exact q3 _ _ | with_reducible exact q4 _ _ | with_reducible exact q5 _ _ | with_reducible exact q6 _ _) | quiet_step (first | with_reducible exact q0 _ _ | with_reducible exact q1 _ _ | with_reducible exact q2 _ _ | with_reducible exact q3 _ _ | with_reducible exact q4 _ _ | with_reducible exact q5 _ _ | with_reducible exact q6 _ _))
          refine wpQuiet_nil ?_
          intro _ hw'
          obtain ⟨⟨dq, osq⟩, hw''⟩ := hw'
          subst hw''
          have hb := below_regrown y5 dq osq
          clear kX0 kX1 kY0 kY1 kZ0 kZ1 kJ0 kJ1 q0 q1 q2 q3 q4 q5 q6
          have TT := HA.out.below hb HA.out.lt; clear HA; have HA := Lib.hid TT; clear TT
          have TT := HB.out.below hb HB.out.lt; clear HB; have HB := Lib.hid TT; clear TT
          have TT := HC.out.below hb HC.out.lt; clear HC; have HC := Lib.hid TT; clear TT
          have TT := HX.out.below hb HX.out.lt; clear HX; have HX := Lib.hid TT; clear TT
          have TT := HY.out.below hb HY.out.lt; clear HY; have HY := Lib.hid TT; clear TT
          have TT := HZ.out.below hb HZ.out.lt; clear HZ; have HZ := Lib.hid TT; clear TT
          have TT := HJ.out.below hb HJ.out.lt; clear HJ; have HJ := Lib.hid TT; clear TT
          have TT := HBN.out.trans (hb.mono HBN.out.size); clear HBN; have HBN := Lib.hid TT; clear TT hb
          generalize grow (redrawn y5 dq) osq = W4q at *
          go_wp2_with fail
          go_meet
          exact ⟨rfl, HX.out, HY.out, HZ.out, HJ.out, HBN.out⟩
    | true =>
      cases q with
      | false =>
        cases r with
        | false =>
          cases t with
          | false =>
            rw [show (false && false) = false from rfl] at F3
            clear Han Htr
            have kX0 := cell_regrown HX.out.c0
            have kX1 := cell_regrown HX.out.c1
            have kY0 := cell_regrown HY.out.c0
            have kY1 := cell_regrown HY.out.c1
            have kZ0 := cell_regrown HZ.out.c0
            have kZ1 := cell_regrown HZ.out.c1
            have kJ0 := cell_regrown HJ.out.c0
            have kJ1 := cell_regrown HJ.out.c1
            have q0 := fun d os => Calls.regrown_of (F0.out (grow (redrawn y5 d) os))
            have q1 := fun d os => Calls.regrown_of (F1.out (grow (redrawn y5 d) os))
            have q2 := fun d os => Calls.regrown_of (F2.out (grow (redrawn y5 d) os))
            have q3 := fun d os => Calls.regrown_of (F3.out (grow (redrawn y5 d) os))
            have q4 := fun d os => Calls.regrown_of (F4.out (grow (redrawn y5 d) os))
            have q5 := fun d os => Calls.regrown_of (F5.out (grow (redrawn y5 d) os))
            have q6 := fun d os => Calls.regrown_of (F6.out (grow (redrawn y5 d) os))
            refine wp_region_quiet_below (by kernel_rfl) (by kernel_rfl) ?_
            repeat (first | go_big_quiet_step (first | with_reducible exact q0 _ _ | with_reducible exact q1 _ _ | with_reducible exact q2 _ _ | with_reducible exact q3 _ _ | with_reducible exact q4 _ _ | with_reducible exact q5 _ _ | with_reducible exact q6 _ _) | quiet_step (first | with_reducible exact q0 _ _ | with_reducible exact q1 _ _ | with_reducible exact q2 _ _ | with_reducible exact q3 _ _ | with_reducible exact q4 _ _ | with_reducible exact q5 _ _ | with_reducible exact q6 _ _))
            refine wpQuiet_nil ?_
            intro _ hw'
            obtain ⟨⟨dq, osq⟩, hw''⟩ := hw'
            subst hw''
            have hb := below_regrown y5 dq osq
            clear kX0 kX1 kY0 kY1 kZ0 kZ1 kJ0 kJ1 q0 q1 q2 q3 q4 q5 q6
            have TT := HA.out.below hb HA.out.lt; clear HA; have HA := Lib.hid TT; clear TT
            have TT := HB.out.below hb HB.out.lt; clear HB; have HB := Lib.hid TT; clear TT
            have TT := HC.out.below hb HC.out.lt; clear HC; have HC := Lib.hid TT; clear TT
            have TT := HX.out.below hb HX.out.lt; clear HX; have HX := Lib.hid TT; clear TT
            have TT := HY.out.below hb HY.out.lt; clear HY; have HY := Lib.hid TT; clear TT
            have TT := HZ.out.below hb HZ.out.lt; clear HZ; have HZ := Lib.hid TT; clear TT
            have TT := HJ.out.below hb HJ.out.lt; clear HJ; have HJ := Lib.hid TT; clear TT
            have TT := HBN.out.trans (hb.mono HBN.out.size); clear HBN; have HBN := Lib.hid TT; clear TT hb
            generalize grow (redrawn y5 dq) osq = W5q at *
            go_wp2_with fail
            go_meet
            exact ⟨rfl, HX.out, HY.out, HZ.out, HJ.out, HBN.out⟩
          | true =>
            rw [show (false && false) = false from rfl] at F3
            obtain rfl := Han.out rfl rfl
            clear Han Htr
            have kX0 := cell_regrown HX.out.c0
            have kX1 := cell_regrown HX.out.c1
            have kY0 := cell_regrown HY.out.c0
            have kY1 := cell_regrown HY.out.c1
            have kZ0 := cell_regrown HZ.out.c0
            have kZ1 := cell_regrown HZ.out.c1
            have kJ0 := cell_regrown HJ.out.c0
            have kJ1 := cell_regrown HJ.out.c1
            have q0 := fun d os => Calls.regrown_of (F0.out (grow (redrawn y5 d) os))
            have q1 := fun d os => Calls.regrown_of (F1.out (grow (redrawn y5 d) os))
            have q2 := fun d os => Calls.regrown_of (F2.out (grow (redrawn y5 d) os))
            have q3 := fun d os => Calls.regrown_of (F3.out (grow (redrawn y5 d) os))
            have q4 := fun d os => Calls.regrown_of (F4.out (grow (redrawn y5 d) os))
            have q5 := fun d os => Calls.regrown_of (F5.out (grow (redrawn y5 d) os))
            have q6 := fun d os => Calls.regrown_of (F6.out (grow (redrawn y5 d) os))
            refine wp_region_quiet_below (by kernel_rfl) (by kernel_rfl) ?_
            repeat (first | go_big_quiet_step (first | with_reducible exact q0 _ _ | with_reducible exact q1 _ _ | with_reducible exact q2 _ _ | with_reducible exact q3 _ _ | with_reducible exact q4 _ _ | with_reducible exact q5 _ _ | with_reducible exact q6 _ _) | quiet_step (first | with_reducible exact q0 _ _ | with_reducible exact q1 _ _ | with_reducible exact q2 _ _ | with_reducible exact q3 _ _ | with_reducible exact q4 _ _ | with_reducible exact q5 _ _ | with_reducible exact q6 _ _))
            refine wpQuiet_nil ?_
            intro _ hw'
            obtain ⟨⟨dq, osq⟩, hw''⟩ := hw'
            subst hw''
            have hb := below_regrown y5 dq osq
            clear kX0 kX1 kY0 kY1 kZ0 kZ1 kJ0 kJ1 q0 q1 q2 q3 q4 q5 q6
            have TT := HA.out.below hb HA.out.lt; clear HA; have HA := Lib.hid TT; clear TT
            have TT := HB.out.below hb HB.out.lt; clear HB; have HB := Lib.hid TT; clear TT
            have TT := HC.out.below hb HC.out.lt; clear HC; have HC := Lib.hid TT; clear TT
            have TT := HX.out.below hb HX.out.lt; clear HX; have HX := Lib.hid TT; clear TT
            have TT := HY.out.below hb HY.out.lt; clear HY; have HY := Lib.hid TT; clear TT
            have TT := HZ.out.below hb HZ.out.lt; clear HZ; have HZ := Lib.hid TT; clear TT
            have TT := HJ.out.below hb HJ.out.lt; clear HJ; have HJ := Lib.hid TT; clear TT
            have TT := HBN.out.trans (hb.mono HBN.out.size); clear HBN; have HBN := Lib.hid TT; clear TT hb
            generalize grow (redrawn y5 dq) osq = W6q at *
            go_wp2_with fail
            go_meet
            exact ⟨rfl, HX.out, HY.out, HZ.out, HJ.out, HBN.out⟩
        | true =>
          cases t with
          | false =>
            rw [show (true && false) = false from rfl] at F3
            clear Han Htr
            have kX0 := cell_regrown HX.out.c0
            have kX1 := cell_regrown HX.out.c1
            have kY0 := cell_regrown HY.out.c0
            have kY1 := cell_regrown HY.out.c1
            have kZ0 := cell_regrown HZ.out.c0
            have kZ1 := cell_regrown HZ.out.c1
            have kJ0 := cell_regrown HJ.out.c0
            have kJ1 := cell_regrown HJ.out.c1
            have q0 := fun d os => Calls.regrown_of (F0.out (grow (redrawn y5 d) os))
            have q1 := fun d os => Calls.regrown_of (F1.out (grow (redrawn y5 d) os))
            have q2 := fun d os => Calls.regrown_of (F2.out (grow (redrawn y5 d) os))
            have q3 := fun d os => Calls.regrown_of (F3.out (grow (redrawn y5 d) os))
            have q4 := fun d os => Calls.regrown_of (F4.out (grow (redrawn y5 d) os))
            have q5 := fun d os => Calls.regrown_of (F5.out (grow (redrawn y5 d) os))
            have q6 := fun d os => Calls.regrown_of (F6.out (grow (redrawn y5 d) os))
            refine wp_region_quiet_below (by kernel_rfl) (by kernel_rfl) ?_
            repeat (first | go_big_quiet_step (first | with_reducible exact q0 _ _ | with_reducible exact q1 _ _ | with_reducible exact q2 _ _ | with_reducible exact q3 _ _ | with_reducible exact q4 _ _ | with_reducible exact q5 _ _ | with_reducible exact q6 _ _) | quiet_step (first | with_reducible exact q0 _ _ | with_reducible exact q1 _ _ | with_reducible exact q2 _ _ | with_reducible exact q3 _ _ | with_reducible exact q4 _ _ | with_reducible exact q5 _ _ | with_reducible exact q6 _ _))
            refine wpQuiet_nil ?_
            intro _ hw'
            obtain ⟨⟨dq, osq⟩, hw''⟩ := hw'
            subst hw''
            have hb := below_regrown y5 dq osq
            clear kX0 kX1 kY0 kY1 kZ0 kZ1 kJ0 kJ1 q0 q1 q2 q3 q4 q5 q6
            have TT := HA.out.below hb HA.out.lt; clear HA; have HA := Lib.hid TT; clear TT
            have TT := HB.out.below hb HB.out.lt; clear HB; have HB := Lib.hid TT; clear TT
            have TT := HC.out.below hb HC.out.lt; clear HC; have HC := Lib.hid TT; clear TT
            have TT := HX.out.below hb HX.out.lt; clear HX; have HX := Lib.hid TT; clear TT
            have TT := HY.out.below hb HY.out.lt; clear HY; have HY := Lib.hid TT; clear TT
            have TT := HZ.out.below hb HZ.out.lt; clear HZ; have HZ := Lib.hid TT; clear TT
            have TT := HJ.out.below hb HJ.out.lt; clear HJ; have HJ := Lib.hid TT; clear TT
            have TT := HBN.out.trans (hb.mono HBN.out.size); clear HBN; have HBN := Lib.hid TT; clear TT hb
            generalize grow (redrawn y5 dq) osq = W7q at *
            go_wp2_with fail
            go_meet
            exact ⟨rfl, HX.out, HY.out, HZ.out, HJ.out, HBN.out⟩
          | true =>
            rw [show (true && false) = false from rfl] at F3
            obtain rfl := Han.out rfl rfl
            clear Han Htr
            have kX0 := cell_regrown HX.out.c0
            have kX1 := cell_regrown HX.out.c1
            have kY0 := cell_regrown HY.out.c0
            have kY1 := cell_regrown HY.out.c1
            have kZ0 := cell_regrown HZ.out.c0
            have kZ1 := cell_regrown HZ.out.c1
            have kJ0 := cell_regrown HJ.out.c0
            have kJ1 := cell_regrown HJ.out.c1
            have q0 := fun d os => Calls.regrown_of (F0.out (grow (redrawn y5 d) os))
            have q1 := fun d os => Calls.regrown_of (F1.out (grow (redrawn y5 d) os))
            have q2 := fun d os => Calls.regrown_of (F2.out (grow (redrawn y5 d) os))
            have q3 := fun d os => Calls.regrown_of (F3.out (grow (redrawn y5 d) os))
            have q4 := fun d os => Calls.regrown_of (F4.out (grow (redrawn y5 d) os))
            have q5 := fun d os => Calls.regrown_of (F5.out (grow (redrawn y5 d) os))
            have q6 := fun d os => Calls.regrown_of (F6.out (grow (redrawn y5 d) os))
            refine wp_region_quiet_below (by kernel_rfl) (by kernel_rfl) ?_
            repeat (first | go_big_quiet_step (first | with_reducible exact q0 _ _ | with_reducible exact q1 _ _ | with_reducible exact q2 _ _ | with_reducible exact q3 _ _ | with_reducible exact q4 _ _ | with_reducible exact q5 _ _ | with_reducible exact q6 _ _) | quiet_step (first | with_reducible exact q0 _ _ | with_reducible exact q1 _ _ | with_reducible exact q2 _ _ | with_reducible exact q3 _ _ | with_reducible exact q4 _ _ | with_reducible exact q5 _ _ | with_reducible exact q6 _ _))
            refine wpQuiet_nil ?_
            intro _ hw'
            obtain ⟨⟨dq, osq⟩, hw''⟩ := hw'
            subst hw''
            have hb := below_regrown y5 dq osq
            clear kX0 kX1 kY0 kY1 kZ0 kZ1 kJ0 kJ1 q0 q1 q2 q3 q4 q5 q6
            have TT := HA.out.below hb HA.out.lt; clear HA; have HA := Lib.hid TT; clear TT
            have TT := HB.out.below hb HB.out.lt; clear HB; have HB := Lib.hid TT; clear TT
            have TT := HC.out.below hb HC.out.lt; clear HC; have HC := Lib.hid TT; clear TT
            have TT := HX.out.below hb HX.out.lt; clear HX; have HX := Lib.hid TT; clear TT
            have TT := HY.out.below hb HY.out.lt; clear HY; have HY := Lib.hid TT; clear TT
            have TT := HZ.out.below hb HZ.out.lt; clear HZ; have HZ := Lib.hid TT; clear TT
            have TT := HJ.out.below hb HJ.out.lt; clear HJ; have HJ := Lib.hid TT; clear TT
            have TT := HBN.out.trans (hb.mono HBN.out.size); clear HBN; have HBN := Lib.hid TT; clear TT hb
            generalize grow (redrawn y5 dq) osq = W8q at *
            go_wp2_with fail
            go_meet
            exact ⟨rfl, HX.out, HY.out, HZ.out, HJ.out, HBN.out⟩
      | true =>
        cases r with
        | false =>
          exact absurd (Htr.out rfl rfl) (by decide)
        | true =>
          cases t with
          | false =>
            rw [show (true && true) = true from rfl] at F3
            clear Han Htr
            have kX0 := cell_regrown HX.out.c0
            have kX1 := cell_regrown HX.out.c1
            have kY0 := cell_regrown HY.out.c0
            have kY1 := cell_regrown HY.out.c1
            have kZ0 := cell_regrown HZ.out.c0
            have kZ1 := cell_regrown HZ.out.c1
            have kJ0 := cell_regrown HJ.out.c0
            have kJ1 := cell_regrown HJ.out.c1
            have q0 := fun d os => Calls.regrown_of (F0.out (grow (redrawn y5 d) os))
            have q1 := fun d os => Calls.regrown_of (F1.out (grow (redrawn y5 d) os))
            have q2 := fun d os => Calls.regrown_of (F2.out (grow (redrawn y5 d) os))
            have q3 := fun d os => Calls.regrown_of (F3.out (grow (redrawn y5 d) os))
            have q4 := fun d os => Calls.regrown_of (F4.out (grow (redrawn y5 d) os))
            have q5 := fun d os => Calls.regrown_of (F5.out (grow (redrawn y5 d) os))
            have q6 := fun d os => Calls.regrown_of (F6.out (grow (redrawn y5 d) os))
            refine wp_region_quiet_below (by kernel_rfl) (by kernel_rfl) ?_
            repeat (first | go_big_quiet_step (first | with_reducible exact q0 _ _ | with_reducible exact q1 _ _ | with_reducible exact q2 _ _ | with_reducible exact q3 _ _ | with_reducible exact q4 _ _ | with_reducible exact q5 _ _ | with_reducible exact q6 _ _) | quiet_step (first | with_reducible exact q0 _ _ | with_reducible exact q1 _ _ | with_reducible exact q2 _ _ | with_reducible exact q3 _ _ | with_reducible exact q4 _ _ | with_reducible exact q5 _ _ | with_reducible exact q6 _ _))
            refine wpQuiet_nil ?_
            intro _ hw'
            obtain ⟨⟨dq, osq⟩, hw''⟩ := hw'
            subst hw''
            have hb := below_regrown y5 dq osq
            clear kX0 kX1 kY0 kY1 kZ0 kZ1 kJ0 kJ1 q0 q1 q2 q3 q4 q5 q6
            have TT := HA.out.below hb HA.out.lt; clear HA; have HA := Lib.hid TT; clear TT
            have TT := HB.out.below hb HB.out.lt; clear HB; have HB := Lib.hid TT; clear TT
            have TT := HC.out.below hb HC.out.lt; clear HC; have HC := Lib.hid TT; clear TT
            have TT := HX.out.below hb HX.out.lt; clear HX; have HX := Lib.hid TT; clear TT
            have TT := HY.out.below hb HY.out.lt; clear HY; have HY := Lib.hid TT; clear TT
            have TT := HZ.out.below hb HZ.out.lt; clear HZ; have HZ := Lib.hid TT; clear TT
            have TT := HJ.out.below hb HJ.out.lt; clear HJ; have HJ := Lib.hid TT; clear TT
            have TT := HBN.out.trans (hb.mono HBN.out.size); clear HBN; have HBN := Lib.hid TT; clear TT hb
            generalize grow (redrawn y5 dq) osq = W9q at *
            go_wp2_with fail
            go_meet
            exact ⟨rfl, HX.out, HY.out, HZ.out, HJ.out, HBN.out⟩
          | true =>
            rw [show (true && true) = true from rfl] at F3
            obtain rfl := Han.out rfl rfl
            clear Han Htr
            have kX0 := cell_regrown HX.out.c0
            have kX1 := cell_regrown HX.out.c1
            have kY0 := cell_regrown HY.out.c0
            have kY1 := cell_regrown HY.out.c1
            have kZ0 := cell_regrown HZ.out.c0
            have kZ1 := cell_regrown HZ.out.c1
            have kJ0 := cell_regrown HJ.out.c0
            have kJ1 := cell_regrown HJ.out.c1
            have q0 := fun d os => Calls.regrown_of (F0.out (grow (redrawn y5 d) os))
            have q1 := fun d os => Calls.regrown_of (F1.out (grow (redrawn y5 d) os))
            have q2 := fun d os => Calls.regrown_of (F2.out (grow (redrawn y5 d) os))
            have q3 := fun d os => Calls.regrown_of (F3.out (grow (redrawn y5 d) os))
            have q4 := fun d os => Calls.regrown_of (F4.out (grow (redrawn y5 d) os))
            have q5 := fun d os => Calls.regrown_of (F5.out (grow (redrawn y5 d) os))
            have q6 := fun d os => Calls.regrown_of (F6.out (grow (redrawn y5 d) os))
            refine wp_region_quiet_below (by kernel_rfl) (by kernel_rfl) ?_
            repeat (first | go_big_quiet_step (first | with_reducible exact q0 _ _ | with_reducible exact q1 _ _ | with_reducible exact q2 _ _ | with_reducible exact q3 _ _ | with_reducible exact q4 _ _ | with_reducible exact q5 _ _ | with_reducible exact q6 _ _) | quiet_step (first | with_reducible exact q0 _ _ | with_reducible exact q1 _ _ | with_reducible exact q2 _ _ | with_reducible exact q3 _ _ | with_reducible exact q4 _ _ | with_reducible exact q5 _ _ | with_reducible exact q6 _ _))
            refine wpQuiet_nil ?_
            intro _ hw'
            obtain ⟨⟨dq, osq⟩, hw''⟩ := hw'
            subst hw''
            have hb := below_regrown y5 dq osq
            clear kX0 kX1 kY0 kY1 kZ0 kZ1 kJ0 kJ1 q0 q1 q2 q3 q4 q5 q6
            have TT := HA.out.below hb HA.out.lt; clear HA; have HA := Lib.hid TT; clear TT
            have TT := HB.out.below hb HB.out.lt; clear HB; have HB := Lib.hid TT; clear TT
            have TT := HC.out.below hb HC.out.lt; clear HC; have HC := Lib.hid TT; clear TT
            have TT := HX.out.below hb HX.out.lt; clear HX; have HX := Lib.hid TT; clear TT
            have TT := HY.out.below hb HY.out.lt; clear HY; have HY := Lib.hid TT; clear TT
            have TT := HZ.out.below hb HZ.out.lt; clear HZ; have HZ := Lib.hid TT; clear TT
            have TT := HJ.out.below hb HJ.out.lt; clear HJ; have HJ := Lib.hid TT; clear TT
            have TT := HBN.out.trans (hb.mono HBN.out.size); clear HBN; have HBN := Lib.hid TT; clear TT hb
            generalize grow (redrawn y5 dq) osq = W10q at *
            go_wp2_with fail
            go_meet
            exact ⟨rfl, HX.out, HY.out, HZ.out, HJ.out, HBN.out⟩
  case rest =>
    obtain ⟨rfl, BX, BY, BZ, BJ, hB⟩ := hcut
    clear HA HB HC HX HY HZ HJ HBN F1 F2 F3 F4 F5 F6 Han Htr
    have HX := Lib.hid BX
    have HY := Lib.hid BY
    have HZ := Lib.hid BZ
    have HJ := Lib.hid BJ
    have HBN := Lib.hid hB
    clear BX BY BZ BJ hB
    go_wp2_with fail
    cases p with
    | false =>
      clear Hle
      have kX0 := cell_regrown HX.out.c0
      have kX1 := cell_regrown HX.out.c1
      have kY0 := cell_regrown HY.out.c0
      have kY1 := cell_regrown HY.out.c1
      have kZ0 := cell_regrown HZ.out.c0
      have kZ1 := cell_regrown HZ.out.c1
      have kJ0 := cell_regrown HJ.out.c0
      have kJ1 := cell_regrown HJ.out.c1
      have q0 := fun d os => Calls.regrown_of (F0.out (grow (redrawn wc d) os))
      have q1 := fun d os => Calls.regrown_of (F7.out (grow (redrawn wc d) os))
      have q2 := fun d os => Calls.regrown_of (F8.out (grow (redrawn wc d) os))
      have q3 := fun d os => Calls.regrown_of (F9.out (grow (redrawn wc d) os))
      have q4 := fun d os => Calls.regrown_of (F10.out (grow (redrawn wc d) os))
      have q5 := fun d os => Calls.regrown_of (F11.out (grow (redrawn wc d) os))
      have q6 := fun d os => Calls.regrown_of (F12.out (grow (redrawn wc d) os))
      have q7 := fun d os => Calls.regrown_of (F13.out (grow (redrawn wc d) os))
      have q8 := fun d os => Calls.regrown_of (F14.out (grow (redrawn wc d) os))
      have q9 := fun d os => Calls.regrown_of (F15.out (grow (redrawn wc d) os))
      have q10 := fun d os => Calls.regrown_of (F16.out (grow (redrawn wc d) os))
      have q11 := fun d os => Calls.regrown_of (F17.out (grow (redrawn wc d) os))
      refine wp_region_quiet_below (by kernel_rfl) (by kernel_rfl) ?_
      repeat (first | go_big_quiet_step (first | with_reducible exact q0 _ _ | with_reducible exact q1 _ _ | with_reducible exact q2 _ _ | with_reducible exact q3 _ _ | with_reducible exact q4 _ _ | with_reducible exact q5 _ _ | with_reducible exact q6 _ _ | with_reducible exact q7 _ _ | with_reducible exact q8 _ _ | with_reducible exact q9 _ _ | with_reducible exact q10 _ _ | with_reducible exact q11 _ _) | quiet_step (first | with_reducible exact q0 _ _ | with_reducible exact q1 _ _ | with_reducible exact q2 _ _ | with_reducible exact q3 _ _ | with_reducible exact q4 _ _ | with_reducible exact q5 _ _ | with_reducible exact q6 _ _ | with_reducible exact q7 _ _ | with_reducible exact q8 _ _ | with_reducible exact q9 _ _ | with_reducible exact q10 _ _ | with_reducible exact q11 _ _))
      refine wpQuiet_nil ?_
      intro _ hw'
      obtain ⟨⟨dq, osq⟩, hw''⟩ := hw'
      subst hw''
      have hb := below_regrown wc dq osq
      clear kX0 kX1 kY0 kY1 kZ0 kZ1 kJ0 kJ1 q0 q1 q2 q3 q4 q5 q6 q7 q8 q9 q10 q11
      have TT := HX.out.below hb HX.out.lt; clear HX; have HX := Lib.hid TT; clear TT
      have TT := HY.out.below hb HY.out.lt; clear HY; have HY := Lib.hid TT; clear TT
      have TT := HZ.out.below hb HZ.out.lt; clear HZ; have HZ := Lib.hid TT; clear TT
      have TT := HJ.out.below hb HJ.out.lt; clear HJ; have HJ := Lib.hid TT; clear TT
      have TT := HBN.out.trans (hb.mono HBN.out.size); clear HBN; have HBN := Lib.hid TT; clear TT hb
      generalize grow (redrawn wc dq) osq = W51q at *
      go_wp2_with fail
      go_ret
      exact ⟨rfl, HBN.out⟩
    | true =>
      have hle := Hle.out rfl
      clear Hle
      have kX0 := cell_regrown HX.out.c0
      have kX1 := cell_regrown HX.out.c1
      have kY0 := cell_regrown HY.out.c0
      have kY1 := cell_regrown HY.out.c1
      have kZ0 := cell_regrown HZ.out.c0
      have kZ1 := cell_regrown HZ.out.c1
      have kJ0 := cell_regrown HJ.out.c0
      have kJ1 := cell_regrown HJ.out.c1
      have q0 := fun d os => Calls.regrown_of (F0.out (grow (redrawn wc d) os))
      have q1 := fun d os => Calls.regrown_of (F7.out (grow (redrawn wc d) os))
      have q2 := fun d os => Calls.regrown_of (F8.out (grow (redrawn wc d) os))
      have q3 := fun d os => Calls.regrown_of (F9.out (grow (redrawn wc d) os))
      have q4 := fun d os => Calls.regrown_of (F10.out (grow (redrawn wc d) os))
      have q5 := fun d os => Calls.regrown_of (F11.out (grow (redrawn wc d) os))
      have q6 := fun d os => Calls.regrown_of (F12.out (grow (redrawn wc d) os))
      have q7 := fun d os => Calls.regrown_of (F13.out (grow (redrawn wc d) os))
      have q8 := fun d os => Calls.regrown_of (F14.out (grow (redrawn wc d) os))
      have q9 := fun d os => Calls.regrown_of (F15.out (grow (redrawn wc d) os))
      have q10 := fun d os => Calls.regrown_of (F16.out (grow (redrawn wc d) os))
      have q11 := fun d os => Calls.regrown_of (F17.out (grow (redrawn wc d) os))
      refine wp_region_quiet_below (by kernel_rfl) (by kernel_rfl) ?_
      repeat (first | go_big_quiet_step (first | with_reducible exact q0 _ _ | with_reducible exact q1 _ _ | with_reducible exact q2 _ _ | with_reducible exact q3 _ _ | with_reducible exact q4 _ _ | with_reducible exact q5 _ _ | with_reducible exact q6 _ _ | with_reducible exact q7 _ _ | with_reducible exact q8 _ _ | with_reducible exact q9 _ _ | with_reducible exact q10 _ _ | with_reducible exact q11 _ _) | quiet_step (first | with_reducible exact q0 _ _ | with_reducible exact q1 _ _ | with_reducible exact q2 _ _ | with_reducible exact q3 _ _ | with_reducible exact q4 _ _ | with_reducible exact q5 _ _ | with_reducible exact q6 _ _ | with_reducible exact q7 _ _ | with_reducible exact q8 _ _ | with_reducible exact q9 _ _ | with_reducible exact q10 _ _ | with_reducible exact q11 _ _))
      refine wpQuiet_nil ?_
      intro _ hw'
      obtain ⟨⟨dq, osq⟩, hw''⟩ := hw'
      subst hw''
      have hb := below_regrown wc dq osq
      clear kX0 kX1 kY0 kY1 kZ0 kZ1 kJ0 kJ1 q0 q1 q2 q3 q4 q5 q6 q7 q8 q9 q10 q11
      have TT := HX.out.below hb HX.out.lt; clear HX; have HX := Lib.hid TT; clear TT
      have TT := HY.out.below hb HY.out.lt; clear HY; have HY := Lib.hid TT; clear TT
      have TT := HZ.out.below hb HZ.out.lt; clear HZ; have HZ := Lib.hid TT; clear TT
      have TT := HJ.out.below hb HJ.out.lt; clear HJ; have HJ := Lib.hid TT; clear TT
      have TT := HBN.out.trans (hb.mono HBN.out.size); clear HBN; have HBN := Lib.hid TT; clear TT hb
      generalize grow (redrawn wc dq) osq = W52q at *
      go_wp2_with fail
      go_ret
      exact ⟨rfl, HBN.out⟩
end Go.Proofs.Ytehfhconhcefbaa
