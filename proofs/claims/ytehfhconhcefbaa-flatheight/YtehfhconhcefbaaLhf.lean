import Derived.Test.YtehfhconhcefbaaAwk
import Derived.Test.YtehfhconhcefbaaFlatN
namespace Go.Proofs.Ytehfhconhcefbaa
open Go Go.RowKit Go.Sort

set_option maxRecDepth 100000 in
set_option maxHeartbeats 16000000 in
theorem height_4 (a b : V) (hx : join a vbot = ⟨2, 0⟩) (hy : join b vbot = ⟨2, 0⟩) (w : World) :
    Calls Try.prog 7 #[a.val, b.val] w fun e w' => e = .returned (.bool true) ∧ Below w.heap.size w w' := by
  have J1 := Lib.hid (fun W => Join_any a vbot W)
  have J2 := Lib.hid (fun W => Join_any b vbot W)
  rw [hx] at J1
  rw [hy] at J2
  have F0 := Lib.hid (fun W => Leq_any ⟨2, 0⟩ ⟨2, 0⟩ W)
  rw [show leq ⟨2, 0⟩ ⟨2, 0⟩ = true from (leq_of (a := ⟨2, 0⟩) (b := ⟨2, 0⟩) vtop_sane vtop_sane).trans (by simp [leV])] at F0
  have F1 := Lib.hid (fun W => Leq_any ⟨0, 0⟩ ⟨2, 0⟩ W)
  rw [show leq ⟨0, 0⟩ ⟨2, 0⟩ = true from (leq_of (a := ⟨0, 0⟩) (b := ⟨2, 0⟩) vbot_sane vtop_sane).trans (by simp [leV])] at F1
  have F2 := Lib.hid (fun W => Leq_any ⟨2, 0⟩ ⟨2, 0⟩ W)
  rw [show leq ⟨2, 0⟩ ⟨2, 0⟩ = true from (leq_of (a := ⟨2, 0⟩) (b := ⟨2, 0⟩) vtop_sane vtop_sane).trans (by simp [leV])] at F2
  have F3 := Lib.hid (fun W => Leq_any ⟨2, 0⟩ ⟨0, 0⟩ W)
  rw [show leq ⟨2, 0⟩ ⟨0, 0⟩ = false from (leq_of (a := ⟨2, 0⟩) (b := ⟨0, 0⟩) vtop_sane vbot_sane).trans (by simp [leV])] at F3
  have F4 := Lib.hid (fun W => Leq_any ⟨2, 0⟩ ⟨2, 0⟩ W)
  rw [show leq ⟨2, 0⟩ ⟨2, 0⟩ = true from (leq_of (a := ⟨2, 0⟩) (b := ⟨2, 0⟩) vtop_sane vtop_sane).trans (by simp [leV])] at F4
  have F5 := Lib.hid (fun W => Leq_any ⟨2, 0⟩ ⟨2, 0⟩ W)
  rw [show leq ⟨2, 0⟩ ⟨2, 0⟩ = true from (leq_of (a := ⟨2, 0⟩) (b := ⟨2, 0⟩) vtop_sane vtop_sane).trans (by simp [leV])] at F5
  have F6 := Lib.hid (fun W => Height_any ⟨2, 0⟩ W)
  rw [show hgt ⟨2, 0⟩ = 2 from hgt_of (a := ⟨2, 0⟩) vtop_sane] at F6
  have F7 := Lib.hid (fun W => Height_any ⟨2, 0⟩ W)
  rw [show hgt ⟨2, 0⟩ = 2 from hgt_of (a := ⟨2, 0⟩) vtop_sane] at F7
  have HO0 := Lib.hid (fun W => ours_any a W)
  have HO1 := Lib.hid (fun W => ours_any b W)
  clear hx hy
  simp only [V.val, vbot] at J1 J2 F0 F1 F2 F3 F4 F5 F6 F7
  unfold V.val at *
  have BA := ((Box.new w (.int .i64 a.k) (.int .i64 a.c) 23).alloc (.cells #[.int .i64 b.k, .int .i64 b.c] 23))
  have BB := (Box.new (w.alloc (.cells #[.int .i64 a.k, .int .i64 a.c] 23)) (.int .i64 b.k) (.int .i64 b.c) 23)
  have hW := below2 w (.cells #[.int .i64 a.k, .int .i64 a.c] 23) (.cells #[.int .i64 b.k, .int .i64 b.c] 23)
  simp only [World.size_alloc] at BB
  generalize hE : ((w.alloc (.cells #[.int .i64 a.k, .int .i64 a.c] 23)).alloc (.cells #[.int .i64 b.k, .int .i64 b.c] 23)) = W0 at *
  have HA := Lib.hid BA
  have HB := Lib.hid BB
  have HBN := Lib.hid hW
  clear hW BA BB
  go_enter Try.func7, Try.ntmps7
  go_wp2_with fail
  refine (awake_any _).mono ?_
  rintro e w1 ⟨rfl, hb⟩
  have TT := HA.out.below hb HA.out.lt; clear HA; have HA := Lib.hid TT; clear TT
  have TT := HB.out.below hb HB.out.lt; clear HB; have HB := Lib.hid TT; clear TT
  have TT := HBN.out.trans (hb.mono HBN.out.size); clear HBN; have HBN := Lib.hid TT; clear TT hb
  clear hE
  obtain ⟨cA0, cA1, -, -⟩ := id HA.out
  go_wp2_with fail
  clear cA0 cA1
  refine (HO0.out _).mono ?_
  rintro e w2 ⟨rfl, hb⟩
  have TT := HA.out.below hb HA.out.lt; clear HA; have HA := Lib.hid TT; clear TT
  have TT := HB.out.below hb HB.out.lt; clear HB; have HB := Lib.hid TT; clear TT
  have TT := HBN.out.trans (hb.mono HBN.out.size); clear HBN; have HBN := Lib.hid TT; clear TT hb
  go_wp2_with fail
  refine (J1.out _).mono ?_
  rintro e w3 ⟨rfl, hb⟩
  have TT := HA.out.below hb HA.out.lt; clear HA; have HA := Lib.hid TT; clear TT
  have TT := HB.out.below hb HB.out.lt; clear HB; have HB := Lib.hid TT; clear TT
  have TT := HBN.out.trans (hb.mono HBN.out.size); clear HBN; have HBN := Lib.hid TT; clear TT hb
  have TT := HA.out.alloc (.cells #[.int .i64 2, .int .i64 0] 25); clear HA; have HA := Lib.hid TT; clear TT
  have TT := HB.out.alloc (.cells #[.int .i64 2, .int .i64 0] 25); clear HB; have HB := Lib.hid TT; clear TT
  have HX := Lib.hid (Box.new w3 (.int .i64 2) (.int .i64 0) 25)
  have TT := HBN.out.trans (((Below.refl w3.heap.size w3).alloc (Nat.le_refl _) (.cells #[.int .i64 2, .int .i64 0] 25)).mono HBN.out.size); clear HBN; have HBN := Lib.hid TT; clear TT
  obtain ⟨cB0, cB1, -, -⟩ := id HB.out
  go_wp2_with fail
  clear cB0 cB1
  obtain ⟨bX, hbb⟩ : ∃ b, w3.heap.size = b := ⟨_, rfl⟩
  rw [hbb]
  rw [hbb] at HX
  clear hbb
  generalize w3.alloc (.cells #[.int .i64 2, .int .i64 0] 25) = y3 at *
  refine (HO1.out _).mono ?_
  rintro e w4 ⟨rfl, hb⟩
  have TT := HA.out.below hb HA.out.lt; clear HA; have HA := Lib.hid TT; clear TT
  have TT := HB.out.below hb HB.out.lt; clear HB; have HB := Lib.hid TT; clear TT
  have TT := HX.out.below hb HX.out.lt; clear HX; have HX := Lib.hid TT; clear TT
  have TT := HBN.out.trans (hb.mono HBN.out.size); clear HBN; have HBN := Lib.hid TT; clear TT hb
  go_wp2_with fail
  refine (J2.out _).mono ?_
  rintro e w5 ⟨rfl, hb⟩
  have TT := HA.out.below hb HA.out.lt; clear HA; have HA := Lib.hid TT; clear TT
  have TT := HB.out.below hb HB.out.lt; clear HB; have HB := Lib.hid TT; clear TT
  have TT := HX.out.below hb HX.out.lt; clear HX; have HX := Lib.hid TT; clear TT
  have TT := HBN.out.trans (hb.mono HBN.out.size); clear HBN; have HBN := Lib.hid TT; clear TT hb
  have TT := HA.out.alloc (.cells #[.int .i64 2, .int .i64 0] 25); clear HA; have HA := Lib.hid TT; clear TT
  have TT := HB.out.alloc (.cells #[.int .i64 2, .int .i64 0] 25); clear HB; have HB := Lib.hid TT; clear TT
  have TT := HX.out.alloc (.cells #[.int .i64 2, .int .i64 0] 25); clear HX; have HX := Lib.hid TT; clear TT
  have HY := Lib.hid (Box.new w5 (.int .i64 2) (.int .i64 0) 25)
  have TT := HBN.out.trans (((Below.refl w5.heap.size w5).alloc (Nat.le_refl _) (.cells #[.int .i64 2, .int .i64 0] 25)).mono HBN.out.size); clear HBN; have HBN := Lib.hid TT; clear TT
  have TT := HA.out.alloc (.cells #[.int .i64 0, .int .i64 0] 25); clear HA; have HA := Lib.hid TT; clear TT
  have TT := HB.out.alloc (.cells #[.int .i64 0, .int .i64 0] 25); clear HB; have HB := Lib.hid TT; clear TT
  have TT := HX.out.alloc (.cells #[.int .i64 0, .int .i64 0] 25); clear HX; have HX := Lib.hid TT; clear TT
  have TT := HY.out.alloc (.cells #[.int .i64 0, .int .i64 0] 25); clear HY; have HY := Lib.hid TT; clear TT
  have HS := Lib.hid (Box.new (w5.alloc (.cells #[.int .i64 2, .int .i64 0] 25)) (.int .i64 0) (.int .i64 0) 25)
  have TT := HBN.out.trans (((Below.refl (w5.alloc (.cells #[.int .i64 2, .int .i64 0] 25)).heap.size (w5.alloc (.cells #[.int .i64 2, .int .i64 0] 25))).alloc (Nat.le_refl _) (.cells #[.int .i64 0, .int .i64 0] 25)).mono HBN.out.size); clear HBN; have HBN := Lib.hid TT; clear TT
  have TT := HA.out.alloc (.cells #[.int .i64 2, .int .i64 0] 25); clear HA; have HA := Lib.hid TT; clear TT
  have TT := HB.out.alloc (.cells #[.int .i64 2, .int .i64 0] 25); clear HB; have HB := Lib.hid TT; clear TT
  have TT := HX.out.alloc (.cells #[.int .i64 2, .int .i64 0] 25); clear HX; have HX := Lib.hid TT; clear TT
  have TT := HY.out.alloc (.cells #[.int .i64 2, .int .i64 0] 25); clear HY; have HY := Lib.hid TT; clear TT
  have TT := HS.out.alloc (.cells #[.int .i64 2, .int .i64 0] 25); clear HS; have HS := Lib.hid TT; clear TT
  have HQ := Lib.hid (Box.new ((w5.alloc (.cells #[.int .i64 2, .int .i64 0] 25)).alloc (.cells #[.int .i64 0, .int .i64 0] 25)) (.int .i64 2) (.int .i64 0) 25)
  have TT := HBN.out.trans (((Below.refl ((w5.alloc (.cells #[.int .i64 2, .int .i64 0] 25)).alloc (.cells #[.int .i64 0, .int .i64 0] 25)).heap.size ((w5.alloc (.cells #[.int .i64 2, .int .i64 0] 25)).alloc (.cells #[.int .i64 0, .int .i64 0] 25))).alloc (Nat.le_refl _) (.cells #[.int .i64 2, .int .i64 0] 25)).mono HBN.out.size); clear HBN; have HBN := Lib.hid TT; clear TT
  simp only [World.size_alloc] at HS HQ
  go_upto_region 6 with fail
  obtain ⟨bY, hbb⟩ : ∃ b, w5.heap.size = b := ⟨_, rfl⟩
  rw [hbb]
  rw [hbb] at HY HS HQ
  clear hbb
  generalize ((w5.alloc (.cells #[.int .i64 2, .int .i64 0] 25)).alloc (.cells #[.int .i64 0, .int .i64 0] 25)).alloc (.cells #[.int .i64 2, .int .i64 0] 25) = y5 at *
  have kX0 := cell_regrown HX.out.c0
  have kX1 := cell_regrown HX.out.c1
  have kY0 := cell_regrown HY.out.c0
  have kY1 := cell_regrown HY.out.c1
  have kS0 := cell_regrown HS.out.c0
  have kS1 := cell_regrown HS.out.c1
  have kQ0 := cell_regrown HQ.out.c0
  have kQ1 := cell_regrown HQ.out.c1
  have q0 := fun d os => Calls.regrown_of (F0.out (grow (redrawn y5 d) os))
  have q1 := fun d os => Calls.regrown_of (F1.out (grow (redrawn y5 d) os))
  have q2 := fun d os => Calls.regrown_of (F2.out (grow (redrawn y5 d) os))
  have q3 := fun d os => Calls.regrown_of (F3.out (grow (redrawn y5 d) os))
  have q4 := fun d os => Calls.regrown_of (F4.out (grow (redrawn y5 d) os))
  have q5 := fun d os => Calls.regrown_of (F5.out (grow (redrawn y5 d) os))
  have q6 := fun d os => Calls.regrown_of (F6.out (grow (redrawn y5 d) os))
  have q7 := fun d os => Calls.regrown_of (F7.out (grow (redrawn y5 d) os))
  refine wp_region_quiet_below (by kernel_rfl) (by kernel_rfl) ?_
  repeat (first | go_big_quiet_step (first | with_reducible exact q0 _ _ | with_reducible exact q1 _ _ | with_reducible exact q2 _ _ | with_reducible exact q3 _ _ | with_reducible exact q4 _ _ | with_reducible exact q5 _ _ | with_reducible exact q6 _ _ | with_reducible exact q7 _ _) | quiet_step (first | with_reducible exact q0 _ _ | with_reducible exact q1 _ _ | with_reducible exact q2 _ _ | with_reducible exact q3 _ _ | with_reducible exact q4 _ _ | with_reducible exact q5 _ _ | with_reducible exact q6 _ _ | with_reducible exact q7 _ _))
  refine wpQuiet_nil ?_
  intro _ hw'
  obtain ⟨⟨dq, osq⟩, hw''⟩ := hw'
  subst hw''
  have hb := below_regrown y5 dq osq
  clear kX0 kX1 kY0 kY1 kS0 kS1 kQ0 kQ1 q0 q1 q2 q3 q4 q5 q6 q7
  have TT := HA.out.below hb HA.out.lt; clear HA; have HA := Lib.hid TT; clear TT
  have TT := HB.out.below hb HB.out.lt; clear HB; have HB := Lib.hid TT; clear TT
  have TT := HX.out.below hb HX.out.lt; clear HX; have HX := Lib.hid TT; clear TT
  have TT := HY.out.below hb HY.out.lt; clear HY; have HY := Lib.hid TT; clear TT
  have TT := HS.out.below hb HS.out.lt; clear HS; have HS := Lib.hid TT; clear TT
  have TT := HQ.out.below hb HQ.out.lt; clear HQ; have HQ := Lib.hid TT; clear TT
  have TT := HBN.out.trans (hb.mono HBN.out.size); clear HBN; have HBN := Lib.hid TT; clear TT hb
  generalize grow (redrawn y5 dq) osq = W1q at *
  go_wp2_with fail
  go_ret
  exact ⟨rfl, HBN.out⟩

set_option maxRecDepth 100000 in
set_option maxHeartbeats 16000000 in
theorem height_5 (a b : V) (m : Int) (hm : -2147483648 ≤ m ∧ m ≤ 2147483647) (hx : join a vbot = ⟨2, 0⟩) (hy : join b vbot = ⟨1, m⟩) (w : World) :
    Calls Try.prog 7 #[a.val, b.val] w fun e w' => e = .returned (.bool true) ∧ Below w.heap.size w w' := by
  have J1 := Lib.hid (fun W => Join_any a vbot W)
  have J2 := Lib.hid (fun W => Join_any b vbot W)
  rw [hx] at J1
  rw [hy] at J2
  have F0 := Lib.hid (fun W => Leq_any ⟨2, 0⟩ ⟨1, m⟩ W)
  rw [show leq ⟨2, 0⟩ ⟨1, m⟩ = false from (leq_of (a := ⟨2, 0⟩) (b := ⟨1, m⟩) vtop_sane (.inl ⟨rfl, hm.1, hm.2⟩)).trans (by simp [leV])] at F0
  have F1 := Lib.hid (fun W => Leq_any ⟨0, 0⟩ ⟨2, 0⟩ W)
  rw [show leq ⟨0, 0⟩ ⟨2, 0⟩ = true from (leq_of (a := ⟨0, 0⟩) (b := ⟨2, 0⟩) vbot_sane vtop_sane).trans (by simp [leV])] at F1
  have F2 := Lib.hid (fun W => Leq_any ⟨2, 0⟩ ⟨2, 0⟩ W)
  rw [show leq ⟨2, 0⟩ ⟨2, 0⟩ = true from (leq_of (a := ⟨2, 0⟩) (b := ⟨2, 0⟩) vtop_sane vtop_sane).trans (by simp [leV])] at F2
  have F3 := Lib.hid (fun W => Leq_any ⟨2, 0⟩ ⟨0, 0⟩ W)
  rw [show leq ⟨2, 0⟩ ⟨0, 0⟩ = false from (leq_of (a := ⟨2, 0⟩) (b := ⟨0, 0⟩) vtop_sane vbot_sane).trans (by simp [leV])] at F3
  have F4 := Lib.hid (fun W => Leq_any ⟨2, 0⟩ ⟨2, 0⟩ W)
  rw [show leq ⟨2, 0⟩ ⟨2, 0⟩ = true from (leq_of (a := ⟨2, 0⟩) (b := ⟨2, 0⟩) vtop_sane vtop_sane).trans (by simp [leV])] at F4
  have F5 := Lib.hid (fun W => Leq_any ⟨1, m⟩ ⟨2, 0⟩ W)
  rw [show leq ⟨1, m⟩ ⟨2, 0⟩ = true from (leq_of (a := ⟨1, m⟩) (b := ⟨2, 0⟩) (.inl ⟨rfl, hm.1, hm.2⟩) vtop_sane).trans (by simp [leV])] at F5
  have F6 := Lib.hid (fun W => Height_any ⟨2, 0⟩ W)
  rw [show hgt ⟨2, 0⟩ = 2 from hgt_of (a := ⟨2, 0⟩) vtop_sane] at F6
  have F7 := Lib.hid (fun W => Height_any ⟨1, m⟩ W)
  rw [show hgt ⟨1, m⟩ = 1 from hgt_of (a := ⟨1, m⟩) (.inl ⟨rfl, hm.1, hm.2⟩)] at F7
  have HO0 := Lib.hid (fun W => ours_any a W)
  have HO1 := Lib.hid (fun W => ours_any b W)
  clear hx hy hm
  simp only [V.val, vbot] at J1 J2 F0 F1 F2 F3 F4 F5 F6 F7
  unfold V.val at *
  have BA := ((Box.new w (.int .i64 a.k) (.int .i64 a.c) 23).alloc (.cells #[.int .i64 b.k, .int .i64 b.c] 23))
  have BB := (Box.new (w.alloc (.cells #[.int .i64 a.k, .int .i64 a.c] 23)) (.int .i64 b.k) (.int .i64 b.c) 23)
  have hW := below2 w (.cells #[.int .i64 a.k, .int .i64 a.c] 23) (.cells #[.int .i64 b.k, .int .i64 b.c] 23)
  simp only [World.size_alloc] at BB
  generalize hE : ((w.alloc (.cells #[.int .i64 a.k, .int .i64 a.c] 23)).alloc (.cells #[.int .i64 b.k, .int .i64 b.c] 23)) = W0 at *
  have HA := Lib.hid BA
  have HB := Lib.hid BB
  have HBN := Lib.hid hW
  clear hW BA BB
  go_enter Try.func7, Try.ntmps7
  go_wp2_with fail
  refine (awake_any _).mono ?_
  rintro e w1 ⟨rfl, hb⟩
  have TT := HA.out.below hb HA.out.lt; clear HA; have HA := Lib.hid TT; clear TT
  have TT := HB.out.below hb HB.out.lt; clear HB; have HB := Lib.hid TT; clear TT
  have TT := HBN.out.trans (hb.mono HBN.out.size); clear HBN; have HBN := Lib.hid TT; clear TT hb
  clear hE
  obtain ⟨cA0, cA1, -, -⟩ := id HA.out
  go_wp2_with fail
  clear cA0 cA1
  refine (HO0.out _).mono ?_
  rintro e w2 ⟨rfl, hb⟩
  have TT := HA.out.below hb HA.out.lt; clear HA; have HA := Lib.hid TT; clear TT
  have TT := HB.out.below hb HB.out.lt; clear HB; have HB := Lib.hid TT; clear TT
  have TT := HBN.out.trans (hb.mono HBN.out.size); clear HBN; have HBN := Lib.hid TT; clear TT hb
  go_wp2_with fail
  refine (J1.out _).mono ?_
  rintro e w3 ⟨rfl, hb⟩
  have TT := HA.out.below hb HA.out.lt; clear HA; have HA := Lib.hid TT; clear TT
  have TT := HB.out.below hb HB.out.lt; clear HB; have HB := Lib.hid TT; clear TT
  have TT := HBN.out.trans (hb.mono HBN.out.size); clear HBN; have HBN := Lib.hid TT; clear TT hb
  have TT := HA.out.alloc (.cells #[.int .i64 2, .int .i64 0] 25); clear HA; have HA := Lib.hid TT; clear TT
  have TT := HB.out.alloc (.cells #[.int .i64 2, .int .i64 0] 25); clear HB; have HB := Lib.hid TT; clear TT
  have HX := Lib.hid (Box.new w3 (.int .i64 2) (.int .i64 0) 25)
  have TT := HBN.out.trans (((Below.refl w3.heap.size w3).alloc (Nat.le_refl _) (.cells #[.int .i64 2, .int .i64 0] 25)).mono HBN.out.size); clear HBN; have HBN := Lib.hid TT; clear TT
  obtain ⟨cB0, cB1, -, -⟩ := id HB.out
  go_wp2_with fail
  clear cB0 cB1
  obtain ⟨bX, hbb⟩ : ∃ b, w3.heap.size = b := ⟨_, rfl⟩
  rw [hbb]
  rw [hbb] at HX
  clear hbb
  generalize w3.alloc (.cells #[.int .i64 2, .int .i64 0] 25) = y3 at *
  refine (HO1.out _).mono ?_
  rintro e w4 ⟨rfl, hb⟩
  have TT := HA.out.below hb HA.out.lt; clear HA; have HA := Lib.hid TT; clear TT
  have TT := HB.out.below hb HB.out.lt; clear HB; have HB := Lib.hid TT; clear TT
  have TT := HX.out.below hb HX.out.lt; clear HX; have HX := Lib.hid TT; clear TT
  have TT := HBN.out.trans (hb.mono HBN.out.size); clear HBN; have HBN := Lib.hid TT; clear TT hb
  go_wp2_with fail
  refine (J2.out _).mono ?_
  rintro e w5 ⟨rfl, hb⟩
  have TT := HA.out.below hb HA.out.lt; clear HA; have HA := Lib.hid TT; clear TT
  have TT := HB.out.below hb HB.out.lt; clear HB; have HB := Lib.hid TT; clear TT
  have TT := HX.out.below hb HX.out.lt; clear HX; have HX := Lib.hid TT; clear TT
  have TT := HBN.out.trans (hb.mono HBN.out.size); clear HBN; have HBN := Lib.hid TT; clear TT hb
  have TT := HA.out.alloc (.cells #[.int .i64 1, .int .i64 m] 25); clear HA; have HA := Lib.hid TT; clear TT
  have TT := HB.out.alloc (.cells #[.int .i64 1, .int .i64 m] 25); clear HB; have HB := Lib.hid TT; clear TT
  have TT := HX.out.alloc (.cells #[.int .i64 1, .int .i64 m] 25); clear HX; have HX := Lib.hid TT; clear TT
  have HY := Lib.hid (Box.new w5 (.int .i64 1) (.int .i64 m) 25)
  have TT := HBN.out.trans (((Below.refl w5.heap.size w5).alloc (Nat.le_refl _) (.cells #[.int .i64 1, .int .i64 m] 25)).mono HBN.out.size); clear HBN; have HBN := Lib.hid TT; clear TT
  have TT := HA.out.alloc (.cells #[.int .i64 0, .int .i64 0] 25); clear HA; have HA := Lib.hid TT; clear TT
  have TT := HB.out.alloc (.cells #[.int .i64 0, .int .i64 0] 25); clear HB; have HB := Lib.hid TT; clear TT
  have TT := HX.out.alloc (.cells #[.int .i64 0, .int .i64 0] 25); clear HX; have HX := Lib.hid TT; clear TT
  have TT := HY.out.alloc (.cells #[.int .i64 0, .int .i64 0] 25); clear HY; have HY := Lib.hid TT; clear TT
  have HS := Lib.hid (Box.new (w5.alloc (.cells #[.int .i64 1, .int .i64 m] 25)) (.int .i64 0) (.int .i64 0) 25)
  have TT := HBN.out.trans (((Below.refl (w5.alloc (.cells #[.int .i64 1, .int .i64 m] 25)).heap.size (w5.alloc (.cells #[.int .i64 1, .int .i64 m] 25))).alloc (Nat.le_refl _) (.cells #[.int .i64 0, .int .i64 0] 25)).mono HBN.out.size); clear HBN; have HBN := Lib.hid TT; clear TT
  have TT := HA.out.alloc (.cells #[.int .i64 2, .int .i64 0] 25); clear HA; have HA := Lib.hid TT; clear TT
  have TT := HB.out.alloc (.cells #[.int .i64 2, .int .i64 0] 25); clear HB; have HB := Lib.hid TT; clear TT
  have TT := HX.out.alloc (.cells #[.int .i64 2, .int .i64 0] 25); clear HX; have HX := Lib.hid TT; clear TT
  have TT := HY.out.alloc (.cells #[.int .i64 2, .int .i64 0] 25); clear HY; have HY := Lib.hid TT; clear TT
  have TT := HS.out.alloc (.cells #[.int .i64 2, .int .i64 0] 25); clear HS; have HS := Lib.hid TT; clear TT
  have HQ := Lib.hid (Box.new ((w5.alloc (.cells #[.int .i64 1, .int .i64 m] 25)).alloc (.cells #[.int .i64 0, .int .i64 0] 25)) (.int .i64 2) (.int .i64 0) 25)
  have TT := HBN.out.trans (((Below.refl ((w5.alloc (.cells #[.int .i64 1, .int .i64 m] 25)).alloc (.cells #[.int .i64 0, .int .i64 0] 25)).heap.size ((w5.alloc (.cells #[.int .i64 1, .int .i64 m] 25)).alloc (.cells #[.int .i64 0, .int .i64 0] 25))).alloc (Nat.le_refl _) (.cells #[.int .i64 2, .int .i64 0] 25)).mono HBN.out.size); clear HBN; have HBN := Lib.hid TT; clear TT
  simp only [World.size_alloc] at HS HQ
  go_upto_region 6 with fail
  obtain ⟨bY, hbb⟩ : ∃ b, w5.heap.size = b := ⟨_, rfl⟩
  rw [hbb]
  rw [hbb] at HY HS HQ
  clear hbb
  generalize ((w5.alloc (.cells #[.int .i64 1, .int .i64 m] 25)).alloc (.cells #[.int .i64 0, .int .i64 0] 25)).alloc (.cells #[.int .i64 2, .int .i64 0] 25) = y5 at *
  have kX0 := cell_regrown HX.out.c0
  have kX1 := cell_regrown HX.out.c1
  have kY0 := cell_regrown HY.out.c0
  have kY1 := cell_regrown HY.out.c1
  have kS0 := cell_regrown HS.out.c0
  have kS1 := cell_regrown HS.out.c1
  have kQ0 := cell_regrown HQ.out.c0
  have kQ1 := cell_regrown HQ.out.c1
  have q0 := fun d os => Calls.regrown_of (F0.out (grow (redrawn y5 d) os))
  have q1 := fun d os => Calls.regrown_of (F1.out (grow (redrawn y5 d) os))
  have q2 := fun d os => Calls.regrown_of (F2.out (grow (redrawn y5 d) os))
  have q3 := fun d os => Calls.regrown_of (F3.out (grow (redrawn y5 d) os))
  have q4 := fun d os => Calls.regrown_of (F4.out (grow (redrawn y5 d) os))
  have q5 := fun d os => Calls.regrown_of (F5.out (grow (redrawn y5 d) os))
  have q6 := fun d os => Calls.regrown_of (F6.out (grow (redrawn y5 d) os))
  have q7 := fun d os => Calls.regrown_of (F7.out (grow (redrawn y5 d) os))
  refine wp_region_quiet_below (by kernel_rfl) (by kernel_rfl) ?_
  repeat (first | go_big_quiet_step (first | with_reducible exact q0 _ _ | with_reducible exact q1 _ _ | with_reducible exact q2 _ _ | with_reducible exact q3 _ _ | with_reducible exact q4 _ _ | with_reducible exact q5 _ _ | with_reducible exact q6 _ _ | with_reducible exact q7 _ _) | quiet_step (first | with_reducible exact q0 _ _ | with_reducible exact q1 _ _ | with_reducible exact q2 _ _ | with_reducible exact q3 _ _ | with_reducible exact q4 _ _ | with_reducible exact q5 _ _ | with_reducible exact q6 _ _ | with_reducible exact q7 _ _))
  refine wpQuiet_nil ?_
  intro _ hw'
  obtain ⟨⟨dq, osq⟩, hw''⟩ := hw'
  subst hw''
  have hb := below_regrown y5 dq osq
  clear kX0 kX1 kY0 kY1 kS0 kS1 kQ0 kQ1 q0 q1 q2 q3 q4 q5 q6 q7
  have TT := HA.out.below hb HA.out.lt; clear HA; have HA := Lib.hid TT; clear TT
  have TT := HB.out.below hb HB.out.lt; clear HB; have HB := Lib.hid TT; clear TT
  have TT := HX.out.below hb HX.out.lt; clear HX; have HX := Lib.hid TT; clear TT
  have TT := HY.out.below hb HY.out.lt; clear HY; have HY := Lib.hid TT; clear TT
  have TT := HS.out.below hb HS.out.lt; clear HS; have HS := Lib.hid TT; clear TT
  have TT := HQ.out.below hb HQ.out.lt; clear HQ; have HQ := Lib.hid TT; clear TT
  have TT := HBN.out.trans (hb.mono HBN.out.size); clear HBN; have HBN := Lib.hid TT; clear TT hb
  generalize grow (redrawn y5 dq) osq = W1q at *
  go_wp2_with fail
  go_ret
  exact ⟨rfl, HBN.out⟩

set_option maxRecDepth 100000 in
set_option maxHeartbeats 16000000 in
theorem height_6 (a b : V) (n : Int) (hn : -2147483648 ≤ n ∧ n ≤ 2147483647) (hx : join a vbot = ⟨1, n⟩) (hy : join b vbot = ⟨0, 0⟩) (w : World) :
    Calls Try.prog 7 #[a.val, b.val] w fun e w' => e = .returned (.bool true) ∧ Below w.heap.size w w' := by
  have J1 := Lib.hid (fun W => Join_any a vbot W)
  have J2 := Lib.hid (fun W => Join_any b vbot W)
  rw [hx] at J1
  rw [hy] at J2
  have F0 := Lib.hid (fun W => Leq_any ⟨1, n⟩ ⟨0, 0⟩ W)
  rw [show leq ⟨1, n⟩ ⟨0, 0⟩ = false from (leq_of (a := ⟨1, n⟩) (b := ⟨0, 0⟩) (.inl ⟨rfl, hn.1, hn.2⟩) vbot_sane).trans (by simp [leV])] at F0
  have F1 := Lib.hid (fun W => Leq_any ⟨0, 0⟩ ⟨1, n⟩ W)
  rw [show leq ⟨0, 0⟩ ⟨1, n⟩ = true from (leq_of (a := ⟨0, 0⟩) (b := ⟨1, n⟩) vbot_sane (.inl ⟨rfl, hn.1, hn.2⟩)).trans (by simp [leV])] at F1
  have F2 := Lib.hid (fun W => Leq_any ⟨1, n⟩ ⟨2, 0⟩ W)
  rw [show leq ⟨1, n⟩ ⟨2, 0⟩ = true from (leq_of (a := ⟨1, n⟩) (b := ⟨2, 0⟩) (.inl ⟨rfl, hn.1, hn.2⟩) vtop_sane).trans (by simp [leV])] at F2
  have F3 := Lib.hid (fun W => Leq_any ⟨1, n⟩ ⟨0, 0⟩ W)
  rw [show leq ⟨1, n⟩ ⟨0, 0⟩ = false from (leq_of (a := ⟨1, n⟩) (b := ⟨0, 0⟩) (.inl ⟨rfl, hn.1, hn.2⟩) vbot_sane).trans (by simp [leV])] at F3
  have F4 := Lib.hid (fun W => Leq_any ⟨2, 0⟩ ⟨1, n⟩ W)
  rw [show leq ⟨2, 0⟩ ⟨1, n⟩ = false from (leq_of (a := ⟨2, 0⟩) (b := ⟨1, n⟩) vtop_sane (.inl ⟨rfl, hn.1, hn.2⟩)).trans (by simp [leV])] at F4
  have F5 := Lib.hid (fun W => Leq_any ⟨0, 0⟩ ⟨1, n⟩ W)
  rw [show leq ⟨0, 0⟩ ⟨1, n⟩ = true from (leq_of (a := ⟨0, 0⟩) (b := ⟨1, n⟩) vbot_sane (.inl ⟨rfl, hn.1, hn.2⟩)).trans (by simp [leV])] at F5
  have F6 := Lib.hid (fun W => Height_any ⟨1, n⟩ W)
  rw [show hgt ⟨1, n⟩ = 1 from hgt_of (a := ⟨1, n⟩) (.inl ⟨rfl, hn.1, hn.2⟩)] at F6
  have F7 := Lib.hid (fun W => Height_any ⟨0, 0⟩ W)
  rw [show hgt ⟨0, 0⟩ = 0 from hgt_of (a := ⟨0, 0⟩) vbot_sane] at F7
  have HO0 := Lib.hid (fun W => ours_any a W)
  have HO1 := Lib.hid (fun W => ours_any b W)
  clear hx hy hn
  simp only [V.val, vbot] at J1 J2 F0 F1 F2 F3 F4 F5 F6 F7
  unfold V.val at *
  have BA := ((Box.new w (.int .i64 a.k) (.int .i64 a.c) 23).alloc (.cells #[.int .i64 b.k, .int .i64 b.c] 23))
  have BB := (Box.new (w.alloc (.cells #[.int .i64 a.k, .int .i64 a.c] 23)) (.int .i64 b.k) (.int .i64 b.c) 23)
  have hW := below2 w (.cells #[.int .i64 a.k, .int .i64 a.c] 23) (.cells #[.int .i64 b.k, .int .i64 b.c] 23)
  simp only [World.size_alloc] at BB
  generalize hE : ((w.alloc (.cells #[.int .i64 a.k, .int .i64 a.c] 23)).alloc (.cells #[.int .i64 b.k, .int .i64 b.c] 23)) = W0 at *
  have HA := Lib.hid BA
  have HB := Lib.hid BB
  have HBN := Lib.hid hW
  clear hW BA BB
  go_enter Try.func7, Try.ntmps7
  go_wp2_with fail
  refine (awake_any _).mono ?_
  rintro e w1 ⟨rfl, hb⟩
  have TT := HA.out.below hb HA.out.lt; clear HA; have HA := Lib.hid TT; clear TT
  have TT := HB.out.below hb HB.out.lt; clear HB; have HB := Lib.hid TT; clear TT
  have TT := HBN.out.trans (hb.mono HBN.out.size); clear HBN; have HBN := Lib.hid TT; clear TT hb
  clear hE
  obtain ⟨cA0, cA1, -, -⟩ := id HA.out
  go_wp2_with fail
  clear cA0 cA1
  refine (HO0.out _).mono ?_
  rintro e w2 ⟨rfl, hb⟩
  have TT := HA.out.below hb HA.out.lt; clear HA; have HA := Lib.hid TT; clear TT
  have TT := HB.out.below hb HB.out.lt; clear HB; have HB := Lib.hid TT; clear TT
  have TT := HBN.out.trans (hb.mono HBN.out.size); clear HBN; have HBN := Lib.hid TT; clear TT hb
  go_wp2_with fail
  refine (J1.out _).mono ?_
  rintro e w3 ⟨rfl, hb⟩
  have TT := HA.out.below hb HA.out.lt; clear HA; have HA := Lib.hid TT; clear TT
  have TT := HB.out.below hb HB.out.lt; clear HB; have HB := Lib.hid TT; clear TT
  have TT := HBN.out.trans (hb.mono HBN.out.size); clear HBN; have HBN := Lib.hid TT; clear TT hb
  have TT := HA.out.alloc (.cells #[.int .i64 1, .int .i64 n] 25); clear HA; have HA := Lib.hid TT; clear TT
  have TT := HB.out.alloc (.cells #[.int .i64 1, .int .i64 n] 25); clear HB; have HB := Lib.hid TT; clear TT
  have HX := Lib.hid (Box.new w3 (.int .i64 1) (.int .i64 n) 25)
  have TT := HBN.out.trans (((Below.refl w3.heap.size w3).alloc (Nat.le_refl _) (.cells #[.int .i64 1, .int .i64 n] 25)).mono HBN.out.size); clear HBN; have HBN := Lib.hid TT; clear TT
  obtain ⟨cB0, cB1, -, -⟩ := id HB.out
  go_wp2_with fail
  clear cB0 cB1
  obtain ⟨bX, hbb⟩ : ∃ b, w3.heap.size = b := ⟨_, rfl⟩
  rw [hbb]
  rw [hbb] at HX
  clear hbb
  generalize w3.alloc (.cells #[.int .i64 1, .int .i64 n] 25) = y3 at *
  refine (HO1.out _).mono ?_
  rintro e w4 ⟨rfl, hb⟩
  have TT := HA.out.below hb HA.out.lt; clear HA; have HA := Lib.hid TT; clear TT
  have TT := HB.out.below hb HB.out.lt; clear HB; have HB := Lib.hid TT; clear TT
  have TT := HX.out.below hb HX.out.lt; clear HX; have HX := Lib.hid TT; clear TT
  have TT := HBN.out.trans (hb.mono HBN.out.size); clear HBN; have HBN := Lib.hid TT; clear TT hb
  go_wp2_with fail
  refine (J2.out _).mono ?_
  rintro e w5 ⟨rfl, hb⟩
  have TT := HA.out.below hb HA.out.lt; clear HA; have HA := Lib.hid TT; clear TT
  have TT := HB.out.below hb HB.out.lt; clear HB; have HB := Lib.hid TT; clear TT
  have TT := HX.out.below hb HX.out.lt; clear HX; have HX := Lib.hid TT; clear TT
  have TT := HBN.out.trans (hb.mono HBN.out.size); clear HBN; have HBN := Lib.hid TT; clear TT hb
  have TT := HA.out.alloc (.cells #[.int .i64 0, .int .i64 0] 25); clear HA; have HA := Lib.hid TT; clear TT
  have TT := HB.out.alloc (.cells #[.int .i64 0, .int .i64 0] 25); clear HB; have HB := Lib.hid TT; clear TT
  have TT := HX.out.alloc (.cells #[.int .i64 0, .int .i64 0] 25); clear HX; have HX := Lib.hid TT; clear TT
  have HY := Lib.hid (Box.new w5 (.int .i64 0) (.int .i64 0) 25)
  have TT := HBN.out.trans (((Below.refl w5.heap.size w5).alloc (Nat.le_refl _) (.cells #[.int .i64 0, .int .i64 0] 25)).mono HBN.out.size); clear HBN; have HBN := Lib.hid TT; clear TT
  have TT := HA.out.alloc (.cells #[.int .i64 0, .int .i64 0] 25); clear HA; have HA := Lib.hid TT; clear TT
  have TT := HB.out.alloc (.cells #[.int .i64 0, .int .i64 0] 25); clear HB; have HB := Lib.hid TT; clear TT
  have TT := HX.out.alloc (.cells #[.int .i64 0, .int .i64 0] 25); clear HX; have HX := Lib.hid TT; clear TT
  have TT := HY.out.alloc (.cells #[.int .i64 0, .int .i64 0] 25); clear HY; have HY := Lib.hid TT; clear TT
  have HS := Lib.hid (Box.new (w5.alloc (.cells #[.int .i64 0, .int .i64 0] 25)) (.int .i64 0) (.int .i64 0) 25)
  have TT := HBN.out.trans (((Below.refl (w5.alloc (.cells #[.int .i64 0, .int .i64 0] 25)).heap.size (w5.alloc (.cells #[.int .i64 0, .int .i64 0] 25))).alloc (Nat.le_refl _) (.cells #[.int .i64 0, .int .i64 0] 25)).mono HBN.out.size); clear HBN; have HBN := Lib.hid TT; clear TT
  have TT := HA.out.alloc (.cells #[.int .i64 2, .int .i64 0] 25); clear HA; have HA := Lib.hid TT; clear TT
  have TT := HB.out.alloc (.cells #[.int .i64 2, .int .i64 0] 25); clear HB; have HB := Lib.hid TT; clear TT
  have TT := HX.out.alloc (.cells #[.int .i64 2, .int .i64 0] 25); clear HX; have HX := Lib.hid TT; clear TT
  have TT := HY.out.alloc (.cells #[.int .i64 2, .int .i64 0] 25); clear HY; have HY := Lib.hid TT; clear TT
  have TT := HS.out.alloc (.cells #[.int .i64 2, .int .i64 0] 25); clear HS; have HS := Lib.hid TT; clear TT
  have HQ := Lib.hid (Box.new ((w5.alloc (.cells #[.int .i64 0, .int .i64 0] 25)).alloc (.cells #[.int .i64 0, .int .i64 0] 25)) (.int .i64 2) (.int .i64 0) 25)
  have TT := HBN.out.trans (((Below.refl ((w5.alloc (.cells #[.int .i64 0, .int .i64 0] 25)).alloc (.cells #[.int .i64 0, .int .i64 0] 25)).heap.size ((w5.alloc (.cells #[.int .i64 0, .int .i64 0] 25)).alloc (.cells #[.int .i64 0, .int .i64 0] 25))).alloc (Nat.le_refl _) (.cells #[.int .i64 2, .int .i64 0] 25)).mono HBN.out.size); clear HBN; have HBN := Lib.hid TT; clear TT
  simp only [World.size_alloc] at HS HQ
  go_upto_region 6 with fail
  obtain ⟨bY, hbb⟩ : ∃ b, w5.heap.size = b := ⟨_, rfl⟩
  rw [hbb]
  rw [hbb] at HY HS HQ
  clear hbb
  generalize ((w5.alloc (.cells #[.int .i64 0, .int .i64 0] 25)).alloc (.cells #[.int .i64 0, .int .i64 0] 25)).alloc (.cells #[.int .i64 2, .int .i64 0] 25) = y5 at *
  have kX0 := cell_regrown HX.out.c0
  have kX1 := cell_regrown HX.out.c1
  have kY0 := cell_regrown HY.out.c0
  have kY1 := cell_regrown HY.out.c1
  have kS0 := cell_regrown HS.out.c0
  have kS1 := cell_regrown HS.out.c1
  have kQ0 := cell_regrown HQ.out.c0
  have kQ1 := cell_regrown HQ.out.c1
  have q0 := fun d os => Calls.regrown_of (F0.out (grow (redrawn y5 d) os))
  have q1 := fun d os => Calls.regrown_of (F1.out (grow (redrawn y5 d) os))
  have q2 := fun d os => Calls.regrown_of (F2.out (grow (redrawn y5 d) os))
  have q3 := fun d os => Calls.regrown_of (F3.out (grow (redrawn y5 d) os))
  have q4 := fun d os => Calls.regrown_of (F4.out (grow (redrawn y5 d) os))
  have q5 := fun d os => Calls.regrown_of (F5.out (grow (redrawn y5 d) os))
  have q6 := fun d os => Calls.regrown_of (F6.out (grow (redrawn y5 d) os))
  have q7 := fun d os => Calls.regrown_of (F7.out (grow (redrawn y5 d) os))
  refine wp_region_quiet_below (by kernel_rfl) (by kernel_rfl) ?_
  repeat (first | go_big_quiet_step (first | with_reducible exact q0 _ _ | with_reducible exact q1 _ _ | with_reducible exact q2 _ _ | with_reducible exact q3 _ _ | with_reducible exact q4 _ _ | with_reducible exact q5 _ _ | with_reducible exact q6 _ _ | with_reducible exact q7 _ _) | quiet_step (first | with_reducible exact q0 _ _ | with_reducible exact q1 _ _ | with_reducible exact q2 _ _ | with_reducible exact q3 _ _ | with_reducible exact q4 _ _ | with_reducible exact q5 _ _ | with_reducible exact q6 _ _ | with_reducible exact q7 _ _))
  refine wpQuiet_nil ?_
  intro _ hw'
  obtain ⟨⟨dq, osq⟩, hw''⟩ := hw'
  subst hw''
  have hb := below_regrown y5 dq osq
  clear kX0 kX1 kY0 kY1 kS0 kS1 kQ0 kQ1 q0 q1 q2 q3 q4 q5 q6 q7
  have TT := HA.out.below hb HA.out.lt; clear HA; have HA := Lib.hid TT; clear TT
  have TT := HB.out.below hb HB.out.lt; clear HB; have HB := Lib.hid TT; clear TT
  have TT := HX.out.below hb HX.out.lt; clear HX; have HX := Lib.hid TT; clear TT
  have TT := HY.out.below hb HY.out.lt; clear HY; have HY := Lib.hid TT; clear TT
  have TT := HS.out.below hb HS.out.lt; clear HS; have HS := Lib.hid TT; clear TT
  have TT := HQ.out.below hb HQ.out.lt; clear HQ; have HQ := Lib.hid TT; clear TT
  have TT := HBN.out.trans (hb.mono HBN.out.size); clear HBN; have HBN := Lib.hid TT; clear TT hb
  generalize grow (redrawn y5 dq) osq = W1q at *
  go_wp2_with fail
  go_ret
  exact ⟨rfl, HBN.out⟩
end Go.Proofs.Ytehfhconhcefbaa
