import Derived.Test.YtkcgbdggipijlaaDoorSigF
import Derived.Test.YtkcgbdggipijlaaDoorSigO
namespace Go.Proofs.YtkcgbdggipijlaaDoor
open Go Go.RowKit Go.Sort

set_option maxRecDepth 100000 in
set_option maxHeartbeats 8000000 in
theorem flat_law (a b : V) (w : World) (hT : Tabs w) :
    Calls Tryd.prog 8 #[a.val, b.val] w fun e w' => e = .returned (.bool true) ∧ Below w.heap.size w w' := by
  have FX : Hid (∀ W, Tabs W → Calls Tryd.prog 31 #[a.val] W fun e w' => e = .returned (.int .i64 (fromV a : Nat)) ∧ Below W.heap.size W w') := fun W hT => gFrom_any a W
  have FY : Hid (∀ W, Tabs W → Calls Tryd.prog 31 #[b.val] W fun e w' => e = .returned (.int .i64 (fromV b : Nat)) ∧ Below W.heap.size W w') := fun W hT => gFrom_any b W
  have L0 : Hid (∀ W, Tabs W → Calls Tryd.prog 34 #[a.val, b.val] W fun e w' => e = .returned (.bool (leq a b)) ∧ Below W.heap.size W w') := fun W hT => Leq_any a b W
  have L1 : Hid (leq a b = true → ∀ W, Tabs W → Calls Tryd.prog 16 #[.int .i64 (fromV a : Nat), .int .i64 (fromV b : Nat)] W fun e w' => e = .returned (.bool true) ∧ Below W.heap.size W w') := fun hs W hT => by have h := gLeq_any (fromV a : Nat) (fromV b : Nat) W; rw [sS_of (fromV_lt a), sS_of (fromV_lt b), show leqN (fromV a) (fromV b) = true from from_le hs] at h; exact h
  have J0 : Hid (∀ W, Tabs W → Calls Tryd.prog 14 #[.int .i64 (fromV a : Nat), .int .i64 (fromV b : Nat)] W fun e w' => e = .returned (.int .i64 (fromV a ||| fromV b : Nat)) ∧ Below W.heap.size W w') := fun W hT => by have h := gJoin_any (fromV a : Nat) (fromV b : Nat) W; rw [sS_of (fromV_lt a), sS_of (fromV_lt b)] at h; exact h
  have J1 : Hid (∀ W, Tabs W → Calls Tryd.prog 35 #[a.val, b.val] W fun e w' => e = .returned ((join a b).val) ∧ Below W.heap.size W w') := fun W hT => Join_any a b W
  have F2 : Hid (∀ W, Tabs W → Calls Tryd.prog 31 #[(join a b).val] W fun e w' => e = .returned (.int .i64 (fromV (join a b) : Nat)) ∧ Below W.heap.size W w') := fun W hT => gFrom_any _ W
  have L2 : Hid (∀ W, Tabs W → Calls Tryd.prog 16 #[.int .i64 (fromV a ||| fromV b : Nat), .int .i64 (fromV (join a b) : Nat)] W fun e w' => e = .returned (.bool true) ∧ Below W.heap.size W w') := fun W hT => by have h := gLeq_any (fromV a ||| fromV b : Nat) (fromV (join a b) : Nat) W; rw [sS_of (or_lt (fromV_lt a) (fromV_lt b)), sS_of (fromV_lt _), show leqN (fromV a ||| fromV b) (fromV (join a b)) = true from from_join a b] at h; exact h
  have V0 : Hid (∀ W, Tabs W → Calls Tryd.prog 36 #[a.val, b.val] W fun e w' => e = .returned ((addV a b).val) ∧ Below W.heap.size W w') := fun W hT => Add_any a b W
  have G0 : Hid (∀ W, Tabs W → Calls Tryd.prog 31 #[(addV a b).val] W fun e w' => e = .returned (.int .i64 (fromV (addV a b) : Nat)) ∧ Below W.heap.size W w') := fun W hT => gFrom_any _ W
  have A0 : Hid (∀ W, Tabs W → Calls Tryd.prog 25 #[.int .i64 (fromV a : Nat), .int .i64 (fromV b : Nat)] W fun e w' => e = .returned (.int .i64 (addN (fromV a) (fromV b) : Nat)) ∧ Below W.heap.size W w') := fun W hT => by have h := gAdd_any (fromV a : Nat) (fromV b : Nat) W hT; rw [sS_of (fromV_lt a), sS_of (fromV_lt b)] at h; exact h
  have M0 : Hid ((-1048576 < a.c ∧ a.c < 1048576 ∧ -1048576 < b.c ∧ b.c < 1048576) → ∀ W, Tabs W → Calls Tryd.prog 16 #[.int .i64 (fromV (addV a b) : Nat), .int .i64 (addN (fromV a) (fromV b) : Nat)] W fun e w' => e = .returned (.bool true) ∧ Below W.heap.size W w') := fun hs W hT => by have h := gLeq_any (fromV (addV a b) : Nat) (addN (fromV a) (fromV b) : Nat) W; rw [sS_of (fromV_lt _), sS_of (addN_lt (fromV_lt a) (fromV_lt b)), show leqN (fromV (addV a b)) (addN (fromV a) (fromV b)) = true from from_add a b hs] at h; exact h
  have V1 : Hid (∀ W, Tabs W → Calls Tryd.prog 37 #[a.val, b.val] W fun e w' => e = .returned ((subV a b).val) ∧ Below W.heap.size W w') := fun W hT => Sub_any a b W
  have G1 : Hid (∀ W, Tabs W → Calls Tryd.prog 31 #[(subV a b).val] W fun e w' => e = .returned (.int .i64 (fromV (subV a b) : Nat)) ∧ Below W.heap.size W w') := fun W hT => gFrom_any _ W
  have A1 : Hid (∀ W, Tabs W → Calls Tryd.prog 27 #[.int .i64 (fromV a : Nat), .int .i64 (fromV b : Nat)] W fun e w' => e = .returned (.int .i64 (subN (fromV a) (fromV b) : Nat)) ∧ Below W.heap.size W w') := fun W hT => by have h := gSub_any (fromV a : Nat) (fromV b : Nat) W hT; rw [sS_of (fromV_lt a), sS_of (fromV_lt b)] at h; exact h
  have M1 : Hid ((-1048576 < a.c ∧ a.c < 1048576 ∧ -1048576 < b.c ∧ b.c < 1048576) → ∀ W, Tabs W → Calls Tryd.prog 16 #[.int .i64 (fromV (subV a b) : Nat), .int .i64 (subN (fromV a) (fromV b) : Nat)] W fun e w' => e = .returned (.bool true) ∧ Below W.heap.size W w') := fun hs W hT => by have h := gLeq_any (fromV (subV a b) : Nat) (subN (fromV a) (fromV b) : Nat) W; rw [sS_of (fromV_lt _), sS_of (subN_lt (fromV_lt a) (fromV_lt b)), show leqN (fromV (subV a b)) (subN (fromV a) (fromV b)) = true from from_sub a b hs] at h; exact h
  obtain ⟨r, hr⟩ : ∃ r, leq a b = r := ⟨_, rfl⟩
  rw [hr] at L0 L1
  clear hr
  generalize fromV (join a b) = fj at *
  generalize fromV (addV a b) = fa at *
  generalize fromV (subV a b) = fs at *
  generalize addN (fromV a) (fromV b) = sa at *
  generalize subN (fromV a) (fromV b) = ss at *
  generalize fromV a ||| fromV b = st at *
  generalize fromV a = s at *
  generalize fromV b = t at *
  generalize join a b = j at *
  generalize addV a b = va at *
  generalize subV a b = vs at *
  unfold V.val at *
  have HT := Lib.hid hT
  clear hT
  have HAW := Lib.hid gawake_any
  have BA := ((Box.new w (.int .i64 a.k) (.int .i64 a.c) 23).alloc (.cells #[.int .i64 b.k, .int .i64 b.c] 23))
  have BB := (Box.new (w.alloc (.cells #[.int .i64 a.k, .int .i64 a.c] 23)) (.int .i64 b.k) (.int .i64 b.c) 23)
  have hW := below2 w (.cells #[.int .i64 a.k, .int .i64 a.c] 23) (.cells #[.int .i64 b.k, .int .i64 b.c] 23)
  simp only [World.size_alloc] at BB
  generalize hE : ((w.alloc (.cells #[.int .i64 a.k, .int .i64 a.c] 23)).alloc (.cells #[.int .i64 b.k, .int .i64 b.c] 23)) = W0 at *
  have HA := Lib.hid BA
  have HB := Lib.hid BB
  have HBN := Lib.hid hW
  clear hW BA BB
  have TT := HT.out.on HBN.out; clear HT; have HT := Lib.hid TT; clear TT
  go_enter Tryd.func8, Tryd.ntmps8
  go_wp2_with fail
  refine (HAW.out _ HT.out).mono ?_
  clear HAW hE
  rintro e w1 ⟨rfl, hb⟩
  have TT := HA.out.below hb HA.out.lt; clear HA; have HA := Lib.hid TT; clear TT
  have TT := HB.out.below hb HB.out.lt; clear HB; have HB := Lib.hid TT; clear TT
  have TT := HT.out.on hb; clear HT; have HT := Lib.hid TT; clear TT
  have TT := HBN.out.trans (hb.mono HBN.out.size); clear HBN; have HBN := Lib.hid TT; clear TT hb
  obtain ⟨cA0, cA1, -, -⟩ := id HA.out
  obtain ⟨eB0, eB1, -, -⟩ := id (HB.out.alloc (.cells #[.int .i64 a.k, .int .i64 a.c] 33))
  go_wp2_with fail
  clear cA0 cA1
  clear eB0 eB1
  have hb := below2 w1 (.cells #[.int .i64 a.k, .int .i64 a.c] 33) (.cells #[.int .i64 b.k, .int .i64 b.c] 33)
  have HX := Lib.hid ((Box.new w1 (.int .i64 a.k) (.int .i64 a.c) 33).alloc (.cells #[.int .i64 b.k, .int .i64 b.c] 33))
  have HY := Lib.hid (Box.new (w1.alloc (.cells #[.int .i64 a.k, .int .i64 a.c] 33)) (.int .i64 b.k) (.int .i64 b.c) 33)
  rw [World.size_alloc] at HY
  have TT := HA.out.below hb HA.out.lt; clear HA; have HA := Lib.hid TT; clear TT
  have TT := HB.out.below hb HB.out.lt; clear HB; have HB := Lib.hid TT; clear TT
  have TT := HT.out.on hb; clear HT; have HT := Lib.hid TT; clear TT
  have TT := HBN.out.trans (hb.mono HBN.out.size); clear HBN; have HBN := Lib.hid TT; clear TT hb
  obtain ⟨bX, hbb⟩ : ∃ b, w1.heap.size = b := ⟨_, rfl⟩
  rw [hbb] at HX HY ⊢
  clear hbb
  generalize (w1.alloc (.cells #[.int .i64 a.k, .int .i64 a.c] 33)).alloc (.cells #[.int .i64 b.k, .int .i64 b.c] 33) = y1 at *
  refine (FX.out _ HT.out).mono ?_
  rintro e w2 ⟨rfl, hb⟩
  have TT := HA.out.below hb HA.out.lt; clear HA; have HA := Lib.hid TT; clear TT
  have TT := HB.out.below hb HB.out.lt; clear HB; have HB := Lib.hid TT; clear TT
  have TT := HX.out.below hb HX.out.lt; clear HX; have HX := Lib.hid TT; clear TT
  have TT := HY.out.below hb HY.out.lt; clear HY; have HY := Lib.hid TT; clear TT
  have TT := HT.out.on hb; clear HT; have HT := Lib.hid TT; clear TT
  have TT := HBN.out.trans (hb.mono HBN.out.size); clear HBN; have HBN := Lib.hid TT; clear TT hb
  obtain ⟨cY0, cY1, -, -⟩ := id HY.out
  go_wp2_with fail
  clear cY0 cY1
  refine (FY.out _ HT.out).mono ?_
  rintro e w3 ⟨rfl, hb⟩
  have TT := HA.out.below hb HA.out.lt; clear HA; have HA := Lib.hid TT; clear TT
  have TT := HB.out.below hb HB.out.lt; clear HB; have HB := Lib.hid TT; clear TT
  have TT := HX.out.below hb HX.out.lt; clear HX; have HX := Lib.hid TT; clear TT
  have TT := HY.out.below hb HY.out.lt; clear HY; have HY := Lib.hid TT; clear TT
  have TT := HT.out.on hb; clear HT; have HT := Lib.hid TT; clear TT
  have TT := HBN.out.trans (hb.mono HBN.out.size); clear HBN; have HBN := Lib.hid TT; clear TT hb
  go_upto_region 6 with fail
  go_cut [10] (fun z wx => ∃ sm : Bool, z = .bool sm ∧ Hid (sm = true → (-1048576 < a.c ∧ a.c < 1048576 ∧ -1048576 < b.c ∧ b.c < 1048576)) ∧ Box wx bX (.int .i64 a.k) (.int .i64 a.c) ∧ Box wx (bX + 1) (.int .i64 b.k) (.int .i64 b.c) ∧ Below w.heap.size w wx ∧ Tabs wx)
  case first =>
    clear FX FY L0 L1 J0 J1 F2 L2 V0 V1 G0 G1 A0 A1 M0 M1
    obtain ⟨cA0, cA1, -, -⟩ := id HA.out
    obtain ⟨cB0, cB1, -, -⟩ := id HB.out
    go_wp2_with fail
    all_goals
      go_meet
      refine ⟨_, rfl, ?_, HX.out, HY.out, HBN.out, HT.out⟩
      clear cA0 cA1 cB0 cB1 HX HY HA HB HBN HT
      intro h
      simp at *
      try omega
  case rest =>
    obtain ⟨sm, rfl, hsm, hX, hY, hB, hT⟩ := hcut
    clear HX HY HA HB HBN HT FX FY
    have HX := Lib.hid hX; have HY := Lib.hid hY; have HBN := Lib.hid hB; have HT := Lib.hid hT
    clear hX hY hB hT
    go_upto_region 7 with fail
    cases r with
    | true =>
      have K1 := Lib.hid (L1.out rfl)
      clear L1
      have kX0 := cell_regrown HX.out.c0
      have kX1 := cell_regrown HX.out.c1
      have kY0 := cell_regrown HY.out.c0
      have kY1 := cell_regrown HY.out.c1
      have q0 := fun d os => Calls.regrown_of (L0.out (grow (redrawn wc d) os) (HT.out.on (below_regrown wc d os)))
      have q1 := fun d os => Calls.regrown_of (K1.out (grow (redrawn wc d) os) (HT.out.on (below_regrown wc d os)))
      have q2 := fun d os => Calls.regrown_of (J0.out (grow (redrawn wc d) os) (HT.out.on (below_regrown wc d os)))
      have q3 := fun d os => Calls.regrown_of (J1.out (grow (redrawn wc d) os) (HT.out.on (below_regrown wc d os)))
      have q4 := fun d os => Calls.regrown_of (F2.out (grow (redrawn wc d) os) (HT.out.on (below_regrown wc d os)))
      have q5 := fun d os => Calls.regrown_of (L2.out (grow (redrawn wc d) os) (HT.out.on (below_regrown wc d os)))
      try simp only [List.append_eq, List.cons_append, List.nil_append]
      refine wp_region_quiet_below (by kernel_rfl) (by kernel_rfl) ?_
      repeat (first | go_big_quiet_step (first | with_reducible exact q0 _ _ | with_reducible exact q1 _ _ | with_reducible exact q2 _ _ | with_reducible exact q3 _ _ | with_reducible exact q4 _ _ | with_reducible exact q5 _ _) | quiet_step (first | with_reducible exact q0 _ _ | with_reducible exact q1 _ _ | with_reducible exact q2 _ _ | with_reducible exact q3 _ _ | with_reducible exact q4 _ _ | with_reducible exact q5 _ _))
      refine wpQuiet_nil ?_
      intro _ hw'
      obtain ⟨⟨dq, osq⟩, hw''⟩ := hw'
      subst hw''
      have hb := below_regrown wc dq osq
      clear kX0 kX1 kY0 kY1 q0 q1 q2 q3 q4 q5
      have TT := HX.out.below hb HX.out.lt; clear HX; have HX := Lib.hid TT; clear TT
      have TT := HY.out.below hb HY.out.lt; clear HY; have HY := Lib.hid TT; clear TT
      have TT := HT.out.on hb; clear HT; have HT := Lib.hid TT; clear TT
      have TT := HBN.out.trans (hb.mono HBN.out.size); clear HBN; have HBN := Lib.hid TT; clear TT hb
      generalize grow (redrawn wc dq) osq = W1q at *
      clear L0 K1 J0 J1 F2 L2
      cases sm with
      | false =>
        obtain ⟨cX0, cX1, -, -⟩ := id HX.out
        obtain ⟨cY0, cY1, -, -⟩ := id HY.out
        go_wp2_with (first
          | (go_at_call 36; (first | with_reducible refine (V0.out _ HT.out).mono ?_); rintro e wn ⟨rfl, hbn⟩; have TT := HX.out.below hbn HX.out.lt; clear HX cX0 cX1; have HX := Lib.hid TT; clear TT; obtain ⟨cX0, cX1, -, -⟩ := id HX.out; have TT := HY.out.below hbn HY.out.lt; clear HY cY0 cY1; have HY := Lib.hid TT; clear TT; obtain ⟨cY0, cY1, -, -⟩ := id HY.out; have hbt := HT.out.on hbn; clear HT; have HT := Lib.hid hbt; clear hbt; have hbx := HBN.out.trans (hbn.mono HBN.out.size); clear HBN hbn; have HBN := Lib.hid hbx; clear hbx))
        go_ret
        exact ⟨rfl, HBN.out⟩
      | true =>
        have N0 := Lib.hid (M0.out (hsm.out rfl)); have N1 := Lib.hid (M1.out (hsm.out rfl))
        clear M0 M1 hsm
        obtain ⟨cX0, cX1, -, -⟩ := id HX.out
        obtain ⟨cY0, cY1, -, -⟩ := id HY.out
        go_wp2_with (first
          | (go_at_call 36; (first | with_reducible refine (V0.out _ HT.out).mono ?_); rintro e wn ⟨rfl, hbn⟩; have TT := HX.out.below hbn HX.out.lt; clear HX cX0 cX1; have HX := Lib.hid TT; clear TT; obtain ⟨cX0, cX1, -, -⟩ := id HX.out; have TT := HY.out.below hbn HY.out.lt; clear HY cY0 cY1; have HY := Lib.hid TT; clear TT; obtain ⟨cY0, cY1, -, -⟩ := id HY.out; have hbt := HT.out.on hbn; clear HT; have HT := Lib.hid hbt; clear hbt; have hbx := HBN.out.trans (hbn.mono HBN.out.size); clear HBN hbn; have HBN := Lib.hid hbx; clear hbx)
          | (go_at_call 31; (first | with_reducible refine (G0.out _ HT.out).mono ?_ | with_reducible refine (G1.out _ HT.out).mono ?_); rintro e wn ⟨rfl, hbn⟩; have TT := HX.out.below hbn HX.out.lt; clear HX cX0 cX1; have HX := Lib.hid TT; clear TT; obtain ⟨cX0, cX1, -, -⟩ := id HX.out; have TT := HY.out.below hbn HY.out.lt; clear HY cY0 cY1; have HY := Lib.hid TT; clear TT; obtain ⟨cY0, cY1, -, -⟩ := id HY.out; have hbt := HT.out.on hbn; clear HT; have HT := Lib.hid hbt; clear hbt; have hbx := HBN.out.trans (hbn.mono HBN.out.size); clear HBN hbn; have HBN := Lib.hid hbx; clear hbx)
          | (go_at_call 25; (first | with_reducible refine (A0.out _ HT.out).mono ?_); rintro e wn ⟨rfl, hbn⟩; have TT := HX.out.below hbn HX.out.lt; clear HX cX0 cX1; have HX := Lib.hid TT; clear TT; obtain ⟨cX0, cX1, -, -⟩ := id HX.out; have TT := HY.out.below hbn HY.out.lt; clear HY cY0 cY1; have HY := Lib.hid TT; clear TT; obtain ⟨cY0, cY1, -, -⟩ := id HY.out; have hbt := HT.out.on hbn; clear HT; have HT := Lib.hid hbt; clear hbt; have hbx := HBN.out.trans (hbn.mono HBN.out.size); clear HBN hbn; have HBN := Lib.hid hbx; clear hbx)
          | (go_at_call 16; (first | with_reducible refine (N0.out _ HT.out).mono ?_ | with_reducible refine (N1.out _ HT.out).mono ?_); rintro e wn ⟨rfl, hbn⟩; have TT := HX.out.below hbn HX.out.lt; clear HX cX0 cX1; have HX := Lib.hid TT; clear TT; obtain ⟨cX0, cX1, -, -⟩ := id HX.out; have TT := HY.out.below hbn HY.out.lt; clear HY cY0 cY1; have HY := Lib.hid TT; clear TT; obtain ⟨cY0, cY1, -, -⟩ := id HY.out; have hbt := HT.out.on hbn; clear HT; have HT := Lib.hid hbt; clear hbt; have hbx := HBN.out.trans (hbn.mono HBN.out.size); clear HBN hbn; have HBN := Lib.hid hbx; clear hbx)
          | (go_at_call 37; (first | with_reducible refine (V1.out _ HT.out).mono ?_); rintro e wn ⟨rfl, hbn⟩; have TT := HX.out.below hbn HX.out.lt; clear HX cX0 cX1; have HX := Lib.hid TT; clear TT; obtain ⟨cX0, cX1, -, -⟩ := id HX.out; have TT := HY.out.below hbn HY.out.lt; clear HY cY0 cY1; have HY := Lib.hid TT; clear TT; obtain ⟨cY0, cY1, -, -⟩ := id HY.out; have hbt := HT.out.on hbn; clear HT; have HT := Lib.hid hbt; clear hbt; have hbx := HBN.out.trans (hbn.mono HBN.out.size); clear HBN hbn; have HBN := Lib.hid hbx; clear hbx)
          | (go_at_call 27; (first | with_reducible refine (A1.out _ HT.out).mono ?_); rintro e wn ⟨rfl, hbn⟩; have TT := HX.out.below hbn HX.out.lt; clear HX cX0 cX1; have HX := Lib.hid TT; clear TT; obtain ⟨cX0, cX1, -, -⟩ := id HX.out; have TT := HY.out.below hbn HY.out.lt; clear HY cY0 cY1; have HY := Lib.hid TT; clear TT; obtain ⟨cY0, cY1, -, -⟩ := id HY.out; have hbt := HT.out.on hbn; clear HT; have HT := Lib.hid hbt; clear hbt; have hbx := HBN.out.trans (hbn.mono HBN.out.size); clear HBN hbn; have HBN := Lib.hid hbx; clear hbx))
        go_ret
        exact ⟨rfl, HBN.out⟩
    | false =>
      clear L1
      have kX0 := cell_regrown HX.out.c0
      have kX1 := cell_regrown HX.out.c1
      have kY0 := cell_regrown HY.out.c0
      have kY1 := cell_regrown HY.out.c1
      have q0 := fun d os => Calls.regrown_of (L0.out (grow (redrawn wc d) os) (HT.out.on (below_regrown wc d os)))
      have q1 := fun d os => Calls.regrown_of (J0.out (grow (redrawn wc d) os) (HT.out.on (below_regrown wc d os)))
      have q2 := fun d os => Calls.regrown_of (J1.out (grow (redrawn wc d) os) (HT.out.on (below_regrown wc d os)))
      have q3 := fun d os => Calls.regrown_of (F2.out (grow (redrawn wc d) os) (HT.out.on (below_regrown wc d os)))
      have q4 := fun d os => Calls.regrown_of (L2.out (grow (redrawn wc d) os) (HT.out.on (below_regrown wc d os)))
      try simp only [List.append_eq, List.cons_append, List.nil_append]
      refine wp_region_quiet_below (by kernel_rfl) (by kernel_rfl) ?_
      repeat (first | go_big_quiet_step (first | with_reducible exact q0 _ _ | with_reducible exact q1 _ _ | with_reducible exact q2 _ _ | with_reducible exact q3 _ _ | with_reducible exact q4 _ _) | quiet_step (first | with_reducible exact q0 _ _ | with_reducible exact q1 _ _ | with_reducible exact q2 _ _ | with_reducible exact q3 _ _ | with_reducible exact q4 _ _))
      refine wpQuiet_nil ?_
      intro _ hw'
      obtain ⟨⟨dq, osq⟩, hw''⟩ := hw'
      subst hw''
      have hb := below_regrown wc dq osq
      clear kX0 kX1 kY0 kY1 q0 q1 q2 q3 q4
      have TT := HX.out.below hb HX.out.lt; clear HX; have HX := Lib.hid TT; clear TT
      have TT := HY.out.below hb HY.out.lt; clear HY; have HY := Lib.hid TT; clear TT
      have TT := HT.out.on hb; clear HT; have HT := Lib.hid TT; clear TT
      have TT := HBN.out.trans (hb.mono HBN.out.size); clear HBN; have HBN := Lib.hid TT; clear TT hb
      generalize grow (redrawn wc dq) osq = W2q at *
      clear L0 J0 J1 F2 L2
      cases sm with
      | false =>
        obtain ⟨cX0, cX1, -, -⟩ := id HX.out
        obtain ⟨cY0, cY1, -, -⟩ := id HY.out
        go_wp2_with (first
          | (go_at_call 36; (first | with_reducible refine (V0.out _ HT.out).mono ?_); rintro e wn ⟨rfl, hbn⟩; have TT := HX.out.below hbn HX.out.lt; clear HX cX0 cX1; have HX := Lib.hid TT; clear TT; obtain ⟨cX0, cX1, -, -⟩ := id HX.out; have TT := HY.out.below hbn HY.out.lt; clear HY cY0 cY1; have HY := Lib.hid TT; clear TT; obtain ⟨cY0, cY1, -, -⟩ := id HY.out; have hbt := HT.out.on hbn; clear HT; have HT := Lib.hid hbt; clear hbt; have hbx := HBN.out.trans (hbn.mono HBN.out.size); clear HBN hbn; have HBN := Lib.hid hbx; clear hbx))
        go_ret
        exact ⟨rfl, HBN.out⟩
      | true =>
        have N0 := Lib.hid (M0.out (hsm.out rfl)); have N1 := Lib.hid (M1.out (hsm.out rfl))
        clear M0 M1 hsm
        obtain ⟨cX0, cX1, -, -⟩ := id HX.out
        obtain ⟨cY0, cY1, -, -⟩ := id HY.out
        go_wp2_with (first
          | (go_at_call 36; (first | with_reducible refine (V0.out _ HT.out).mono ?_); rintro e wn ⟨rfl, hbn⟩; have TT := HX.out.below hbn HX.out.lt; clear HX cX0 cX1; have HX := Lib.hid TT; clear TT; obtain ⟨cX0, cX1, -, -⟩ := id HX.out; have TT := HY.out.below hbn HY.out.lt; clear HY cY0 cY1; have HY := Lib.hid TT; clear TT; obtain ⟨cY0, cY1, -, -⟩ := id HY.out; have hbt := HT.out.on hbn; clear HT; have HT := Lib.hid hbt; clear hbt; have hbx := HBN.out.trans (hbn.mono HBN.out.size); clear HBN hbn; have HBN := Lib.hid hbx; clear hbx)
          | (go_at_call 31; (first | with_reducible refine (G0.out _ HT.out).mono ?_ | with_reducible refine (G1.out _ HT.out).mono ?_); rintro e wn ⟨rfl, hbn⟩; have TT := HX.out.below hbn HX.out.lt; clear HX cX0 cX1; have HX := Lib.hid TT; clear TT; obtain ⟨cX0, cX1, -, -⟩ := id HX.out; have TT := HY.out.below hbn HY.out.lt; clear HY cY0 cY1; have HY := Lib.hid TT; clear TT; obtain ⟨cY0, cY1, -, -⟩ := id HY.out; have hbt := HT.out.on hbn; clear HT; have HT := Lib.hid hbt; clear hbt; have hbx := HBN.out.trans (hbn.mono HBN.out.size); clear HBN hbn; have HBN := Lib.hid hbx; clear hbx)
          | (go_at_call 25; (first | with_reducible refine (A0.out _ HT.out).mono ?_); rintro e wn ⟨rfl, hbn⟩; have TT := HX.out.below hbn HX.out.lt; clear HX cX0 cX1; have HX := Lib.hid TT; clear TT; obtain ⟨cX0, cX1, -, -⟩ := id HX.out; have TT := HY.out.below hbn HY.out.lt; clear HY cY0 cY1; have HY := Lib.hid TT; clear TT; obtain ⟨cY0, cY1, -, -⟩ := id HY.out; have hbt := HT.out.on hbn; clear HT; have HT := Lib.hid hbt; clear hbt; have hbx := HBN.out.trans (hbn.mono HBN.out.size); clear HBN hbn; have HBN := Lib.hid hbx; clear hbx)
          | (go_at_call 16; (first | with_reducible refine (N0.out _ HT.out).mono ?_ | with_reducible refine (N1.out _ HT.out).mono ?_); rintro e wn ⟨rfl, hbn⟩; have TT := HX.out.below hbn HX.out.lt; clear HX cX0 cX1; have HX := Lib.hid TT; clear TT; obtain ⟨cX0, cX1, -, -⟩ := id HX.out; have TT := HY.out.below hbn HY.out.lt; clear HY cY0 cY1; have HY := Lib.hid TT; clear TT; obtain ⟨cY0, cY1, -, -⟩ := id HY.out; have hbt := HT.out.on hbn; clear HT; have HT := Lib.hid hbt; clear hbt; have hbx := HBN.out.trans (hbn.mono HBN.out.size); clear HBN hbn; have HBN := Lib.hid hbx; clear hbx)
          | (go_at_call 37; (first | with_reducible refine (V1.out _ HT.out).mono ?_); rintro e wn ⟨rfl, hbn⟩; have TT := HX.out.below hbn HX.out.lt; clear HX cX0 cX1; have HX := Lib.hid TT; clear TT; obtain ⟨cX0, cX1, -, -⟩ := id HX.out; have TT := HY.out.below hbn HY.out.lt; clear HY cY0 cY1; have HY := Lib.hid TT; clear TT; obtain ⟨cY0, cY1, -, -⟩ := id HY.out; have hbt := HT.out.on hbn; clear HT; have HT := Lib.hid hbt; clear hbt; have hbx := HBN.out.trans (hbn.mono HBN.out.size); clear HBN hbn; have HBN := Lib.hid hbx; clear hbx)
          | (go_at_call 27; (first | with_reducible refine (A1.out _ HT.out).mono ?_); rintro e wn ⟨rfl, hbn⟩; have TT := HX.out.below hbn HX.out.lt; clear HX cX0 cX1; have HX := Lib.hid TT; clear TT; obtain ⟨cX0, cX1, -, -⟩ := id HX.out; have TT := HY.out.below hbn HY.out.lt; clear HY cY0 cY1; have HY := Lib.hid TT; clear TT; obtain ⟨cY0, cY1, -, -⟩ := id HY.out; have hbt := HT.out.on hbn; clear HT; have HT := Lib.hid hbt; clear hbt; have hbx := HBN.out.trans (hbn.mono HBN.out.size); clear HBN hbn; have HBN := Lib.hid hbx; clear hbx))
        go_ret
        exact ⟨rfl, HBN.out⟩
end Go.Proofs.YtkcgbdggipijlaaDoor
