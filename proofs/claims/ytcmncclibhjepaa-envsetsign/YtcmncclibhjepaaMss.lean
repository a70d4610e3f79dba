import Derived.Test.YtcmncclibhjepaaEnvI
import Derived.Test.YtcmncclibhjepaaEnvN
namespace Go.Proofs.Ytcmncclibhjepaa
open Go Go.RowKit Go.Sort

set_option maxRecDepth 100000 in
set_option maxHeartbeats 8000000 in
theorem setsign_law (on : Bool) (a : Option Addr) (n cap : Nat) (l : List Int) (i k s : Int) (w : World) (hX : SE w a n l) :
    Calls Try.prog 8 #[.agg #[.bool on, .slice a n cap], .int .i64 i, .int .i64 k, .int .i64 s] w fun e w' => e = .returned (.bool true) ∧ Below w.heap.size w w' := by
  have hn : l.length = n := hX.2
  have BA := (Box.new w (.bool on) (.slice a n cap) 48)
  have hW := below1 w (.cells #[.bool on, .slice a n cap] 48)
  have RX := Lib.hid (hX.below hW)
  generalize hE : (w.alloc (.cells #[.bool on, .slice a n cap] 48)) = W0 at *
  have HA := Lib.hid BA
  have HBN := Lib.hid hW
  clear hW BA hX
  go_enter Try.func8, Try.ntmps8
  go_wp2_with fail
  clear hE
  refine (awake4_any _).mono ?_
  rintro e w1 ⟨rfl, hb⟩
  have TT := HA.out.below hb HA.out.lt; clear HA; have HA := Lib.hid TT; clear TT
  have TT := RX.out.below hb; clear RX; have RX := Lib.hid TT; clear TT
  have TT := HBN.out.trans (hb.mono HBN.out.size); clear HBN; have HBN := Lib.hid TT; clear TT hb
  by_cases hlen : n ≤ 100
  rotate_left
  · have hli : (100 : Int) < (n : Int) := by omega
    obtain ⟨cA0, cA1, -, -⟩ := id HA.out
    go_wp2_with fail
    go_ret
    exact ⟨rfl, HBN.out⟩
  have hli : (n : Int) ≤ 100 := by omega
  have hl2 : n ≤ 200 := by omega
  obtain ⟨cA0, cA1, -, -⟩ := id HA.out
  go_wp2_with fail
  clear cA0 cA1
  refine (ourS_any _ _ _ _ _).mono ?_
  rintro e u1 ⟨rfl, hb⟩
  have TT := HA.out.below hb HA.out.lt; clear HA; have HA := Lib.hid TT; clear TT
  have TT := RX.out.below hb; clear RX; have RX := Lib.hid TT; clear TT
  have TT := HBN.out.trans (hb.mono HBN.out.size); clear HBN; have HBN := Lib.hid TT; clear TT hb
  have hb := (Below.refl u1.heap.size u1).alloc (Nat.le_refl _) (.cells #[.bool on, .slice a n cap] 49)
  have TT := HA.out.below hb HA.out.lt; clear HA; have HA := Lib.hid TT; clear TT
  have TT := RX.out.below hb; clear RX; have RX := Lib.hid TT; clear TT
  have TT := HBN.out.trans (hb.mono HBN.out.size); clear HBN; have HBN := Lib.hid TT; clear TT hb
  have HX1 := Lib.hid (Box.new u1 (.bool on) (.slice a n cap) 49)
  obtain ⟨cX10, cX11, -, -⟩ := id HX1.out
  go_wp2_with fail
  clear cX10 cX11
  obtain ⟨bX1, hbb⟩ : ∃ b, u1.heap.size = b := ⟨_, rfl⟩
  rw [hbb]
  rw [hbb] at HX1
  clear hbb
  generalize u1.alloc (.cells #[.bool on, .slice a n cap] 49) = Y1 at *
  obtain ⟨ly, hly⟩ : ∃ ly, setS on l i s = ly := ⟨_, rfl⟩
  obtain ⟨ny, hny⟩ : ∃ ny, szG on l = ny := ⟨_, rfl⟩
  have hny2 : ny ≤ 200 := by rw [← hny]; unfold szG; split <;> omega
  refine (SetS_any on a n cap l i s _ RX.out hl2 ly ny hly hny).mono ?_
  rintro e u2 ⟨ay, capy, rfl, hF, hb⟩
  have TT := HA.out.below hb HA.out.lt; clear HA; have HA := Lib.hid TT; clear TT
  have TT := HX1.out.below hb HX1.out.lt; clear HX1; have HX1 := Lib.hid TT; clear TT
  have TT := RX.out.below hb; clear RX; have RX := Lib.hid TT; clear TT
  have TT := HBN.out.trans (hb.mono HBN.out.size); clear HBN; have HBN := Lib.hid TT; clear TT hb
  have RY := Lib.hid hF; clear hF
  have hb := (Below.refl u2.heap.size u2).alloc (Nat.le_refl _) (.cells #[.bool on, .slice ay ny capy] 49)
  have TT := HA.out.below hb HA.out.lt; clear HA; have HA := Lib.hid TT; clear TT
  have TT := HX1.out.below hb HX1.out.lt; clear HX1; have HX1 := Lib.hid TT; clear TT
  have TT := RX.out.below hb; clear RX; have RX := Lib.hid TT; clear TT
  have TT := RY.out.below hb; clear RY; have RY := Lib.hid TT; clear TT
  have TT := HBN.out.trans (hb.mono HBN.out.size); clear HBN; have HBN := Lib.hid TT; clear TT hb
  have HY1 := Lib.hid (Box.new u2 (.bool on) (.slice ay ny capy) 49)
  obtain ⟨cX10, cX11, -, -⟩ := id HX1.out
  obtain ⟨cY10, cY11, -, -⟩ := id HY1.out
  go_wp2_with fail
  clear cX10 cX11 cY10 cY11
  obtain ⟨bY1, hbb⟩ : ∃ b, u2.heap.size = b := ⟨_, rfl⟩
  rw [hbb]
  rw [hbb] at HY1
  clear hbb
  generalize u2.alloc (.cells #[.bool on, .slice ay ny capy] 49) = Y2 at *
  obtain ⟨lj, hlj⟩ : ∃ lj, joinS on l on ly = lj := ⟨_, rfl⟩
  obtain ⟨nj, hnj⟩ : ∃ nj, max (szG on l) (szG on ly) = nj := ⟨_, rfl⟩
  have hoo : (on || on) = on := Bool.or_self on
  refine (JoinS_any on a n cap l on ay ny capy ly _ RX.out RY.out hl2 hny2 on lj nj hoo hlj hnj).mono ?_
  rintro e u3 ⟨aj, capj, rfl, hF, hb⟩
  have TT := HA.out.below hb HA.out.lt; clear HA; have HA := Lib.hid TT; clear TT
  have TT := HX1.out.below hb HX1.out.lt; clear HX1; have HX1 := Lib.hid TT; clear TT
  have TT := HY1.out.below hb HY1.out.lt; clear HY1; have HY1 := Lib.hid TT; clear TT
  have TT := RX.out.below hb; clear RX; have RX := Lib.hid TT; clear TT
  have TT := RY.out.below hb; clear RY; have RY := Lib.hid TT; clear TT
  have TT := HBN.out.trans (hb.mono HBN.out.size); clear HBN; have HBN := Lib.hid TT; clear TT hb
  have RJ := Lib.hid hF; clear hF
  have hb := (Below.refl u3.heap.size u3).alloc (Nat.le_refl _) (.cells #[.bool on, .slice aj nj capj] 49)
  have TT := HA.out.below hb HA.out.lt; clear HA; have HA := Lib.hid TT; clear TT
  have TT := HX1.out.below hb HX1.out.lt; clear HX1; have HX1 := Lib.hid TT; clear TT
  have TT := HY1.out.below hb HY1.out.lt; clear HY1; have HY1 := Lib.hid TT; clear TT
  have TT := RX.out.below hb; clear RX; have RX := Lib.hid TT; clear TT
  have TT := RY.out.below hb; clear RY; have RY := Lib.hid TT; clear TT
  have TT := RJ.out.below hb; clear RJ; have RJ := Lib.hid TT; clear TT
  have TT := HBN.out.trans (hb.mono HBN.out.size); clear HBN; have HBN := Lib.hid TT; clear TT hb
  have HJ1 := Lib.hid (Box.new u3 (.bool on) (.slice aj nj capj) 49)
  go_upto_region 7 with fail
  obtain ⟨bJ1, hbb⟩ : ∃ b, u3.heap.size = b := ⟨_, rfl⟩
  rw [hbb]
  rw [hbb] at HJ1
  clear hbb
  generalize u3.alloc (.cells #[.bool on, .slice aj nj capj] 49) = Y3 at *
  obtain ⟨inb, hin⟩ : ∃ b, decide (on = true ∧ 0 ≤ i ∧ i < (n : Int)) = b := ⟨_, rfl⟩
  obtain ⟨yi, hyi⟩ : ∃ r, sS (atG 0 on ly i) = r := ⟨_, rfl⟩
  obtain ⟨xi, hxi⟩ : ∃ r, sS (atG 0 on l i) = r := ⟨_, rfl⟩
  obtain ⟨p, hp⟩ : ∃ r, sS (atG 0 on l k) = r := ⟨_, rfl⟩
  have hyk : k ≠ i ∨ inb = false → sS (atG 0 on ly k) = p := by
    rw [← hly, setS_at, hn]
    intro h
    rw [if_neg (by rintro ⟨h1, h2, h3, h4⟩; rcases h with h | h; exact h h4; rw [← hin] at h; exact absurd ⟨h1, h2, h3⟩ (of_decide_eq_false h)), sS_sS]; exact hp
  have hys : inb = true → sS s ||| sS 0 = yi := by
    intro h
    rw [← hin] at h
    obtain ⟨h1, h2, h3⟩ := of_decide_eq_true h
    rw [← hyi, ← hly, setS_at, hn, if_pos ⟨h1, h2, h3, rfl⟩, sS_sS]; exact Nat.or_zero _
  have hji : sS (atG 0 on lj i) = xi ||| yi := by
    have := joinS_at on l on ly i
    rw [hoo, hlj] at this
    rw [this, sS_of (or_lt (sS_lt _) (sS_lt _)), hxi, hyi]
  have hjk : k ≠ i → sS (atG 0 on lj k) = p := by
    intro h
    have := joinS_at on l on ly k
    rw [hoo, hlj] at this
    rw [this, sS_of (or_lt (sS_lt _) (sS_lt _)), hyk (.inl h), hp, Nat.or_self]
  have hx8 : xi < 8 := by rw [← hxi]; exact sS_lt _
  have hy8 : yi < 8 := by rw [← hyi]; exact sS_lt _
  have hxy : sS (xi : Int) ||| sS (yi : Int) = xi ||| yi := by rw [sS_of hx8, sS_of hy8]
  have hl1 := leqS_left on l on ly on lj hoo hlj
  have hl3 := leqS_right on l on ly on lj hoo hlj
  have hnj2 : nj ≤ 200 := by rw [← hnj, ← hly, setS_sz, hny]; omega
  have CYi : Hid (∀ W, Below Y3.heap.size Y3 W → Calls Try.prog 26 #[.agg #[.bool on, .slice ay ny capy], .int .i64 i] W fun e w' => e = .returned (.int .i64 (yi : Int)) ∧ Below W.heap.size W w') := fun W h => GetSE_any on ay ny capy ly i W (RY.out.below h) yi hyi
  have CXi : Hid (∀ W, Below Y3.heap.size Y3 W → Calls Try.prog 26 #[.agg #[.bool on, .slice a n cap], .int .i64 i] W fun e w' => e = .returned (.int .i64 (xi : Int)) ∧ Below W.heap.size W w') := fun W h => GetSE_any on a n cap l i W (RX.out.below h) xi hxi
  have CJi : Hid (∀ W, Below Y3.heap.size Y3 W → Calls Try.prog 26 #[.agg #[.bool on, .slice aj nj capj], .int .i64 i] W fun e w' => e = .returned (.int .i64 ((xi ||| yi : Nat) : Int)) ∧ Below W.heap.size W w') := fun W h => GetSE_any on aj nj capj lj i W (RJ.out.below h) _ hji
  have CXk : Hid (∀ W, Below Y3.heap.size Y3 W → Calls Try.prog 26 #[.agg #[.bool on, .slice a n cap], .int .i64 k] W fun e w' => e = .returned (.int .i64 (p : Int)) ∧ Below W.heap.size W w') := fun W h => GetSE_any on a n cap l k W (RX.out.below h) p hp
  have CJ : Hid (∀ W, Below Y3.heap.size Y3 W → Calls Try.prog 39 #[.int .i64 (xi : Int), .int .i64 (yi : Int)] W fun e w' => e = .returned (.int .i64 ((xi ||| yi : Nat) : Int)) ∧ Below W.heap.size W w') := fun W h => by have := gJoin_any (xi : Int) (yi : Int) W; rw [hxy] at this; exact this
  have CL1 : Hid (∀ W, Below Y3.heap.size Y3 W → Calls Try.prog 28 #[.agg #[.bool on, .slice a n cap], .agg #[.bool on, .slice aj nj capj]] W fun e w' => e = .returned (.bool true) ∧ Below W.heap.size W w') := fun W h => LeqS_any on a n cap l on aj nj capj lj W (RX.out.below h) (RJ.out.below h) hl2 true hl1
  have CL2 : Hid (∀ W, Below Y3.heap.size Y3 W → Calls Try.prog 28 #[.agg #[.bool on, .slice ay ny capy], .agg #[.bool on, .slice aj nj capj]] W fun e w' => e = .returned (.bool true) ∧ Below W.heap.size W w') := fun W h => LeqS_any on ay ny capy ly on aj nj capj lj W (RY.out.below h) (RJ.out.below h) hny2 true hl3
  have CYk : k ≠ i ∨ inb = false → Hid (∀ W, Below Y3.heap.size Y3 W → Calls Try.prog 26 #[.agg #[.bool on, .slice ay ny capy], .int .i64 k] W fun e w' => e = .returned (.int .i64 (p : Int)) ∧ Below W.heap.size W w') := fun hc W h => GetSE_any on ay ny capy ly k W (RY.out.below h) p (hyk hc)
  have CJk : k ≠ i → Hid (∀ W, Below Y3.heap.size Y3 W → Calls Try.prog 26 #[.agg #[.bool on, .slice aj nj capj], .int .i64 k] W fun e w' => e = .returned (.int .i64 (p : Int)) ∧ Below W.heap.size W w') := fun hc W h => GetSE_any on aj nj capj lj k W (RJ.out.below h) p (hjk hc)
  have CS : inb = true → Hid (∀ W, Below Y3.heap.size Y3 W → Calls Try.prog 39 #[.int .i64 s, .int .i64 0] W fun e w' => e = .returned (.int .i64 (yi : Int)) ∧ Below W.heap.size W w') := fun hc W h => by have := gJoin_any s 0 W; rw [hys hc] at this; exact this
  have HIN := Lib.hid hin
  clear hyk hys hji hjk hx8 hy8 hxy hl1 hl3 hnj2 hyi hxi hp hlj hnj hly hny hin hoo hny2 hl2 hn RX RY RJ
  generalize hr : xi ||| yi = r at *
  clear hr
  go_cut [13] (fun s13 wx => s13 = .bool inb ∧ wx = Y3)
  case first =>
    clear CYi CXi CJi CXk CJ CL1 CL2 CYk CJk CS HX1 HY1 HJ1
    obtain ⟨cA0, cA1, -, -⟩ := id HA.out
    have hin := HIN.out
    clear HIN HA HBN
    cases on with
    | false =>
      obtain rfl : inb = false := by rw [← hin]; simp
      clear hin
      go_wp2_with fail
      go_meet
      exact ⟨rfl, rfl⟩
    | true =>
      by_cases h0 : 0 ≤ i
      · by_cases h1 : i < (n : Int)
        · obtain rfl : inb = true := by rw [← hin]; simp [h0, h1]
          clear hin
          go_wp2_with fail
          go_meet
          exact ⟨rfl, rfl⟩
        · obtain rfl : inb = false := by rw [← hin]; simp [h1]
          have h1' : (n : Int) ≤ i := by omega
          clear hin h1
          go_wp2_with fail
          go_meet
          exact ⟨by rw [decide_eq_false (by omega)], rfl⟩
      · obtain rfl : inb = false := by rw [← hin]; simp [h0]
        have h0' : i < 0 := by omega
        clear hin h0
        go_wp2_with fail
        go_meet
        exact ⟨rfl, rfl⟩
  case rest =>
    obtain ⟨rfl, rfl⟩ := hcut
    clear HIN hli hlen
    cases inb with
    | false =>
      by_cases hk : k = i
      · have hmark : True := trivial
        have C1 := CYk (.inr rfl)
        subst hk
        clear CYk CJk CS
        go_wp2_with fail
        have kX10 := cell_regrown HX1.out.c0
        have kX11 := cell_regrown HX1.out.c1
        have kY10 := cell_regrown HY1.out.c0
        have kY11 := cell_regrown HY1.out.c1
        have q0 := fun d os => Calls.regrown_of (C1.out (grow (redrawn wc d) os) (below_regrown wc d os))
        have q1 := fun d os => Calls.regrown_of (CXk.out (grow (redrawn wc d) os) (below_regrown wc d os))
        refine wp_region_quiet_below (by kernel_rfl) (by kernel_rfl) ?_
        repeat (first | go_big_quiet_step (first | with_reducible exact q0 _ _ | with_reducible exact q1 _ _) | quiet_step (first | with_reducible exact q0 _ _ | with_reducible exact q1 _ _))
        refine wpQuiet_nil ?_
        intro _ hw'
        obtain ⟨⟨dq, osq⟩, hw''⟩ := hw'
        subst hw''
        have hb := below_regrown wc dq osq
        clear kX10 kX11 kY10 kY11 q0 q1
        have HCH := Lib.hid hb
        have TT := HA.out.below hb HA.out.lt; clear HA; have HA := Lib.hid TT; clear TT
        have TT := HX1.out.below hb HX1.out.lt; clear HX1; have HX1 := Lib.hid TT; clear TT
        have TT := HY1.out.below hb HY1.out.lt; clear HY1; have HY1 := Lib.hid TT; clear TT
        have TT := HJ1.out.below hb HJ1.out.lt; clear HJ1; have HJ1 := Lib.hid TT; clear TT
        have TT := HBN.out.trans (hb.mono HBN.out.size); clear HBN; have HBN := Lib.hid TT; clear TT hb
        generalize grow (redrawn wc dq) osq = W1q at *
        go_wp2_with fail
        have kA0 := cell_regrown HA.out.c0
        have kA1 := cell_regrown HA.out.c1
        have kX10 := cell_regrown HX1.out.c0
        have kX11 := cell_regrown HX1.out.c1
        have kY10 := cell_regrown HY1.out.c0
        have kY11 := cell_regrown HY1.out.c1
        have kJ10 := cell_regrown HJ1.out.c0
        have kJ11 := cell_regrown HJ1.out.c1
        have q0 := fun d os => Calls.regrown_of (CJi.out (grow (redrawn W1q d) os) (HCH.out.trans ((below_regrown W1q d os).mono HCH.out.size)))
        have q1 := fun d os => Calls.regrown_of (CXi.out (grow (redrawn W1q d) os) (HCH.out.trans ((below_regrown W1q d os).mono HCH.out.size)))
        have q2 := fun d os => Calls.regrown_of (CYi.out (grow (redrawn W1q d) os) (HCH.out.trans ((below_regrown W1q d os).mono HCH.out.size)))
        have q3 := fun d os => Calls.regrown_of (CJ.out (grow (redrawn W1q d) os) (HCH.out.trans ((below_regrown W1q d os).mono HCH.out.size)))
        have q4 := fun d os => Calls.regrown_of (CL1.out (grow (redrawn W1q d) os) (HCH.out.trans ((below_regrown W1q d os).mono HCH.out.size)))
        have q5 := fun d os => Calls.regrown_of (CL2.out (grow (redrawn W1q d) os) (HCH.out.trans ((below_regrown W1q d os).mono HCH.out.size)))
        refine wp_region_quiet_below (by kernel_rfl) (by kernel_rfl) ?_
        repeat (first | go_big_quiet_step (first | with_reducible exact q0 _ _ | with_reducible exact q1 _ _ | with_reducible exact q2 _ _ | with_reducible exact q3 _ _ | with_reducible exact q4 _ _ | with_reducible exact q5 _ _) | quiet_step (first | with_reducible exact q0 _ _ | with_reducible exact q1 _ _ | with_reducible exact q2 _ _ | with_reducible exact q3 _ _ | with_reducible exact q4 _ _ | with_reducible exact q5 _ _))
        refine wpQuiet_nil ?_
        intro _ hw'
        obtain ⟨⟨dq, osq⟩, hw''⟩ := hw'
        subst hw''
        have hb := below_regrown W1q dq osq
        clear kA0 kA1 kX10 kX11 kY10 kY11 kJ10 kJ11 q0 q1 q2 q3 q4 q5
        have TT := HA.out.below hb HA.out.lt; clear HA; have HA := Lib.hid TT; clear TT
        have TT := HX1.out.below hb HX1.out.lt; clear HX1; have HX1 := Lib.hid TT; clear TT
        have TT := HY1.out.below hb HY1.out.lt; clear HY1; have HY1 := Lib.hid TT; clear TT
        have TT := HJ1.out.below hb HJ1.out.lt; clear HJ1; have HJ1 := Lib.hid TT; clear TT
        have TT := HBN.out.trans (hb.mono HBN.out.size); clear HBN; have HBN := Lib.hid TT; clear TT hb
        generalize grow (redrawn W1q dq) osq = W2q at *
        go_wp2_with fail
        go_ret
        exact ⟨rfl, HBN.out⟩
      · have hmark : True := trivial
        have C1 := CYk (.inr rfl)
        have C2 := CJk hk
        have hkb : (k != i) = true := by rw [bne_iff_ne]; exact hk
        have hkc : (k == i) = false := by rw [beq_eq_false_iff_ne]; exact hk
        clear CYk CJk CS hk
        go_wp2_with fail
        have kX10 := cell_regrown HX1.out.c0
        have kX11 := cell_regrown HX1.out.c1
        have kY10 := cell_regrown HY1.out.c0
        have kY11 := cell_regrown HY1.out.c1
        have q0 := fun d os => Calls.regrown_of (C1.out (grow (redrawn wc d) os) (below_regrown wc d os))
        have q1 := fun d os => Calls.regrown_of (CXk.out (grow (redrawn wc d) os) (below_regrown wc d os))
        refine wp_region_quiet_below (by kernel_rfl) (by kernel_rfl) ?_
        repeat (first | go_big_quiet_step (first | with_reducible exact q0 _ _ | with_reducible exact q1 _ _) | quiet_step (first | with_reducible exact q0 _ _ | with_reducible exact q1 _ _))
        refine wpQuiet_nil ?_
        intro _ hw'
        obtain ⟨⟨dq, osq⟩, hw''⟩ := hw'
        subst hw''
        have hb := below_regrown wc dq osq
        clear kX10 kX11 kY10 kY11 q0 q1
        have HCH := Lib.hid hb
        have TT := HA.out.below hb HA.out.lt; clear HA; have HA := Lib.hid TT; clear TT
        have TT := HX1.out.below hb HX1.out.lt; clear HX1; have HX1 := Lib.hid TT; clear TT
        have TT := HY1.out.below hb HY1.out.lt; clear HY1; have HY1 := Lib.hid TT; clear TT
        have TT := HJ1.out.below hb HJ1.out.lt; clear HJ1; have HJ1 := Lib.hid TT; clear TT
        have TT := HBN.out.trans (hb.mono HBN.out.size); clear HBN; have HBN := Lib.hid TT; clear TT hb
        generalize grow (redrawn wc dq) osq = W1q at *
        go_wp2_with fail
        have kA0 := cell_regrown HA.out.c0
        have kA1 := cell_regrown HA.out.c1
        have kX10 := cell_regrown HX1.out.c0
        have kX11 := cell_regrown HX1.out.c1
        have kY10 := cell_regrown HY1.out.c0
        have kY11 := cell_regrown HY1.out.c1
        have kJ10 := cell_regrown HJ1.out.c0
        have kJ11 := cell_regrown HJ1.out.c1
        have q0 := fun d os => Calls.regrown_of (CJi.out (grow (redrawn W1q d) os) (HCH.out.trans ((below_regrown W1q d os).mono HCH.out.size)))
        have q1 := fun d os => Calls.regrown_of (CXi.out (grow (redrawn W1q d) os) (HCH.out.trans ((below_regrown W1q d os).mono HCH.out.size)))
        have q2 := fun d os => Calls.regrown_of (CYi.out (grow (redrawn W1q d) os) (HCH.out.trans ((below_regrown W1q d os).mono HCH.out.size)))
        have q3 := fun d os => Calls.regrown_of (CJ.out (grow (redrawn W1q d) os) (HCH.out.trans ((below_regrown W1q d os).mono HCH.out.size)))
        have q4 := fun d os => Calls.regrown_of (C2.out (grow (redrawn W1q d) os) (HCH.out.trans ((below_regrown W1q d os).mono HCH.out.size)))
        have q5 := fun d os => Calls.regrown_of (CXk.out (grow (redrawn W1q d) os) (HCH.out.trans ((below_regrown W1q d os).mono HCH.out.size)))
        have q6 := fun d os => Calls.regrown_of (CL1.out (grow (redrawn W1q d) os) (HCH.out.trans ((below_regrown W1q d os).mono HCH.out.size)))
        have q7 := fun d os => Calls.regrown_of (CL2.out (grow (redrawn W1q d) os) (HCH.out.trans ((below_regrown W1q d os).mono HCH.out.size)))
        refine wp_region_quiet_below (by kernel_rfl) (by kernel_rfl) ?_
        repeat (first | go_big_quiet_step (first | with_reducible exact q0 _ _ | with_reducible exact q1 _ _ | with_reducible exact q2 _ _ | with_reducible exact q3 _ _ | with_reducible exact q4 _ _ | with_reducible exact q5 _ _ | with_reducible exact q6 _ _ | with_reducible exact q7 _ _) | quiet_step (first | with_reducible exact q0 _ _ | with_reducible exact q1 _ _ | with_reducible exact q2 _ _ | with_reducible exact q3 _ _ | with_reducible exact q4 _ _ | with_reducible exact q5 _ _ | with_reducible exact q6 _ _ | with_reducible exact q7 _ _))
        refine wpQuiet_nil ?_
        intro _ hw'
        obtain ⟨⟨dq, osq⟩, hw''⟩ := hw'
        subst hw''
        have hb := below_regrown W1q dq osq
        clear kA0 kA1 kX10 kX11 kY10 kY11 kJ10 kJ11 q0 q1 q2 q3 q4 q5 q6 q7
        have TT := HA.out.below hb HA.out.lt; clear HA; have HA := Lib.hid TT; clear TT
        have TT := HX1.out.below hb HX1.out.lt; clear HX1; have HX1 := Lib.hid TT; clear TT
        have TT := HY1.out.below hb HY1.out.lt; clear HY1; have HY1 := Lib.hid TT; clear TT
        have TT := HJ1.out.below hb HJ1.out.lt; clear HJ1; have HJ1 := Lib.hid TT; clear TT
        have TT := HBN.out.trans (hb.mono HBN.out.size); clear HBN; have HBN := Lib.hid TT; clear TT hb
        generalize grow (redrawn W1q dq) osq = W2q at *
        go_wp2_with fail
        go_ret
        exact ⟨rfl, HBN.out⟩
    | true =>
      by_cases hk : k = i
      · have hmark : True := trivial
        have C3 := CS rfl
        subst hk
        clear CYk CJk CS
        go_wp2_with fail
        have kY10 := cell_regrown HY1.out.c0
        have kY11 := cell_regrown HY1.out.c1
        have q0 := fun d os => Calls.regrown_of (CYi.out (grow (redrawn wc d) os) (below_regrown wc d os))
        have q1 := fun d os => Calls.regrown_of (C3.out (grow (redrawn wc d) os) (below_regrown wc d os))
        refine wp_region_quiet_below (by kernel_rfl) (by kernel_rfl) ?_
        repeat (first | go_big_quiet_step (first | with_reducible exact q0 _ _ | with_reducible exact q1 _ _) | quiet_step (first | with_reducible exact q0 _ _ | with_reducible exact q1 _ _))
        refine wpQuiet_nil ?_
        intro _ hw'
        obtain ⟨⟨dq, osq⟩, hw''⟩ := hw'
        subst hw''
        have hb := below_regrown wc dq osq
        clear kY10 kY11 q0 q1
        have HCH := Lib.hid hb
        have TT := HA.out.below hb HA.out.lt; clear HA; have HA := Lib.hid TT; clear TT
        have TT := HX1.out.below hb HX1.out.lt; clear HX1; have HX1 := Lib.hid TT; clear TT
        have TT := HY1.out.below hb HY1.out.lt; clear HY1; have HY1 := Lib.hid TT; clear TT
        have TT := HJ1.out.below hb HJ1.out.lt; clear HJ1; have HJ1 := Lib.hid TT; clear TT
        have TT := HBN.out.trans (hb.mono HBN.out.size); clear HBN; have HBN := Lib.hid TT; clear TT hb
        generalize grow (redrawn wc dq) osq = W1q at *
        go_wp2_with fail
        have kA0 := cell_regrown HA.out.c0
        have kA1 := cell_regrown HA.out.c1
        have kX10 := cell_regrown HX1.out.c0
        have kX11 := cell_regrown HX1.out.c1
        have kY10 := cell_regrown HY1.out.c0
        have kY11 := cell_regrown HY1.out.c1
        have kJ10 := cell_regrown HJ1.out.c0
        have kJ11 := cell_regrown HJ1.out.c1
        have q0 := fun d os => Calls.regrown_of (CJi.out (grow (redrawn W1q d) os) (HCH.out.trans ((below_regrown W1q d os).mono HCH.out.size)))
        have q1 := fun d os => Calls.regrown_of (CXi.out (grow (redrawn W1q d) os) (HCH.out.trans ((below_regrown W1q d os).mono HCH.out.size)))
        have q2 := fun d os => Calls.regrown_of (CYi.out (grow (redrawn W1q d) os) (HCH.out.trans ((below_regrown W1q d os).mono HCH.out.size)))
        have q3 := fun d os => Calls.regrown_of (CJ.out (grow (redrawn W1q d) os) (HCH.out.trans ((below_regrown W1q d os).mono HCH.out.size)))
        have q4 := fun d os => Calls.regrown_of (CL1.out (grow (redrawn W1q d) os) (HCH.out.trans ((below_regrown W1q d os).mono HCH.out.size)))
        have q5 := fun d os => Calls.regrown_of (CL2.out (grow (redrawn W1q d) os) (HCH.out.trans ((below_regrown W1q d os).mono HCH.out.size)))
        refine wp_region_quiet_below (by kernel_rfl) (by kernel_rfl) ?_
        repeat (first | go_big_quiet_step (first | with_reducible exact q0 _ _ | with_reducible exact q1 _ _ | with_reducible exact q2 _ _ | with_reducible exact q3 _ _ | with_reducible exact q4 _ _ | with_reducible exact q5 _ _) | quiet_step (first | with_reducible exact q0 _ _ | with_reducible exact q1 _ _ | with_reducible exact q2 _ _ | with_reducible exact q3 _ _ | with_reducible exact q4 _ _ | with_reducible exact q5 _ _))
        refine wpQuiet_nil ?_
        intro _ hw'
        obtain ⟨⟨dq, osq⟩, hw''⟩ := hw'
        subst hw''
        have hb := below_regrown W1q dq osq
        clear kA0 kA1 kX10 kX11 kY10 kY11 kJ10 kJ11 q0 q1 q2 q3 q4 q5
        have TT := HA.out.below hb HA.out.lt; clear HA; have HA := Lib.hid TT; clear TT
        have TT := HX1.out.below hb HX1.out.lt; clear HX1; have HX1 := Lib.hid TT; clear TT
        have TT := HY1.out.below hb HY1.out.lt; clear HY1; have HY1 := Lib.hid TT; clear TT
        have TT := HJ1.out.below hb HJ1.out.lt; clear HJ1; have HJ1 := Lib.hid TT; clear TT
        have TT := HBN.out.trans (hb.mono HBN.out.size); clear HBN; have HBN := Lib.hid TT; clear TT hb
        generalize grow (redrawn W1q dq) osq = W2q at *
        go_wp2_with fail
        go_ret
        exact ⟨rfl, HBN.out⟩
      · have hmark : True := trivial
        have C1 := CYk (.inl hk)
        have C2 := CJk hk
        have C3 := CS rfl
        have hkb : (k != i) = true := by rw [bne_iff_ne]; exact hk
        have hkc : (k == i) = false := by rw [beq_eq_false_iff_ne]; exact hk
        clear CYk CJk CS hk
        go_wp2_with fail
        have kX10 := cell_regrown HX1.out.c0
        have kX11 := cell_regrown HX1.out.c1
        have kY10 := cell_regrown HY1.out.c0
        have kY11 := cell_regrown HY1.out.c1
        have q0 := fun d os => Calls.regrown_of (CYi.out (grow (redrawn wc d) os) (below_regrown wc d os))
        have q1 := fun d os => Calls.regrown_of (C3.out (grow (redrawn wc d) os) (below_regrown wc d os))
        have q2 := fun d os => Calls.regrown_of (C1.out (grow (redrawn wc d) os) (below_regrown wc d os))
        have q3 := fun d os => Calls.regrown_of (CXk.out (grow (redrawn wc d) os) (below_regrown wc d os))
        refine wp_region_quiet_below (by kernel_rfl) (by kernel_rfl) ?_
        repeat (first | go_big_quiet_step (first | with_reducible exact q0 _ _ | with_reducible exact q1 _ _ | with_reducible exact q2 _ _ | with_reducible exact q3 _ _) | quiet_step (first | with_reducible exact q0 _ _ | with_reducible exact q1 _ _ | with_reducible exact q2 _ _ | with_reducible exact q3 _ _))
        refine wpQuiet_nil ?_
        intro _ hw'
        obtain ⟨⟨dq, osq⟩, hw''⟩ := hw'
        subst hw''
        have hb := below_regrown wc dq osq
        clear kX10 kX11 kY10 kY11 q0 q1 q2 q3
        have HCH := Lib.hid hb
        have TT := HA.out.below hb HA.out.lt; clear HA; have HA := Lib.hid TT; clear TT
        have TT := HX1.out.below hb HX1.out.lt; clear HX1; have HX1 := Lib.hid TT; clear TT
        have TT := HY1.out.below hb HY1.out.lt; clear HY1; have HY1 := Lib.hid TT; clear TT
        have TT := HJ1.out.below hb HJ1.out.lt; clear HJ1; have HJ1 := Lib.hid TT; clear TT
        have TT := HBN.out.trans (hb.mono HBN.out.size); clear HBN; have HBN := Lib.hid TT; clear TT hb
        generalize grow (redrawn wc dq) osq = W1q at *
        go_wp2_with fail
        have kA0 := cell_regrown HA.out.c0
        have kA1 := cell_regrown HA.out.c1
        have kX10 := cell_regrown HX1.out.c0
        have kX11 := cell_regrown HX1.out.c1
        have kY10 := cell_regrown HY1.out.c0
        have kY11 := cell_regrown HY1.out.c1
        have kJ10 := cell_regrown HJ1.out.c0
        have kJ11 := cell_regrown HJ1.out.c1
        have q0 := fun d os => Calls.regrown_of (CJi.out (grow (redrawn W1q d) os) (HCH.out.trans ((below_regrown W1q d os).mono HCH.out.size)))
        have q1 := fun d os => Calls.regrown_of (CXi.out (grow (redrawn W1q d) os) (HCH.out.trans ((below_regrown W1q d os).mono HCH.out.size)))
        have q2 := fun d os => Calls.regrown_of (CYi.out (grow (redrawn W1q d) os) (HCH.out.trans ((below_regrown W1q d os).mono HCH.out.size)))
        have q3 := fun d os => Calls.regrown_of (CJ.out (grow (redrawn W1q d) os) (HCH.out.trans ((below_regrown W1q d os).mono HCH.out.size)))
        have q4 := fun d os => Calls.regrown_of (C2.out (grow (redrawn W1q d) os) (HCH.out.trans ((below_regrown W1q d os).mono HCH.out.size)))
        have q5 := fun d os => Calls.regrown_of (CXk.out (grow (redrawn W1q d) os) (HCH.out.trans ((below_regrown W1q d os).mono HCH.out.size)))
        have q6 := fun d os => Calls.regrown_of (CL1.out (grow (redrawn W1q d) os) (HCH.out.trans ((below_regrown W1q d os).mono HCH.out.size)))
        have q7 := fun d os => Calls.regrown_of (CL2.out (grow (redrawn W1q d) os) (HCH.out.trans ((below_regrown W1q d os).mono HCH.out.size)))
        refine wp_region_quiet_below (by kernel_rfl) (by kernel_rfl) ?_
        repeat (first | go_big_quiet_step (first | with_reducible exact q0 _ _ | with_reducible exact q1 _ _ | with_reducible exact q2 _ _ | with_reducible exact q3 _ _ | with_reducible exact q4 _ _ | with_reducible exact q5 _ _ | with_reducible exact q6 _ _ | with_reducible exact q7 _ _) | quiet_step (first | with_reducible exact q0 _ _ | with_reducible exact q1 _ _ | with_reducible exact q2 _ _ | with_reducible exact q3 _ _ | with_reducible exact q4 _ _ | with_reducible exact q5 _ _ | with_reducible exact q6 _ _ | with_reducible exact q7 _ _))
        refine wpQuiet_nil ?_
        intro _ hw'
        obtain ⟨⟨dq, osq⟩, hw''⟩ := hw'
        subst hw''
        have hb := below_regrown W1q dq osq
        clear kA0 kA1 kX10 kX11 kY10 kY11 kJ10 kJ11 q0 q1 q2 q3 q4 q5 q6 q7
        have TT := HA.out.below hb HA.out.lt; clear HA; have HA := Lib.hid TT; clear TT
        have TT := HX1.out.below hb HX1.out.lt; clear HX1; have HX1 := Lib.hid TT; clear TT
        have TT := HY1.out.below hb HY1.out.lt; clear HY1; have HY1 := Lib.hid TT; clear TT
        have TT := HJ1.out.below hb HJ1.out.lt; clear HJ1; have HJ1 := Lib.hid TT; clear TT
        have TT := HBN.out.trans (hb.mono HBN.out.size); clear HBN; have HBN := Lib.hid TT; clear TT hb
        generalize grow (redrawn W1q dq) osq = W2q at *
        go_wp2_with fail
        go_ret
        exact ⟨rfl, HBN.out⟩
end Go.Proofs.Ytcmncclibhjepaa
