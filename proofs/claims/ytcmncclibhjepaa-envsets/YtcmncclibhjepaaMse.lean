import Derived.Test.YtcmncclibhjepaaEnvI
import Derived.Test.YtcmncclibhjepaaEnvP
import Derived.Test.YtcmncclibhjepaaEnvO
namespace Go.Proofs.Ytcmncclibhjepaa
open Go Go.RowKit Go.Sort

set_option maxRecDepth 100000 in
set_option maxHeartbeats 8000000 in
theorem sets_law (on : Bool) (a : Option Addr) (n cap : Nat) (l : List V) (i k : Int) (v : V) (w : World) (hX : FE w a n l) :
    Calls Try.prog 7 #[.agg #[.bool on, .slice a n cap], .int .i64 i, .int .i64 k, v.val] w fun e w' => e = .returned (.bool true) ∧ Below w.heap.size w w' := by
  have hn : l.length = n := hX.2
  obtain ⟨vk, vc⟩ := v
  unfold V.val
  have BA := ((Box.new w (.bool on) (.slice a n cap) 24).alloc (.cells #[.int .i64 vk, .int .i64 vc] 26))
  have BV := (Box.new (w.alloc (.cells #[.bool on, .slice a n cap] 24)) (.int .i64 vk) (.int .i64 vc) 26)
  have hW := below2 w (.cells #[.bool on, .slice a n cap] 24) (.cells #[.int .i64 vk, .int .i64 vc] 26)
  simp only [World.size_alloc] at BV
  have RX := Lib.hid (hX.below hW)
  generalize hE : ((w.alloc (.cells #[.bool on, .slice a n cap] 24)).alloc (.cells #[.int .i64 vk, .int .i64 vc] 26)) = W0 at *
  have HA := Lib.hid BA
  have HV := Lib.hid BV
  have HBN := Lib.hid hW
  clear hW BA BV hX
  go_enter Try.func7, Try.ntmps7
  go_wp2_with fail
  clear hE
  refine (awake4_any _).mono ?_
  rintro e w1 ⟨rfl, hb⟩
  have TT := HA.out.below hb HA.out.lt; clear HA; have HA := Lib.hid TT; clear TT
  have TT := HV.out.below hb HV.out.lt; clear HV; have HV := Lib.hid TT; clear TT
  have TT := RX.out.below hb; clear RX; have RX := Lib.hid TT; clear TT
  have TT := HBN.out.trans (hb.mono HBN.out.size); clear HBN; have HBN := Lib.hid TT; clear TT hb
  by_cases hlen : n ≤ 100
  rotate_left
  · have hli : (100 : Int) < (n : Int) := by omega
    obtain ⟨cA0, cA1, -, -⟩ := id HA.out
    go_wp2_with fail
    go_ret
    exact ⟨rfl, HBN.out⟩
  have hli : (n : Int) ≤ 100 := by omega
  have hl2 : n ≤ 200 := by omega
  obtain ⟨cA0, cA1, -, -⟩ := id HA.out
  go_wp2_with fail
  clear cA0 cA1
  refine (our_any on a n cap l _ RX.out hl2).mono ?_
  rintro e u1 ⟨xa, xc, rfl, hF, hb⟩
  have TT := HA.out.below hb HA.out.lt; clear HA; have HA := Lib.hid TT; clear TT
  have TT := HV.out.below hb HV.out.lt; clear HV; have HV := Lib.hid TT; clear TT
  have TT := RX.out.below hb; clear RX; have RX := Lib.hid TT; clear TT
  have TT := HBN.out.trans (hb.mono HBN.out.size); clear HBN; have HBN := Lib.hid TT; clear TT hb
  have RO := Lib.hid hF; clear hF
  have hb := (Below.refl u1.heap.size u1).alloc (Nat.le_refl _) (.cells #[.bool on, .slice xa n xc] 30)
  have TT := HA.out.below hb HA.out.lt; clear HA; have HA := Lib.hid TT; clear TT
  have TT := HV.out.below hb HV.out.lt; clear HV; have HV := Lib.hid TT; clear TT
  have TT := RX.out.below hb; clear RX; have RX := Lib.hid TT; clear TT
  have TT := RO.out.below hb; clear RO; have RO := Lib.hid TT; clear TT
  have TT := HBN.out.trans (hb.mono HBN.out.size); clear HBN; have HBN := Lib.hid TT; clear TT hb
  have HX1 := Lib.hid (Box.new u1 (.bool on) (.slice xa n xc) 30)
  go_upto_region 5 with fail
  obtain ⟨bX1, hbb⟩ : ∃ b, u1.heap.size = b := ⟨_, rfl⟩
  rw [hbb]
  rw [hbb] at HX1
  clear hbb
  generalize u1.alloc (.cells #[.bool on, .slice xa n xc] 30) = Y1 at *
  have HW1 := Lib.hid (Box.new Y1 (.int .i64 vk) (.int .i64 vc) 32)
  have hb := (Below.refl Y1.heap.size Y1).alloc (Nat.le_refl _) (.cells #[.int .i64 vk, .int .i64 vc] 32)
  obtain ⟨cV0, cV1, -, -⟩ := id HV.out
  obtain ⟨cX0, cX1, -, -⟩ := HX1.out.alloc (.cells #[.int .i64 vk, .int .i64 vc] 32)
  go_wp2_with fail
  clear cV0 cV1 cX0 cX1
  have TT := HA.out.below hb HA.out.lt; clear HA; have HA := Lib.hid TT; clear TT
  have TT := HV.out.below hb HV.out.lt; clear HV; have HV := Lib.hid TT; clear TT
  have TT := HX1.out.below hb HX1.out.lt; clear HX1; have HX1 := Lib.hid TT; clear TT
  have TT := RX.out.below hb; clear RX; have RX := Lib.hid TT; clear TT
  have TT := RO.out.below hb; clear RO; have RO := Lib.hid TT; clear TT
  have TT := HBN.out.trans (hb.mono HBN.out.size); clear HBN; have HBN := Lib.hid TT; clear TT hb
  obtain ⟨bW1, hbb⟩ : ∃ b, Y1.heap.size = b := ⟨_, rfl⟩
  rw [hbb]
  rw [hbb] at HW1
  clear hbb
  generalize Y1.alloc (.cells #[.int .i64 vk, .int .i64 vc] 32) = Y1b at *
  obtain ⟨ly, hly⟩ : ∃ ly, setF on l i ⟨vk, vc⟩ = ly := ⟨_, rfl⟩
  obtain ⟨ny, hny⟩ : ∃ ny, szG on l = ny := ⟨_, rfl⟩
  have hny2 : ny ≤ 200 := by rw [← hny]; unfold szG; split <;> omega
  refine (SetF_any on xa n xc l i vk vc _ RO.out hl2 ly ny hly hny).mono ?_
  rintro e u2 ⟨ay, capy, rfl, hF, hb⟩
  have TT := HA.out.below hb HA.out.lt; clear HA; have HA := Lib.hid TT; clear TT
  have TT := HV.out.below hb HV.out.lt; clear HV; have HV := Lib.hid TT; clear TT
  have TT := HX1.out.below hb HX1.out.lt; clear HX1; have HX1 := Lib.hid TT; clear TT
  have TT := HW1.out.below hb HW1.out.lt; clear HW1; have HW1 := Lib.hid TT; clear TT
  have TT := RX.out.below hb; clear RX; have RX := Lib.hid TT; clear TT
  have TT := RO.out.below hb; clear RO; have RO := Lib.hid TT; clear TT
  have TT := HBN.out.trans (hb.mono HBN.out.size); clear HBN; have HBN := Lib.hid TT; clear TT hb
  have RY := Lib.hid hF; clear hF
  have hb := (Below.refl u2.heap.size u2).alloc (Nat.le_refl _) (.cells #[.bool on, .slice ay ny capy] 30)
  have TT := HA.out.below hb HA.out.lt; clear HA; have HA := Lib.hid TT; clear TT
  have TT := HV.out.below hb HV.out.lt; clear HV; have HV := Lib.hid TT; clear TT
  have TT := HX1.out.below hb HX1.out.lt; clear HX1; have HX1 := Lib.hid TT; clear TT
  have TT := HW1.out.below hb HW1.out.lt; clear HW1; have HW1 := Lib.hid TT; clear TT
  have TT := RX.out.below hb; clear RX; have RX := Lib.hid TT; clear TT
  have TT := RO.out.below hb; clear RO; have RO := Lib.hid TT; clear TT
  have TT := RY.out.below hb; clear RY; have RY := Lib.hid TT; clear TT
  have TT := HBN.out.trans (hb.mono HBN.out.size); clear HBN; have HBN := Lib.hid TT; clear TT hb
  have HY1 := Lib.hid (Box.new u2 (.bool on) (.slice ay ny capy) 30)
  go_upto_region 7 with fail
  obtain ⟨bY1, hbb⟩ : ∃ b, u2.heap.size = b := ⟨_, rfl⟩
  rw [hbb]
  rw [hbb] at HY1
  clear hbb
  generalize u2.alloc (.cells #[.bool on, .slice ay ny capy] 30) = Y3 at *
  obtain ⟨inb, hin⟩ : ∃ b, decide (on = true ∧ 0 ≤ i ∧ i < (n : Int)) = b := ⟨_, rfl⟩
  obtain ⟨yi, hyi⟩ : ∃ r, (atG vbot on ly i).sn = r := ⟨_, rfl⟩
  obtain ⟨p, hp⟩ : ∃ r, (atG vbot on l k).sn = r := ⟨_, rfl⟩
  have hyk : k ≠ i ∨ inb = false → (atG vbot on ly k).sn = p := by
    rw [← hly, setF_at, hn]
    intro h
    rw [if_neg (by rintro ⟨h1, h2, h3, h4⟩; rcases h with h | h; exact h h4; rw [← hin] at h; exact absurd ⟨h1, h2, h3⟩ (of_decide_eq_false h)), sn_sn]; exact hp
  have hys : inb = true → join ⟨vk, vc⟩ ⟨0, 0⟩ = yi := by
    intro h
    rw [← hin] at h
    obtain ⟨h1, h2, h3⟩ := of_decide_eq_true h
    rw [← hyi, ← hly, setF_at, hn, if_pos ⟨h1, h2, h3, rfl⟩, sn_sn]; exact join_bot_right _
  obtain ⟨lb, hlb⟩ : ∃ l', setF on l i ⟨0, 0⟩ = l' := ⟨_, rfl⟩
  obtain ⟨lt, hlt⟩ : ∃ l', setF on l i ⟨2, 0⟩ = l' := ⟨_, rfl⟩
  have hle1 : leqF on lb on ly = true := by rw [← hlb, ← hly]; exact leqF_set (leq_bot _)
  have hle2 : leqF on ly on lt = true := by rw [← hlt, ← hly]; exact leqF_set (leq_top _)
  obtain ⟨yx, yy⟩ := yi
  obtain ⟨px, py⟩ := p
  have CYi : Hid (∀ W, Below Y3.heap.size Y3 W → Calls Try.prog 11 #[.agg #[.bool on, .slice ay ny capy], .int .i64 i] W fun e w' => e = .returned (.agg #[.int .i64 yx, .int .i64 yy]) ∧ Below W.heap.size W w') := fun W h => GetFE_any on ay ny capy ly i W (RY.out.below h) ⟨yx, yy⟩ hyi
  have CXk : Hid (∀ W, Below Y3.heap.size Y3 W → Calls Try.prog 11 #[.agg #[.bool on, .slice xa n xc], .int .i64 k] W fun e w' => e = .returned (.agg #[.int .i64 px, .int .i64 py]) ∧ Below W.heap.size W w') := fun W h => GetFE_any on xa n xc l k W (RO.out.below h) ⟨px, py⟩ hp
  have CYk : k ≠ i ∨ inb = false → Hid (∀ W, Below Y3.heap.size Y3 W → Calls Try.prog 11 #[.agg #[.bool on, .slice ay ny capy], .int .i64 k] W fun e w' => e = .returned (.agg #[.int .i64 px, .int .i64 py]) ∧ Below W.heap.size W w') := fun hc W h => GetFE_any on ay ny capy ly k W (RY.out.below h) ⟨px, py⟩ (hyk hc)
  have CS : inb = true → Hid (∀ W, Below Y3.heap.size Y3 W → Calls Try.prog 38 #[.agg #[.int .i64 vk, .int .i64 vc], .agg #[.int .i64 0, .int .i64 0]] W fun e w' => e = .returned (.agg #[.int .i64 yx, .int .i64 yy]) ∧ Below W.heap.size W w') := fun hc W h => by have := Join_any ⟨vk, vc⟩ ⟨0, 0⟩ W; rw [hys hc] at this; exact this
  have CB : Hid (∀ W, Below Y3.heap.size Y3 W → Calls Try.prog 19 #[.agg #[.bool on, .slice xa n xc], .int .i64 i, .agg #[.int .i64 0, .int .i64 0]] W fun e w' => ∃ a cap, e = .returned (.agg #[.bool on, .slice a ny cap]) ∧ FE w' a ny lb ∧ Below W.heap.size W w') := fun W h => SetF_any on xa n xc l i 0 0 W (RO.out.below h) hl2 lb ny hlb hny
  have CT : Hid (∀ W, Below Y3.heap.size Y3 W → Calls Try.prog 19 #[.agg #[.bool on, .slice xa n xc], .int .i64 i, .agg #[.int .i64 2, .int .i64 0]] W fun e w' => ∃ a cap, e = .returned (.agg #[.bool on, .slice a ny cap]) ∧ FE w' a ny lt ∧ Below W.heap.size W w') := fun W h => SetF_any on xa n xc l i 2 0 W (RO.out.below h) hl2 lt ny hlt hny
  have CL1 : Hid (∀ W b cb, Below Y3.heap.size Y3 W → FE W b ny lb → Calls Try.prog 13 #[.agg #[.bool on, .slice b ny cb], .agg #[.bool on, .slice ay ny capy]] W fun e w' => e = .returned (.bool true) ∧ Below W.heap.size W w') := fun W b cb h g => LeqF_any on b ny cb lb on ay ny capy ly W g (RY.out.below h) hny2 true hle1
  have CL2 : Hid (∀ W b cb, Below Y3.heap.size Y3 W → FE W b ny lt → Calls Try.prog 13 #[.agg #[.bool on, .slice ay ny capy], .agg #[.bool on, .slice b ny cb]] W fun e w' => e = .returned (.bool true) ∧ Below W.heap.size W w') := fun W b cb h g => LeqF_any on ay ny capy ly on b ny cb lt W (RY.out.below h) g hny2 true hle2
  have CO1 : Hid (∀ W, Below Y3.heap.size Y3 W → Calls Try.prog 13 #[.agg #[.bool false, .slice none 0 0], .agg #[.bool on, .slice ay ny capy]] W fun e w' => e = .returned (.bool true) ∧ Below W.heap.size W w') := fun W h => LeqF_any false none 0 0 [] on ay ny capy ly W (FE.nil _ _) (RY.out.below h) (Nat.zero_le _) true (leqF_none on ly)
  have CO2 : on = false → Hid (∀ W, Below Y3.heap.size Y3 W → Calls Try.prog 13 #[.agg #[.bool on, .slice ay ny capy], .agg #[.bool false, .slice none 0 0]] W fun e w' => e = .returned (.bool true) ∧ Below W.heap.size W w') := fun hc W h => LeqF_any on ay ny capy ly false none 0 0 [] W (RY.out.below h) (FE.nil _ _) hny2 true (by subst hc; exact (leqF_iff _ _ _ _).2 ⟨id, fun _ => by rw [atG_off]; exact leq_bot _⟩)
  have HIN := Lib.hid hin
  have HNY : Hid (on = true → ny = n) := fun h => by rw [← hny, h]; exact hn
  have HOFF : Hid (on = false → ny = 0) := fun h => by rw [← hny, h]; rfl
  clear hyk hys hyi hp hly hny hin hny2 hl2 hn hlb hlt hle1 hle2 RX RO RY
  go_cut [13] (fun s13 wx => s13 = .bool inb ∧ wx = Y3)
  case first =>
    clear CYi CXk CYk CS CB CT CL1 CL2 CO1 CO2 HX1 HY1 HW1 HV HNY HOFF
    obtain ⟨cA0, cA1, -, -⟩ := id HA.out
    have hin := HIN.out
    clear HIN HA HBN
    cases on with
    | false =>
      obtain rfl : inb = false := by rw [← hin]; simp
      clear hin
      go_wp2_with fail
      go_meet
      exact ⟨rfl, rfl⟩
    | true =>
      by_cases h0 : 0 ≤ i
      · by_cases h1 : i < (n : Int)
        · obtain rfl : inb = true := by rw [← hin]; simp [h0, h1]
          clear hin
          go_wp2_with fail
          go_meet
          exact ⟨rfl, rfl⟩
        · obtain rfl : inb = false := by rw [← hin]; simp [h1]
          have h1' : (n : Int) ≤ i := by omega
          clear hin h1
          go_wp2_with fail
          go_meet
          exact ⟨by rw [decide_eq_false (by omega)], rfl⟩
      · obtain rfl : inb = false := by rw [← hin]; simp [h0]
        have h0' : i < 0 := by omega
        clear hin h0
        go_wp2_with fail
        go_meet
        exact ⟨rfl, rfl⟩
  case rest =>
    obtain ⟨rfl, hwc⟩ := hcut
    replace hwc := hwc.symm
    subst hwc
    clear HIN hli hlen
    go_upto_region 8 with fail
    go_cut [71] (fun s71 wx => s71 = .bool false ∧ Hid (Below Y3.heap.size Y3 wx))
    case first =>
      clear CB CT CL1 CL2 CO1 CO2 HNY HOFF
      cases inb with
      | false =>
        by_cases hk : k = i
        · have hmark : True := trivial
          have C1 := CYk (.inr rfl)
          subst hk
          clear CYk CS
          have kX10 := cell_regrown HX1.out.c0
          have kX11 := cell_regrown HX1.out.c1
          have kY10 := cell_regrown HY1.out.c0
          have kY11 := cell_regrown HY1.out.c1
          have q0 := fun d os => Calls.regrown_of (C1.out (grow (redrawn Y3 d) os) (below_regrown Y3 d os))
          have q1 := fun d os => Calls.regrown_of (CXk.out (grow (redrawn Y3 d) os) (below_regrown Y3 d os))
          refine wp_region_quiet_below (by kernel_rfl) (by kernel_rfl) ?_
          repeat (first | go_big_quiet_step (first | with_reducible exact q0 _ _ | with_reducible exact q1 _ _) | quiet_step (first | with_reducible exact q0 _ _ | with_reducible exact q1 _ _))
          refine wpQuiet_nil ?_
          intro _ hw'
          obtain ⟨⟨dq, osq⟩, hw''⟩ := hw'
          subst hw''
          go_wp2_with fail
          go_meet
          exact ⟨rfl, below_regrown Y3 dq osq⟩
        · have hmark : True := trivial
          have C1 := CYk (.inr rfl)
          have hkb : (k != i) = true := by rw [bne_iff_ne]; exact hk
          clear CYk CS hk
          have kX10 := cell_regrown HX1.out.c0
          have kX11 := cell_regrown HX1.out.c1
          have kY10 := cell_regrown HY1.out.c0
          have kY11 := cell_regrown HY1.out.c1
          have q0 := fun d os => Calls.regrown_of (C1.out (grow (redrawn Y3 d) os) (below_regrown Y3 d os))
          have q1 := fun d os => Calls.regrown_of (CXk.out (grow (redrawn Y3 d) os) (below_regrown Y3 d os))
          refine wp_region_quiet_below (by kernel_rfl) (by kernel_rfl) ?_
          repeat (first | go_big_quiet_step (first | with_reducible exact q0 _ _ | with_reducible exact q1 _ _) | quiet_step (first | with_reducible exact q0 _ _ | with_reducible exact q1 _ _))
          refine wpQuiet_nil ?_
          intro _ hw'
          obtain ⟨⟨dq, osq⟩, hw''⟩ := hw'
          subst hw''
          go_wp2_with fail
          go_meet
          exact ⟨rfl, below_regrown Y3 dq osq⟩
      | true =>
        by_cases hk : k = i
        · have hmark : True := trivial
          have C3 := CS rfl
          subst hk
          clear CYk CS
          have kY10 := cell_regrown HY1.out.c0
          have kY11 := cell_regrown HY1.out.c1
          have kW10 := cell_regrown HW1.out.c0
          have kW11 := cell_regrown HW1.out.c1
          have q0 := fun d os => Calls.regrown_of (CYi.out (grow (redrawn Y3 d) os) (below_regrown Y3 d os))
          have q1 := fun d os => Calls.regrown_of (C3.out (grow (redrawn Y3 d) os) (below_regrown Y3 d os))
          refine wp_region_quiet_below (by kernel_rfl) (by kernel_rfl) ?_
          repeat (first | go_big_quiet_step (first | with_reducible exact q0 _ _ | with_reducible exact q1 _ _) | quiet_step (first | with_reducible exact q0 _ _ | with_reducible exact q1 _ _))
          refine wpQuiet_nil ?_
          intro _ hw'
          obtain ⟨⟨dq, osq⟩, hw''⟩ := hw'
          subst hw''
          go_wp2_with fail
          go_meet
          exact ⟨rfl, below_regrown Y3 dq osq⟩
        · have hmark : True := trivial
          have C1 := CYk (.inl hk)
          have C3 := CS rfl
          have hkb : (k != i) = true := by rw [bne_iff_ne]; exact hk
          clear CYk CS hk
          have kY10 := cell_regrown HY1.out.c0
          have kY11 := cell_regrown HY1.out.c1
          have kW10 := cell_regrown HW1.out.c0
          have kW11 := cell_regrown HW1.out.c1
          have kX10 := cell_regrown HX1.out.c0
          have kX11 := cell_regrown HX1.out.c1
          have q0 := fun d os => Calls.regrown_of (CYi.out (grow (redrawn Y3 d) os) (below_regrown Y3 d os))
          have q1 := fun d os => Calls.regrown_of (C3.out (grow (redrawn Y3 d) os) (below_regrown Y3 d os))
          have q2 := fun d os => Calls.regrown_of (C1.out (grow (redrawn Y3 d) os) (below_regrown Y3 d os))
          have q3 := fun d os => Calls.regrown_of (CXk.out (grow (redrawn Y3 d) os) (below_regrown Y3 d os))
          refine wp_region_quiet_below (by kernel_rfl) (by kernel_rfl) ?_
          repeat (first | go_big_quiet_step (first | with_reducible exact q0 _ _ | with_reducible exact q1 _ _ | with_reducible exact q2 _ _ | with_reducible exact q3 _ _) | quiet_step (first | with_reducible exact q0 _ _ | with_reducible exact q1 _ _ | with_reducible exact q2 _ _ | with_reducible exact q3 _ _))
          refine wpQuiet_nil ?_
          intro _ hw'
          obtain ⟨⟨dq, osq⟩, hw''⟩ := hw'
          subst hw''
          go_wp2_with fail
          go_meet
          exact ⟨rfl, below_regrown Y3 dq osq⟩
    case rest =>
      obtain ⟨rfl, hBq⟩ := hcut
      clear CYi CXk CYk CS
      have HW0 := HBN
      clear HBN
      have HBN := hBq
      clear hBq
      cases on with
      | false =>
        obtain rfl : ny = 0 := HOFF.out rfl
        have C2 := CO2 rfl
        clear CB CT CL1 CL2 CO2 HNY HOFF HV HW1
        have CS1 : Hid (∀ W, Below Y3.heap.size Y3 W → Calls Try.prog 19 #[.agg #[.bool false, .slice xa n xc], .int .i64 i, .agg #[.int .i64 0, .int .i64 0]] W fun e w' => e = .returned (.agg #[.bool false, .slice none 0 0]) ∧ Below W.heap.size W w') := fun W _ => SetF_off xa n xc i 0 0 W
        have CS2 : Hid (∀ W, Below Y3.heap.size Y3 W → Calls Try.prog 19 #[.agg #[.bool false, .slice xa n xc], .int .i64 i, .agg #[.int .i64 2, .int .i64 0]] W fun e w' => e = .returned (.agg #[.bool false, .slice none 0 0]) ∧ Below W.heap.size W w') := fun W _ => SetF_off xa n xc i 2 0 W
        have hBA := HA.out.below HBN.out HA.out.lt
        have kA0 := cell_regrown hBA.c0
        have kA1 := cell_regrown hBA.c1
        have hBX1 := HX1.out.below HBN.out HX1.out.lt
        have kX10 := cell_regrown hBX1.c0
        have kX11 := cell_regrown hBX1.c1
        have hBY1 := HY1.out.below HBN.out HY1.out.lt
        have kY10 := cell_regrown hBY1.c0
        have kY11 := cell_regrown hBY1.c1
        have q0 := fun d os => Calls.regrown_of (CS1.out (grow (redrawn wc d) os) (HBN.out.trans ((below_regrown wc d os).mono HBN.out.size)))
        have q1 := fun d os => Calls.regrown_of (CO1.out (grow (redrawn wc d) os) (HBN.out.trans ((below_regrown wc d os).mono HBN.out.size)))
        have q2 := fun d os => Calls.regrown_of (CS2.out (grow (redrawn wc d) os) (HBN.out.trans ((below_regrown wc d os).mono HBN.out.size)))
        have q3 := fun d os => Calls.regrown_of (C2.out (grow (redrawn wc d) os) (HBN.out.trans ((below_regrown wc d os).mono HBN.out.size)))
        clear hBA hBX1 hBY1 HA HX1 HY1 CS1 CO1 CS2 C2
        go_wp2_with fail
        refine wp_region_quiet_below (by kernel_rfl) (by kernel_rfl) ?_
        repeat (first | go_big_quiet_step (first | with_reducible exact q0 _ _ | with_reducible exact q1 _ _ | with_reducible exact q2 _ _ | with_reducible exact q3 _ _) | quiet_step (first | with_reducible exact q0 _ _ | with_reducible exact q1 _ _ | with_reducible exact q2 _ _ | with_reducible exact q3 _ _))
        refine wpQuiet_nil ?_
        intro _ hw'
        obtain ⟨⟨dq, osq⟩, hw''⟩ := hw'
        subst hw''
        have hb := Lib.hid (below_regrown wc dq osq)
        clear kA0 kA1 kX10 kX11 kY10 kY11 q0 q1 q2 q3
        generalize grow (redrawn wc dq) osq = wq at *
        go_wp2_with fail
        go_ret
        exact ⟨rfl, HW0.out.trans ((HBN.out.trans (hb.out.mono HBN.out.size)).mono HW0.out.size)⟩
      | true =>
        have hnn : ny = n := HNY.out rfl
        subst hnn
        clear CO1 CO2 HNY HOFF HV HW1
        have hS : Hid (∀ w', Below Y3.heap.size Y3 w' → w'.cell? ⟨w.heap.size, 0, none⟩ = some (.bool true) ∧ w'.cell? ⟨w.heap.size, 1, none⟩ = some (.slice a ny cap) ∧ w'.cell? ⟨bX1, 0, none⟩ = some (.bool true) ∧ w'.cell? ⟨bX1, 1, none⟩ = some (.slice xa ny xc) ∧ w'.cell? ⟨bY1, 0, none⟩ = some (.bool true) ∧ w'.cell? ⟨bY1, 1, none⟩ = some (.slice ay ny capy)) := fun W h =>
          ⟨(h.cell (p := ⟨w.heap.size, 0, none⟩) HA.out.lt).trans HA.out.c0, (h.cell (p := ⟨w.heap.size, 1, none⟩) HA.out.lt).trans HA.out.c1, (h.cell (p := ⟨bX1, 0, none⟩) HX1.out.lt).trans HX1.out.c0, (h.cell (p := ⟨bX1, 1, none⟩) HX1.out.lt).trans HX1.out.c1, (h.cell (p := ⟨bY1, 0, none⟩) HY1.out.lt).trans HY1.out.c0, (h.cell (p := ⟨bY1, 1, none⟩) HY1.out.lt).trans HY1.out.c1⟩
        clear HA HX1 HY1
        go_wp2_with fail
        have TT := HBN.out.drew
        clear HBN
        have HBN := Lib.hid TT
        clear TT
        have tok1 : True := trivial
        have tok2 : True := trivial
        have tok3 : True := trivial
        have tok4 : True := trivial
        go_region_held3 (fun w' => w'.cell? ⟨w.heap.size, 0, none⟩ = some (.bool true) ∧ w'.cell? ⟨w.heap.size, 1, none⟩ = some (.slice a ny cap) ∧ w'.cell? ⟨bX1, 0, none⟩ = some (.bool true) ∧ w'.cell? ⟨bX1, 1, none⟩ = some (.slice xa ny xc) ∧ w'.cell? ⟨bY1, 0, none⟩ = some (.bool true) ∧ w'.cell? ⟨bY1, 1, none⟩ = some (.slice ay ny capy))
          (first | exact hS.out _ HBN.out)
          (first
            | (have _t := tok1; go_at_call 19; refine (CB.out _ HBN.out).mono ?_; clear _t tok1; rintro e wn ⟨a_1, c_1, rfl, hF, hbn⟩; have hbx := HBN.out.trans (hbn.mono HBN.out.size); clear HBN hbn; have HBN := Lib.hid hbx; clear hbx; have H1 := Lib.hid hF; clear hF)
            | (have _t := tok2; go_at_call 13; refine (CL1.out _ _ _ HBN.out H1.out).mono ?_; clear _t tok2; rintro e wn ⟨rfl, hbn⟩; have hbx := HBN.out.trans (hbn.mono HBN.out.size); clear HBN hbn; have HBN := Lib.hid hbx; clear hbx)
            | (have _t := tok3; go_at_call 19; refine (CT.out _ HBN.out).mono ?_; clear _t tok3; rintro e wn ⟨a_2, c_2, rfl, hF, hbn⟩; have hbx := HBN.out.trans (hbn.mono HBN.out.size); clear HBN hbn; have HBN := Lib.hid hbx; clear hbx; have H2 := Lib.hid hF; clear hF)
            | (have _t := tok4; go_at_call 13; refine (CL2.out _ _ _ HBN.out H2.out).mono ?_; clear _t tok4; rintro e wn ⟨rfl, hbn⟩; have hbx := HBN.out.trans (hbn.mono HBN.out.size); clear HBN hbn; have HBN := Lib.hid hbx; clear hbx))
        all_goals
          go_wp2_with fail
          go_ret
          exact ⟨rfl, HW0.out.trans (HBN.out.mono HW0.out.size)⟩
end Go.Proofs.Ytcmncclibhjepaa
