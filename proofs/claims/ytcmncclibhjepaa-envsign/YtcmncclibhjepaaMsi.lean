import Derived.Test.YtcmncclibhjepaaEnvUS
import Derived.Test.YtcmncclibhjepaaEnvTS
namespace Go.Proofs.Ytcmncclibhjepaa
open Go Go.RowKit Go.Sort

set_option maxRecDepth 100000 in
set_option maxHeartbeats 16000000 in
theorem sign4_law (on1 : Bool) (a1 : Option Addr) (n1 cap1 : Nat) (l1 : List Int) (on2 : Bool) (a2 : Option Addr) (n2 cap2 : Nat) (l2 : List Int) (i : Int) (s : Int) (n : Int) (w : World) (hA : SE w a1 n1 l1) (hB : SE w a2 n2 l2) :
    Calls Try.prog 4 #[.agg #[.bool on1, .slice a1 n1 cap1], .agg #[.bool on2, .slice a2 n2 cap2], .int .i64 i, .int .i64 s, .int .i64 n] w fun e w' => e = .returned (.bool true) ∧ Below w.heap.size w w' := by
  have BA := ((Box.new w (.bool on1) (.slice a1 n1 cap1) 48).alloc (.cells #[.bool on2, .slice a2 n2 cap2] 48))
  have BB := (Box.new (w.alloc (.cells #[.bool on1, .slice a1 n1 cap1] 48)) (.bool on2) (.slice a2 n2 cap2) 48)
  have hW := below2 w (.cells #[.bool on1, .slice a1 n1 cap1] 48) (.cells #[.bool on2, .slice a2 n2 cap2] 48)
  simp only [World.size_alloc] at BB
  have RA := Lib.hid (hA.below hW)
  have RB := Lib.hid (hB.below hW)
  generalize hE : ((w.alloc (.cells #[.bool on1, .slice a1 n1 cap1] 48)).alloc (.cells #[.bool on2, .slice a2 n2 cap2] 48)) = W0 at *
  have HA := Lib.hid BA
  have HB := Lib.hid BB
  have HBN := Lib.hid hW
  clear hW BA BB hA hB
  go_enter Try.func4, Try.ntmps4
  go_wp2_with fail
  clear hE
  refine (awake4_any _).mono ?_
  rintro e w1 ⟨rfl, hb⟩
  have TT := HA.out.below hb HA.out.lt; clear HA; have HA := Lib.hid TT; clear TT
  have TT := HB.out.below hb HB.out.lt; clear HB; have HB := Lib.hid TT; clear TT
  have TT := RA.out.below hb; clear RA; have RA := Lib.hid TT; clear TT
  have TT := RB.out.below hb; clear RB; have RB := Lib.hid TT; clear TT
  have TT := HBN.out.trans (hb.mono HBN.out.size); clear HBN; have HBN := Lib.hid TT; clear TT hb
  by_cases hlen : n1 ≤ 100 ∧ n2 ≤ 100
  rotate_left
  · have hor : 100 < n1 ∨ (n1 ≤ 100 ∧ 100 < n2) := by omega
    obtain ⟨cA0, cA1, -, -⟩ := id HA.out
    obtain ⟨cB0, cB1, -, -⟩ := id HB.out
    clear hlen
    rcases hor with h | ⟨h, h'⟩
    · have e1 : (100 : Int) < (n1 : Int) := by omega
      go_wp2_with fail
      go_ret
      exact ⟨rfl, HBN.out⟩
    · have e1 : (n1 : Int) ≤ 100 := by omega
      have e2 : (100 : Int) < (n2 : Int) := by omega
      go_wp2_with fail
      go_ret
      exact ⟨rfl, HBN.out⟩
  obtain ⟨hm1, hm2⟩ := hlen
  have e1 : (n1 : Int) ≤ 100 := by omega
  have hl1 : n1 ≤ 200 := by omega
  have e2 : (n2 : Int) ≤ 100 := by omega
  have hl2 : n2 ≤ 200 := by omega
  obtain ⟨cA0, cA1, -, -⟩ := id HA.out
  obtain ⟨cB0, cB1, -, -⟩ := id HB.out
  go_wp2_with fail
  clear cA0 cA1 cB0 cB1
  clear e1 e2
  refine (ourS_any on1 a1 n1 cap1 _).mono ?_
  rintro e u1 ⟨rfl, hb⟩
  have TT := HA.out.below hb HA.out.lt; clear HA; have HA := Lib.hid TT; clear TT
  have TT := HB.out.below hb HB.out.lt; clear HB; have HB := Lib.hid TT; clear TT
  have TT := RA.out.below hb; clear RA; have RA := Lib.hid TT; clear TT
  have TT := RB.out.below hb; clear RB; have RB := Lib.hid TT; clear TT
  have TT := HBN.out.trans (hb.mono HBN.out.size); clear HBN; have HBN := Lib.hid TT; clear TT hb
  have hb := (Below.refl u1.heap.size u1).alloc (Nat.le_refl _) (.cells #[.bool on1, .slice a1 n1 cap1] 49)
  have TT := HA.out.below hb HA.out.lt; clear HA; have HA := Lib.hid TT; clear TT
  have TT := HB.out.below hb HB.out.lt; clear HB; have HB := Lib.hid TT; clear TT
  have TT := RA.out.below hb; clear RA; have RA := Lib.hid TT; clear TT
  have TT := RB.out.below hb; clear RB; have RB := Lib.hid TT; clear TT
  have TT := HBN.out.trans (hb.mono HBN.out.size); clear HBN; have HBN := Lib.hid TT; clear TT hb
  have HX := Lib.hid (Box.new u1 (.bool on1) (.slice a1 n1 cap1) 49)
  obtain ⟨cB0, cB1, -, -⟩ := id HB.out
  go_wp2_with fail
  clear cB0 cB1
  obtain ⟨bX, hbb⟩ : ∃ b, u1.heap.size = b := ⟨_, rfl⟩
  rw [hbb]
  rw [hbb] at HX
  clear hbb
  generalize u1.alloc (.cells #[.bool on1, .slice a1 n1 cap1] 49) = Y1 at *
  refine (ourS_any on2 a2 n2 cap2 _).mono ?_
  rintro e u2 ⟨rfl, hb⟩
  have TT := HA.out.below hb HA.out.lt; clear HA; have HA := Lib.hid TT; clear TT
  have TT := HB.out.below hb HB.out.lt; clear HB; have HB := Lib.hid TT; clear TT
  have TT := HX.out.below hb HX.out.lt; clear HX; have HX := Lib.hid TT; clear TT
  have TT := RA.out.below hb; clear RA; have RA := Lib.hid TT; clear TT
  have TT := RB.out.below hb; clear RB; have RB := Lib.hid TT; clear TT
  have TT := HBN.out.trans (hb.mono HBN.out.size); clear HBN; have HBN := Lib.hid TT; clear TT hb
  have hb := (Below.refl u2.heap.size u2).alloc (Nat.le_refl _) (.cells #[.bool on2, .slice a2 n2 cap2] 49)
  have TT := HA.out.below hb HA.out.lt; clear HA; have HA := Lib.hid TT; clear TT
  have TT := HB.out.below hb HB.out.lt; clear HB; have HB := Lib.hid TT; clear TT
  have TT := HX.out.below hb HX.out.lt; clear HX; have HX := Lib.hid TT; clear TT
  have TT := RA.out.below hb; clear RA; have RA := Lib.hid TT; clear TT
  have TT := RB.out.below hb; clear RB; have RB := Lib.hid TT; clear TT
  have TT := HBN.out.trans (hb.mono HBN.out.size); clear HBN; have HBN := Lib.hid TT; clear TT hb
  have HY := Lib.hid (Box.new u2 (.bool on2) (.slice a2 n2 cap2) 49)
  go_upto_region 6 with fail
  obtain ⟨bY, hbb⟩ : ∃ b, u2.heap.size = b := ⟨_, rfl⟩
  rw [hbb]
  rw [hbb] at HY
  clear hbb
  generalize u2.alloc (.cells #[.bool on2, .slice a2 n2 cap2] 49) = Y2 at *
  obtain ⟨gv, hgv⟩ : ∃ r, sS (atG 0 on1 l1 i) = r := ⟨_, rfl⟩
  obtain ⟨b, hb⟩ : ∃ b, leqS on1 l1 on2 l2 = b := ⟨_, rfl⟩
  obtain ⟨on, hon⟩ : ∃ b, (on1 || on2) = b := ⟨_, rfl⟩
  obtain ⟨lj, hlj⟩ : ∃ l, joinS on1 l1 on2 l2 = l := ⟨_, rfl⟩
  obtain ⟨nj, hnj⟩ : ∃ n, max (szG on1 l1) (szG on2 l2) = n := ⟨_, rfl⟩
  obtain ⟨ly, hly⟩ : ∃ l, setS on1 l1 i s = l := ⟨_, rfl⟩
  obtain ⟨ny, hny⟩ : ∃ n, szG on1 l1 = n := ⟨_, rfl⟩
  obtain ⟨m, hm⟩ : ∃ m, clG n 64 = m := ⟨_, rfl⟩
  obtain ⟨lf, hlf⟩ : ∃ l, tabG (fun _ => ((sS s : Nat) : Int)) m = l := ⟨_, rfl⟩
  have hz1 : szG on1 l1 ≤ 100 := by have := RA.out.2; unfold szG; split <;> omega
  have hz2 : szG on2 l2 ≤ 100 := by have := RB.out.2; unfold szG; split <;> omega
  have hnjl : nj ≤ 200 := by omega
  have hnyl : ny ≤ 200 := by omega
  have hml : m ≤ 200 := by have := clG_le n 64; omega
  have CG : Hid (∀ W, Below Y2.heap.size Y2 W → Calls Try.prog 26 #[.agg #[.bool on1, .slice a1 n1 cap1], .int .i64 i] W fun e w' => e = .returned (.int .i64 (gv : Int)) ∧ Below W.heap.size W w') := fun W h => GetSE_any on1 a1 n1 cap1 l1 i W (RA.out.below h) gv hgv
  have CR : Hid (∀ W, Below Y2.heap.size Y2 W → Calls Try.prog 27 #[.agg #[.bool on1, .slice a1 n1 cap1], .int .i64 i] W fun e w' => e = .returned (.int .i64 (gv : Int)) ∧ Below W.heap.size W w') := fun W h => (by have := rGetS_any on1 a1 n1 cap1 l1 i W (RA.out.below h); rw [hgv] at this; exact this)
  have CL : Hid (∀ W, Below Y2.heap.size Y2 W → Calls Try.prog 28 #[.agg #[.bool on1, .slice a1 n1 cap1], .agg #[.bool on2, .slice a2 n2 cap2]] W fun e w' => e = .returned (.bool b) ∧ Below W.heap.size W w') := fun W h => LeqS_any on1 a1 n1 cap1 l1 on2 a2 n2 cap2 l2 W (RA.out.below h) (RB.out.below h) hl1 b hb
  have CM : Hid (∀ W, Below Y2.heap.size Y2 W → Calls Try.prog 29 #[.agg #[.bool on1, .slice a1 n1 cap1], .agg #[.bool on2, .slice a2 n2 cap2]] W fun e w' => e = .returned (.bool b) ∧ Below W.heap.size W w') := fun W h => rLeqS_any on1 a1 n1 cap1 l1 on2 a2 n2 cap2 l2 W (RA.out.below h) (RB.out.below h) hl1 hl2 b hb
  have D1 : Hid (∀ W, Below Y2.heap.size Y2 W → Calls Try.prog 32 #[.agg #[.bool on1, .slice a1 n1 cap1], .agg #[.bool on2, .slice a2 n2 cap2]] W fun e w' => ∃ a cap, e = .returned (.agg #[.bool on, .slice a nj cap]) ∧ SE w' a nj lj ∧ Below W.heap.size W w') := fun W h => JoinS_any on1 a1 n1 cap1 l1 on2 a2 n2 cap2 l2 W (RA.out.below h) (RB.out.below h) hl1 hl2 on lj nj hon hlj hnj
  have D2 : Hid (∀ W, Below Y2.heap.size Y2 W → Calls Try.prog 33 #[.agg #[.bool on1, .slice a1 n1 cap1], .agg #[.bool on2, .slice a2 n2 cap2]] W fun e w' => ∃ a cap, e = .returned (.agg #[.bool on, .slice a nj cap]) ∧ SE w' a nj lj ∧ Below W.heap.size W w') := fun W h => rJoinS_any on1 a1 n1 cap1 l1 on2 a2 n2 cap2 l2 W (RA.out.below h) (RB.out.below h) hl1 hl2 on lj nj hon hlj hnj
  have D3 : Hid (∀ W, Below Y2.heap.size Y2 W → Calls Try.prog 34 #[.agg #[.bool on1, .slice a1 n1 cap1], .int .i64 i, .int .i64 s] W fun e w' => ∃ a cap, e = .returned (.agg #[.bool on1, .slice a ny cap]) ∧ SE w' a ny ly ∧ Below W.heap.size W w') := fun W h => SetS_any on1 a1 n1 cap1 l1 i s W (RA.out.below h) hl1 ly ny hly hny
  have D4 : Hid (∀ W, Below Y2.heap.size Y2 W → Calls Try.prog 35 #[.agg #[.bool on1, .slice a1 n1 cap1], .int .i64 i, .int .i64 s] W fun e w' => ∃ a cap, e = .returned (.agg #[.bool on1, .slice a ny cap]) ∧ SE w' a ny ly ∧ Below W.heap.size W w') := fun W h => rSetS_any on1 a1 n1 cap1 l1 i s W (RA.out.below h) hl1 ly ny hly hny
  have D5 : Hid (∀ W, Below Y2.heap.size Y2 W → Calls Try.prog 36 #[.int .i64 n, .int .i64 s] W fun e w' => ∃ a cap, e = .returned (.agg #[.bool true, .slice a m cap]) ∧ SE w' a m lf ∧ Below W.heap.size W w') := fun W h => SignsE_any n s W m lf hm hlf
  have D6 : Hid (∀ W, Below Y2.heap.size Y2 W → Calls Try.prog 37 #[.int .i64 n, .int .i64 s] W fun e w' => ∃ a cap, e = .returned (.agg #[.bool true, .slice a m cap]) ∧ SE w' a m lf ∧ Below W.heap.size W w') := fun W h => rSigns_any n s W m hm lf hlf
  have T1 : Hid (∀ W b cb, Calls Try.prog 31 #[.agg #[.bool on, .slice b nj cb]] W fun e w' => e = .returned (.agg #[.bool on, .slice b nj cb]) ∧ Below W.heap.size W w') := fun W b cb => theirS_any on b nj cb W
  have S1 : Hid (∀ W b cb d cd, SE W b nj lj → SE W d nj lj → Calls Try.prog 30 #[.agg #[.bool on, .slice b nj cb], .agg #[.bool on, .slice d nj cd]] W fun e w' => e = .returned (.bool true) ∧ Below W.heap.size W w') := fun W b cb d cd g g' => SameS_eq on b cb d cd nj lj W g g' hnjl
  have T2 : Hid (∀ W b cb, Calls Try.prog 31 #[.agg #[.bool on1, .slice b ny cb]] W fun e w' => e = .returned (.agg #[.bool on1, .slice b ny cb]) ∧ Below W.heap.size W w') := fun W b cb => theirS_any on1 b ny cb W
  have S2 : Hid (∀ W b cb d cd, SE W b ny ly → SE W d ny ly → Calls Try.prog 30 #[.agg #[.bool on1, .slice b ny cb], .agg #[.bool on1, .slice d ny cd]] W fun e w' => e = .returned (.bool true) ∧ Below W.heap.size W w') := fun W b cb d cd g g' => SameS_eq on1 b cb d cd ny ly W g g' hnyl
  have T3 : Hid (∀ W b cb, Calls Try.prog 31 #[.agg #[.bool true, .slice b m cb]] W fun e w' => e = .returned (.agg #[.bool true, .slice b m cb]) ∧ Below W.heap.size W w') := fun W b cb => theirS_any true b m cb W
  have S3 : Hid (∀ W b cb d cd, SE W b m lf → SE W d m lf → Calls Try.prog 30 #[.agg #[.bool true, .slice b m cb], .agg #[.bool true, .slice d m cd]] W fun e w' => e = .returned (.bool true) ∧ Below W.heap.size W w') := fun W b cb d cd g g' => SameS_eq true b cb d cd m lf W g g' hml
  clear hgv hb hon hlj hnj hly hny hm hlf hz1 hz2 hnjl hnyl hml hl1 hl2 hm1 hm2 RA RB
  go_cut [45] (fun sx wx => sx = .bool false ∧ Hid (Below Y2.heap.size Y2 wx))
  case first =>
    clear D1 D2 D3 D4 D5 D6 T1 T2 T3 S1 S2 S3
    cases b
    all_goals
      have kA0 := cell_regrown HA.out.c0
      have kA1 := cell_regrown HA.out.c1
      have kB0 := cell_regrown HB.out.c0
      have kB1 := cell_regrown HB.out.c1
      have kX0 := cell_regrown HX.out.c0
      have kX1 := cell_regrown HX.out.c1
      have kY0 := cell_regrown HY.out.c0
      have kY1 := cell_regrown HY.out.c1
      have q0 := fun d os => Calls.regrown_of (CG.out (grow (redrawn Y2 d) os) (below_regrown Y2 d os))
      have q1 := fun d os => Calls.regrown_of (CR.out (grow (redrawn Y2 d) os) (below_regrown Y2 d os))
      have q2 := fun d os => Calls.regrown_of (CL.out (grow (redrawn Y2 d) os) (below_regrown Y2 d os))
      have q3 := fun d os => Calls.regrown_of (CM.out (grow (redrawn Y2 d) os) (below_regrown Y2 d os))
      refine wp_region_quiet_below (by kernel_rfl) (by kernel_rfl) ?_
      repeat (first | go_big_quiet_step (first | with_reducible exact q0 _ _ | with_reducible exact q1 _ _ | with_reducible exact q2 _ _ | with_reducible exact q3 _ _) | quiet_step (first | with_reducible exact q0 _ _ | with_reducible exact q1 _ _ | with_reducible exact q2 _ _ | with_reducible exact q3 _ _))
      refine wpQuiet_nil ?_
      intro _ hw'
      obtain ⟨⟨dq, osq⟩, hw''⟩ := hw'
      subst hw''
      go_wp2_with fail
      go_meet
      exact ⟨rfl, below_regrown Y2 dq osq⟩
  case rest =>
    obtain ⟨rfl, hBq⟩ := hcut
    clear CR CL CM CG
    have hS : Hid (∀ w', Below Y2.heap.size Y2 w' → w'.cell? ⟨w.heap.size, 0, none⟩ = some (.bool on1) ∧ w'.cell? ⟨w.heap.size, 1, none⟩ = some (.slice a1 n1 cap1) ∧ w'.cell? ⟨w.heap.size + 1, 0, none⟩ = some (.bool on2) ∧ w'.cell? ⟨w.heap.size + 1, 1, none⟩ = some (.slice a2 n2 cap2) ∧ w'.cell? ⟨bX, 0, none⟩ = some (.bool on1) ∧ w'.cell? ⟨bX, 1, none⟩ = some (.slice a1 n1 cap1) ∧ w'.cell? ⟨bY, 0, none⟩ = some (.bool on2) ∧ w'.cell? ⟨bY, 1, none⟩ = some (.slice a2 n2 cap2)) := fun W h =>
      ⟨(h.cell (p := ⟨w.heap.size, 0, none⟩) HA.out.lt).trans HA.out.c0, (h.cell (p := ⟨w.heap.size, 1, none⟩) HA.out.lt).trans HA.out.c1, (h.cell (p := ⟨w.heap.size + 1, 0, none⟩) HB.out.lt).trans HB.out.c0, (h.cell (p := ⟨w.heap.size + 1, 1, none⟩) HB.out.lt).trans HB.out.c1, (h.cell (p := ⟨bX, 0, none⟩) HX.out.lt).trans HX.out.c0, (h.cell (p := ⟨bX, 1, none⟩) HX.out.lt).trans HX.out.c1, (h.cell (p := ⟨bY, 0, none⟩) HY.out.lt).trans HY.out.c0, (h.cell (p := ⟨bY, 1, none⟩) HY.out.lt).trans HY.out.c1⟩
    have HW0 := HBN
    clear HBN
    have HBN := hBq
    clear hBq HA HB HX HY
    go_wp2_with fail
    have TT := HBN.out.drew
    clear HBN
    have HBN := Lib.hid TT
    clear TT
    have tok1 : True := trivial
    have tok2 : True := trivial
    have tok3 : True := trivial
    have tok4 : True := trivial
    have tok5 : True := trivial
    have tok6 : True := trivial
    have tok7 : True := trivial
    have tok8 : True := trivial
    have tok9 : True := trivial
    have tok10 : True := trivial
    have tok11 : True := trivial
    have tok12 : True := trivial
    go_region_held3 (fun w' => w'.cell? ⟨w.heap.size, 0, none⟩ = some (.bool on1) ∧ w'.cell? ⟨w.heap.size, 1, none⟩ = some (.slice a1 n1 cap1) ∧ w'.cell? ⟨w.heap.size + 1, 0, none⟩ = some (.bool on2) ∧ w'.cell? ⟨w.heap.size + 1, 1, none⟩ = some (.slice a2 n2 cap2) ∧ w'.cell? ⟨bX, 0, none⟩ = some (.bool on1) ∧ w'.cell? ⟨bX, 1, none⟩ = some (.slice a1 n1 cap1) ∧ w'.cell? ⟨bY, 0, none⟩ = some (.bool on2) ∧ w'.cell? ⟨bY, 1, none⟩ = some (.slice a2 n2 cap2))
      (first | exact hS.out _ HBN.out)
      (first
        | (have _t := tok1; go_at_call 32; refine (D1.out _ HBN.out).mono ?_; clear _t tok1; rintro e wn ⟨a_p1, c_p1, rfl, hF, hbn⟩; have hbx := HBN.out.trans (hbn.mono HBN.out.size); clear HBN hbn; have HBN := Lib.hid hbx; clear hbx; have Hp1 := Lib.hid hF; clear hF)
        | (have _t := tok2; go_at_call 31; refine (T1.out _ _ _).mono ?_; clear _t tok2; rintro e wn ⟨rfl, hbn⟩; have hFp1 := Hp1.out.below hbn; clear Hp1; have Hp1 := Lib.hid hFp1; clear hFp1; have hbx := HBN.out.trans (hbn.mono HBN.out.size); clear HBN hbn; have HBN := Lib.hid hbx; clear hbx)
        | (have _t := tok3; go_at_call 33; refine (D2.out _ HBN.out).mono ?_; clear _t tok3; rintro e wn ⟨a_r1, c_r1, rfl, hF, hbn⟩; have hFp1 := Hp1.out.below hbn; clear Hp1; have Hp1 := Lib.hid hFp1; clear hFp1; have hbx := HBN.out.trans (hbn.mono HBN.out.size); clear HBN hbn; have HBN := Lib.hid hbx; clear hbx; have Hr1 := Lib.hid hF; clear hF)
        | (have _t := tok4; go_at_call 30; refine (S1.out _ _ _ _ _ Hp1.out Hr1.out).mono ?_; clear _t tok4; rintro e wn ⟨rfl, hbn⟩; have hbx := HBN.out.trans (hbn.mono HBN.out.size); clear HBN hbn; have HBN := Lib.hid hbx; clear hbx)
        | (have _t := tok5; go_at_call 34; refine (D3.out _ HBN.out).mono ?_; clear _t tok5; rintro e wn ⟨a_p2, c_p2, rfl, hF, hbn⟩; have hbx := HBN.out.trans (hbn.mono HBN.out.size); clear HBN hbn; have HBN := Lib.hid hbx; clear hbx; have Hp2 := Lib.hid hF; clear hF)
        | (have _t := tok6; go_at_call 31; refine (T2.out _ _ _).mono ?_; clear _t tok6; rintro e wn ⟨rfl, hbn⟩; have hFp2 := Hp2.out.below hbn; clear Hp2; have Hp2 := Lib.hid hFp2; clear hFp2; have hbx := HBN.out.trans (hbn.mono HBN.out.size); clear HBN hbn; have HBN := Lib.hid hbx; clear hbx)
        | (have _t := tok7; go_at_call 35; refine (D4.out _ HBN.out).mono ?_; clear _t tok7; rintro e wn ⟨a_r2, c_r2, rfl, hF, hbn⟩; have hFp2 := Hp2.out.below hbn; clear Hp2; have Hp2 := Lib.hid hFp2; clear hFp2; have hbx := HBN.out.trans (hbn.mono HBN.out.size); clear HBN hbn; have HBN := Lib.hid hbx; clear hbx; have Hr2 := Lib.hid hF; clear hF)
        | (have _t := tok8; go_at_call 30; refine (S2.out _ _ _ _ _ Hp2.out Hr2.out).mono ?_; clear _t tok8; rintro e wn ⟨rfl, hbn⟩; have hbx := HBN.out.trans (hbn.mono HBN.out.size); clear HBN hbn; have HBN := Lib.hid hbx; clear hbx)
        | (have _t := tok9; go_at_call 36; refine (D5.out _ HBN.out).mono ?_; clear _t tok9; rintro e wn ⟨a_p3, c_p3, rfl, hF, hbn⟩; have hbx := HBN.out.trans (hbn.mono HBN.out.size); clear HBN hbn; have HBN := Lib.hid hbx; clear hbx; have Hp3 := Lib.hid hF; clear hF)
        | (have _t := tok10; go_at_call 31; refine (T3.out _ _ _).mono ?_; clear _t tok10; rintro e wn ⟨rfl, hbn⟩; have hFp3 := Hp3.out.below hbn; clear Hp3; have Hp3 := Lib.hid hFp3; clear hFp3; have hbx := HBN.out.trans (hbn.mono HBN.out.size); clear HBN hbn; have HBN := Lib.hid hbx; clear hbx)
        | (have _t := tok11; go_at_call 37; refine (D6.out _ HBN.out).mono ?_; clear _t tok11; rintro e wn ⟨a_r3, c_r3, rfl, hF, hbn⟩; have hFp3 := Hp3.out.below hbn; clear Hp3; have Hp3 := Lib.hid hFp3; clear hFp3; have hbx := HBN.out.trans (hbn.mono HBN.out.size); clear HBN hbn; have HBN := Lib.hid hbx; clear hbx; have Hr3 := Lib.hid hF; clear hF)
        | (have _t := tok12; go_at_call 30; refine (S3.out _ _ _ _ _ Hp3.out Hr3.out).mono ?_; clear _t tok12; rintro e wn ⟨rfl, hbn⟩; have hbx := HBN.out.trans (hbn.mono HBN.out.size); clear HBN hbn; have HBN := Lib.hid hbx; clear hbx))
    all_goals
      go_wp2_with fail
      go_ret
      exact ⟨rfl, HW0.out.trans (HBN.out.mono HW0.out.size)⟩
end Go.Proofs.Ytcmncclibhjepaa
