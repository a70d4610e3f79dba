import Derived.Test.YtcmncclibhjepaaEnvUF
import Derived.Test.YtcmncclibhjepaaEnvTF
namespace Go.Proofs.Ytcmncclibhjepaa
open Go Go.RowKit Go.Sort

set_option maxRecDepth 100000 in
set_option maxHeartbeats 16000000 in
theorem flat4_law (on1 : Bool) (a1 : Option Addr) (n1 cap1 : Nat) (l1 : List V) (on2 : Bool) (a2 : Option Addr) (n2 cap2 : Nat) (l2 : List V) (i : Int) (v : V) (n : Int) (w : World) (hA : FE w a1 n1 l1) (hB : FE w a2 n2 l2) :
    Calls Try.prog 3 #[.agg #[.bool on1, .slice a1 n1 cap1], .agg #[.bool on2, .slice a2 n2 cap2], .int .i64 i, v.val, .int .i64 n] w fun e w' => e = .returned (.bool true) ∧ Below w.heap.size w w' := by
  obtain ⟨vk, vc⟩ := v
  unfold V.val
  have BA := (((Box.new w (.bool on1) (.slice a1 n1 cap1) 24).alloc (.cells #[.bool on2, .slice a2 n2 cap2] 24)).alloc (.cells #[.int .i64 vk, .int .i64 vc] 26))
  have BB := ((Box.new (w.alloc (.cells #[.bool on1, .slice a1 n1 cap1] 24)) (.bool on2) (.slice a2 n2 cap2) 24).alloc (.cells #[.int .i64 vk, .int .i64 vc] 26))
  have BV := (Box.new ((w.alloc (.cells #[.bool on1, .slice a1 n1 cap1] 24)).alloc (.cells #[.bool on2, .slice a2 n2 cap2] 24)) (.int .i64 vk) (.int .i64 vc) 26)
  have hW := below3 w (.cells #[.bool on1, .slice a1 n1 cap1] 24) (.cells #[.bool on2, .slice a2 n2 cap2] 24) (.cells #[.int .i64 vk, .int .i64 vc] 26)
  simp only [World.size_alloc] at BB BV
  have RA := Lib.hid (hA.below hW)
  have RB := Lib.hid (hB.below hW)
  generalize hE : (((w.alloc (.cells #[.bool on1, .slice a1 n1 cap1] 24)).alloc (.cells #[.bool on2, .slice a2 n2 cap2] 24)).alloc (.cells #[.int .i64 vk, .int .i64 vc] 26)) = W0 at *
  have HA := Lib.hid BA
  have HB := Lib.hid BB
  have HV := Lib.hid BV
  have HBN := Lib.hid hW
  clear hW BA BB BV hA hB
  go_enter Try.func3, Try.ntmps3
  go_wp2_with fail
  clear hE
  refine (awake4_any _).mono ?_
  rintro e w1 ⟨rfl, hb⟩
  have TT := HA.out.below hb HA.out.lt; clear HA; have HA := Lib.hid TT; clear TT
  have TT := HB.out.below hb HB.out.lt; clear HB; have HB := Lib.hid TT; clear TT
  have TT := HV.out.below hb HV.out.lt; clear HV; have HV := Lib.hid TT; clear TT
  have TT := RA.out.below hb; clear RA; have RA := Lib.hid TT; clear TT
  have TT := RB.out.below hb; clear RB; have RB := Lib.hid TT; clear TT
  have TT := HBN.out.trans (hb.mono HBN.out.size); clear HBN; have HBN := Lib.hid TT; clear TT hb
  by_cases hlen : n1 ≤ 100 ∧ n2 ≤ 100
  rotate_left
  · have hor : 100 < n1 ∨ (n1 ≤ 100 ∧ 100 < n2) := by omega
    obtain ⟨cA0, cA1, -, -⟩ := id HA.out
    obtain ⟨cB0, cB1, -, -⟩ := id HB.out
    clear hlen
    rcases hor with h | ⟨h, h'⟩
    · have e1 : (100 : Int) < (n1 : Int) := by omega
      go_wp2_with fail
      go_ret
      exact ⟨rfl, HBN.out⟩
    · have e1 : (n1 : Int) ≤ 100 := by omega
      have e2 : (100 : Int) < (n2 : Int) := by omega
      go_wp2_with fail
      go_ret
      exact ⟨rfl, HBN.out⟩
  obtain ⟨hm1, hm2⟩ := hlen
  have e1 : (n1 : Int) ≤ 100 := by omega
  have hl1 : n1 ≤ 200 := by omega
  have e2 : (n2 : Int) ≤ 100 := by omega
  have hl2 : n2 ≤ 200 := by omega
  obtain ⟨cA0, cA1, -, -⟩ := id HA.out
  obtain ⟨cB0, cB1, -, -⟩ := id HB.out
  go_wp2_with fail
  clear cA0 cA1 cB0 cB1
  clear e1 e2
  refine (our_any on1 a1 n1 cap1 l1 _ RA.out hl1).mono ?_
  rintro e u1 ⟨x1, c1, rfl, hF, hb⟩
  have TT := HA.out.below hb HA.out.lt; clear HA; have HA := Lib.hid TT; clear TT
  have TT := HB.out.below hb HB.out.lt; clear HB; have HB := Lib.hid TT; clear TT
  have TT := HV.out.below hb HV.out.lt; clear HV; have HV := Lib.hid TT; clear TT
  have TT := RA.out.below hb; clear RA; have RA := Lib.hid TT; clear TT
  have TT := RB.out.below hb; clear RB; have RB := Lib.hid TT; clear TT
  have TT := HBN.out.trans (hb.mono HBN.out.size); clear HBN; have HBN := Lib.hid TT; clear TT hb
  have RX := Lib.hid hF; clear hF
  have hb := (Below.refl u1.heap.size u1).alloc (Nat.le_refl _) (.cells #[.bool on1, .slice x1 n1 c1] 30)
  have TT := HA.out.below hb HA.out.lt; clear HA; have HA := Lib.hid TT; clear TT
  have TT := HB.out.below hb HB.out.lt; clear HB; have HB := Lib.hid TT; clear TT
  have TT := HV.out.below hb HV.out.lt; clear HV; have HV := Lib.hid TT; clear TT
  have TT := RA.out.below hb; clear RA; have RA := Lib.hid TT; clear TT
  have TT := RB.out.below hb; clear RB; have RB := Lib.hid TT; clear TT
  have TT := RX.out.below hb; clear RX; have RX := Lib.hid TT; clear TT
  have TT := HBN.out.trans (hb.mono HBN.out.size); clear HBN; have HBN := Lib.hid TT; clear TT hb
  have HX := Lib.hid (Box.new u1 (.bool on1) (.slice x1 n1 c1) 30)
  obtain ⟨cB0, cB1, -, -⟩ := id HB.out
  go_wp2_with fail
  clear cB0 cB1
  obtain ⟨bX, hbb⟩ : ∃ b, u1.heap.size = b := ⟨_, rfl⟩
  rw [hbb]
  rw [hbb] at HX
  clear hbb
  generalize u1.alloc (.cells #[.bool on1, .slice x1 n1 c1] 30) = Y1 at *
  refine (our_any on2 a2 n2 cap2 l2 _ RB.out hl2).mono ?_
  rintro e u2 ⟨x2, c2, rfl, hF, hb⟩
  have TT := HA.out.below hb HA.out.lt; clear HA; have HA := Lib.hid TT; clear TT
  have TT := HB.out.below hb HB.out.lt; clear HB; have HB := Lib.hid TT; clear TT
  have TT := HV.out.below hb HV.out.lt; clear HV; have HV := Lib.hid TT; clear TT
  have TT := HX.out.below hb HX.out.lt; clear HX; have HX := Lib.hid TT; clear TT
  have TT := RA.out.below hb; clear RA; have RA := Lib.hid TT; clear TT
  have TT := RB.out.below hb; clear RB; have RB := Lib.hid TT; clear TT
  have TT := RX.out.below hb; clear RX; have RX := Lib.hid TT; clear TT
  have TT := HBN.out.trans (hb.mono HBN.out.size); clear HBN; have HBN := Lib.hid TT; clear TT hb
  have RY := Lib.hid hF; clear hF
  have hb := (Below.refl u2.heap.size u2).alloc (Nat.le_refl _) (.cells #[.bool on2, .slice x2 n2 c2] 30)
  have TT := HA.out.below hb HA.out.lt; clear HA; have HA := Lib.hid TT; clear TT
  have TT := HB.out.below hb HB.out.lt; clear HB; have HB := Lib.hid TT; clear TT
  have TT := HV.out.below hb HV.out.lt; clear HV; have HV := Lib.hid TT; clear TT
  have TT := HX.out.below hb HX.out.lt; clear HX; have HX := Lib.hid TT; clear TT
  have TT := RA.out.below hb; clear RA; have RA := Lib.hid TT; clear TT
  have TT := RB.out.below hb; clear RB; have RB := Lib.hid TT; clear TT
  have TT := RX.out.below hb; clear RX; have RX := Lib.hid TT; clear TT
  have TT := RY.out.below hb; clear RY; have RY := Lib.hid TT; clear TT
  have TT := HBN.out.trans (hb.mono HBN.out.size); clear HBN; have HBN := Lib.hid TT; clear TT hb
  have HY := Lib.hid (Box.new u2 (.bool on2) (.slice x2 n2 c2) 30)
  go_upto_region 6 with fail
  obtain ⟨bY, hbb⟩ : ∃ b, u2.heap.size = b := ⟨_, rfl⟩
  rw [hbb]
  rw [hbb] at HY
  clear hbb
  generalize u2.alloc (.cells #[.bool on2, .slice x2 n2 c2] 30) = Y2 at *
  have HW1 := Lib.hid (Box.new Y2 (.int .i64 vk) (.int .i64 vc) 32)
  have hb := (Below.refl Y2.heap.size Y2).alloc (Nat.le_refl _) (.cells #[.int .i64 vk, .int .i64 vc] 32)
  obtain ⟨cV0, cV1, -, -⟩ := id HV.out
  obtain ⟨cX0, cX1, -, -⟩ := HX.out.alloc (.cells #[.int .i64 vk, .int .i64 vc] 32)
  go_wp2_with fail
  clear cV0 cV1 cX0 cX1
  have TT := HA.out.below hb HA.out.lt; clear HA; have HA := Lib.hid TT; clear TT
  have TT := HB.out.below hb HB.out.lt; clear HB; have HB := Lib.hid TT; clear TT
  have TT := HV.out.below hb HV.out.lt; clear HV; have HV := Lib.hid TT; clear TT
  have TT := HX.out.below hb HX.out.lt; clear HX; have HX := Lib.hid TT; clear TT
  have TT := HY.out.below hb HY.out.lt; clear HY; have HY := Lib.hid TT; clear TT
  have TT := RA.out.below hb; clear RA; have RA := Lib.hid TT; clear TT
  have TT := RB.out.below hb; clear RB; have RB := Lib.hid TT; clear TT
  have TT := RX.out.below hb; clear RX; have RX := Lib.hid TT; clear TT
  have TT := RY.out.below hb; clear RY; have RY := Lib.hid TT; clear TT
  have TT := HBN.out.trans (hb.mono HBN.out.size); clear HBN; have HBN := Lib.hid TT; clear TT hb
  obtain ⟨bW1, hbb⟩ : ∃ b, Y2.heap.size = b := ⟨_, rfl⟩
  rw [hbb]
  rw [hbb] at HW1
  clear hbb
  generalize Y2.alloc (.cells #[.int .i64 vk, .int .i64 vc] 32) = Y2b at *
  obtain ⟨gv, hgv⟩ : ∃ r, (atG vbot on1 l1 i).sn = r := ⟨_, rfl⟩
  obtain ⟨gk, gc⟩ := gv
  have HGF : Hid (∀ W, FE W x1 n1 l1 → Calls Try.prog 11 #[.agg #[.bool on1, .slice x1 n1 c1], .int .i64 i] W fun e w' => e = .returned (.agg #[.int .i64 gk, .int .i64 gc]) ∧ Below W.heap.size W w') := fun W q => GetFE_any on1 x1 n1 c1 l1 i W q ⟨gk, gc⟩ hgv
  refine (HGF.out _ RX.out).mono ?_
  rintro e u3 ⟨rfl, hb⟩
  have TT := HA.out.below hb HA.out.lt; clear HA; have HA := Lib.hid TT; clear TT
  have TT := HB.out.below hb HB.out.lt; clear HB; have HB := Lib.hid TT; clear TT
  have TT := HV.out.below hb HV.out.lt; clear HV; have HV := Lib.hid TT; clear TT
  have TT := HX.out.below hb HX.out.lt; clear HX; have HX := Lib.hid TT; clear TT
  have TT := HY.out.below hb HY.out.lt; clear HY; have HY := Lib.hid TT; clear TT
  have TT := HW1.out.below hb HW1.out.lt; clear HW1; have HW1 := Lib.hid TT; clear TT
  have TT := RA.out.below hb; clear RA; have RA := Lib.hid TT; clear TT
  have TT := RB.out.below hb; clear RB; have RB := Lib.hid TT; clear TT
  have TT := RX.out.below hb; clear RX; have RX := Lib.hid TT; clear TT
  have TT := RY.out.below hb; clear RY; have RY := Lib.hid TT; clear TT
  have TT := HBN.out.trans (hb.mono HBN.out.size); clear HBN; have HBN := Lib.hid TT; clear TT hb
  clear HGF
  have hb := (Below.refl u3.heap.size u3).alloc (Nat.le_refl _) (.cells #[.int .i64 gk, .int .i64 gc] 32)
  have TT := HA.out.below hb HA.out.lt; clear HA; have HA := Lib.hid TT; clear TT
  have TT := HB.out.below hb HB.out.lt; clear HB; have HB := Lib.hid TT; clear TT
  have TT := HV.out.below hb HV.out.lt; clear HV; have HV := Lib.hid TT; clear TT
  have TT := HX.out.below hb HX.out.lt; clear HX; have HX := Lib.hid TT; clear TT
  have TT := HY.out.below hb HY.out.lt; clear HY; have HY := Lib.hid TT; clear TT
  have TT := HW1.out.below hb HW1.out.lt; clear HW1; have HW1 := Lib.hid TT; clear TT
  have TT := RA.out.below hb; clear RA; have RA := Lib.hid TT; clear TT
  have TT := RB.out.below hb; clear RB; have RB := Lib.hid TT; clear TT
  have TT := RX.out.below hb; clear RX; have RX := Lib.hid TT; clear TT
  have TT := RY.out.below hb; clear RY; have RY := Lib.hid TT; clear TT
  have TT := HBN.out.trans (hb.mono HBN.out.size); clear HBN; have HBN := Lib.hid TT; clear TT hb
  have HG := Lib.hid (Box.new u3 (.int .i64 gk) (.int .i64 gc) 32)
  go_upto_region 8 with fail
  obtain ⟨bG, hbb⟩ : ∃ b, u3.heap.size = b := ⟨_, rfl⟩
  rw [hbb]
  rw [hbb] at HG
  clear hbb
  generalize u3.alloc (.cells #[.int .i64 gk, .int .i64 gc] 32) = Y3 at *
  obtain ⟨b, hb⟩ : ∃ b, leqF on1 l1 on2 l2 = b := ⟨_, rfl⟩
  obtain ⟨on, hon⟩ : ∃ b, (on1 || on2) = b := ⟨_, rfl⟩
  obtain ⟨lj, hlj⟩ : ∃ l, joinF on1 l1 on2 l2 = l := ⟨_, rfl⟩
  obtain ⟨nj, hnj⟩ : ∃ n, max (szG on1 l1) (szG on2 l2) = n := ⟨_, rfl⟩
  obtain ⟨ly, hly⟩ : ∃ l, setF on1 l1 i ⟨vk, vc⟩ = l := ⟨_, rfl⟩
  obtain ⟨ny, hny⟩ : ∃ n, szG on1 l1 = n := ⟨_, rfl⟩
  obtain ⟨m, hm⟩ : ∃ m, clG n 64 = m := ⟨_, rfl⟩
  obtain ⟨lf, hlf⟩ : ∃ l, tabG (fun _ => V.sn ⟨vk, vc⟩) m = l := ⟨_, rfl⟩
  have hz1 : szG on1 l1 ≤ 100 := by have := RA.out.2; unfold szG; split <;> omega
  have hz2 : szG on2 l2 ≤ 100 := by have := RB.out.2; unfold szG; split <;> omega
  have hnjl : nj ≤ 200 := by omega
  have hnyl : ny ≤ 200 := by omega
  have hml : m ≤ 200 := by have := clG_le n 64; omega
  have CR : Hid (∀ W, Below Y3.heap.size Y3 W → Calls Try.prog 12 #[.agg #[.bool on1, .slice a1 n1 cap1], .int .i64 i] W fun e w' => e = .returned (.agg #[.int .i64 gk, .int .i64 gc]) ∧ Below W.heap.size W w') := fun W h => (by have := rGetF_any on1 a1 n1 cap1 l1 i W (RA.out.below h); rw [hgv] at this; exact this)
  have CL : Hid (∀ W, Below Y3.heap.size Y3 W → Calls Try.prog 13 #[.agg #[.bool on1, .slice x1 n1 c1], .agg #[.bool on2, .slice x2 n2 c2]] W fun e w' => e = .returned (.bool b) ∧ Below W.heap.size W w') := fun W h => LeqF_any on1 x1 n1 c1 l1 on2 x2 n2 c2 l2 W (RX.out.below h) (RY.out.below h) hl1 b hb
  have CM : Hid (∀ W, Below Y3.heap.size Y3 W → Calls Try.prog 14 #[.agg #[.bool on1, .slice a1 n1 cap1], .agg #[.bool on2, .slice a2 n2 cap2]] W fun e w' => e = .returned (.bool b) ∧ Below W.heap.size W w') := fun W h => rLeqF_any on1 a1 n1 cap1 l1 on2 a2 n2 cap2 l2 W (RA.out.below h) (RB.out.below h) hl1 hl2 b hb
  have D1 : Hid (∀ W, Below Y3.heap.size Y3 W → Calls Try.prog 17 #[.agg #[.bool on1, .slice x1 n1 c1], .agg #[.bool on2, .slice x2 n2 c2]] W fun e w' => ∃ a cap, e = .returned (.agg #[.bool on, .slice a nj cap]) ∧ FE w' a nj lj ∧ Below W.heap.size W w') := fun W h => JoinF_any on1 x1 n1 c1 l1 on2 x2 n2 c2 l2 W (RX.out.below h) (RY.out.below h) hl1 hl2 on lj nj hon hlj hnj
  have D2 : Hid (∀ W, Below Y3.heap.size Y3 W → Calls Try.prog 18 #[.agg #[.bool on1, .slice a1 n1 cap1], .agg #[.bool on2, .slice a2 n2 cap2]] W fun e w' => ∃ a cap, e = .returned (.agg #[.bool on, .slice a nj cap]) ∧ FE w' a nj lj ∧ Below W.heap.size W w') := fun W h => rJoinF_any on1 a1 n1 cap1 l1 on2 a2 n2 cap2 l2 W (RA.out.below h) (RB.out.below h) hl1 hl2 on lj nj hon hlj hnj
  have D3 : Hid (∀ W, Below Y3.heap.size Y3 W → Calls Try.prog 19 #[.agg #[.bool on1, .slice x1 n1 c1], .int .i64 i, .agg #[.int .i64 vk, .int .i64 vc]] W fun e w' => ∃ a cap, e = .returned (.agg #[.bool on1, .slice a ny cap]) ∧ FE w' a ny ly ∧ Below W.heap.size W w') := fun W h => SetF_any on1 x1 n1 c1 l1 i vk vc W (RX.out.below h) hl1 ly ny hly hny
  have D4 : Hid (∀ W, Below Y3.heap.size Y3 W → Calls Try.prog 20 #[.agg #[.bool on1, .slice a1 n1 cap1], .int .i64 i, .agg #[.int .i64 vk, .int .i64 vc]] W fun e w' => ∃ a cap, e = .returned (.agg #[.bool on1, .slice a ny cap]) ∧ FE w' a ny ly ∧ Below W.heap.size W w') := fun W h => rSetF_any on1 a1 n1 cap1 l1 i vk vc W (RA.out.below h) hl1 ly ny hly hny
  have D5 : Hid (∀ W, Below Y3.heap.size Y3 W → Calls Try.prog 21 #[.int .i64 n, .agg #[.int .i64 vk, .int .i64 vc]] W fun e w' => ∃ a cap, e = .returned (.agg #[.bool true, .slice a m cap]) ∧ FE w' a m lf ∧ Below W.heap.size W w') := fun W h => FlatsE_any n ⟨vk, vc⟩ W m lf hm hlf
  have D6 : Hid (∀ W, Below Y3.heap.size Y3 W → Calls Try.prog 22 #[.int .i64 n, .agg #[.int .i64 vk, .int .i64 vc]] W fun e w' => ∃ a cap, e = .returned (.agg #[.bool true, .slice a m cap]) ∧ FE w' a m lf ∧ Below W.heap.size W w') := fun W h => rFlats_any n vk vc W m hm lf hlf
  have T1 : Hid (∀ W b cb, FE W b nj lj → Calls Try.prog 16 #[.agg #[.bool on, .slice b nj cb]] W fun e w' => ∃ a cap, e = .returned (.agg #[.bool on, .slice a nj cap]) ∧ FE w' a nj lj ∧ Below W.heap.size W w') := fun W b cb g => their_any on b nj cb lj W g hnjl
  have S1 : Hid (∀ W b cb d cd, FE W b nj lj → FE W d nj lj → Calls Try.prog 15 #[.agg #[.bool on, .slice b nj cb], .agg #[.bool on, .slice d nj cd]] W fun e w' => e = .returned (.bool true) ∧ Below W.heap.size W w') := fun W b cb d cd g g' => SameF_eq on b cb d cd nj lj W g g' hnjl
  have T2 : Hid (∀ W b cb, FE W b ny ly → Calls Try.prog 16 #[.agg #[.bool on1, .slice b ny cb]] W fun e w' => ∃ a cap, e = .returned (.agg #[.bool on1, .slice a ny cap]) ∧ FE w' a ny ly ∧ Below W.heap.size W w') := fun W b cb g => their_any on1 b ny cb ly W g hnyl
  have S2 : Hid (∀ W b cb d cd, FE W b ny ly → FE W d ny ly → Calls Try.prog 15 #[.agg #[.bool on1, .slice b ny cb], .agg #[.bool on1, .slice d ny cd]] W fun e w' => e = .returned (.bool true) ∧ Below W.heap.size W w') := fun W b cb d cd g g' => SameF_eq on1 b cb d cd ny ly W g g' hnyl
  have T3 : Hid (∀ W b cb, FE W b m lf → Calls Try.prog 16 #[.agg #[.bool true, .slice b m cb]] W fun e w' => ∃ a cap, e = .returned (.agg #[.bool true, .slice a m cap]) ∧ FE w' a m lf ∧ Below W.heap.size W w') := fun W b cb g => their_any true b m cb lf W g hml
  have S3 : Hid (∀ W b cb d cd, FE W b m lf → FE W d m lf → Calls Try.prog 15 #[.agg #[.bool true, .slice b m cb], .agg #[.bool true, .slice d m cd]] W fun e w' => e = .returned (.bool true) ∧ Below W.heap.size W w') := fun W b cb d cd g g' => SameF_eq true b cb d cd m lf W g g' hml
  obtain ⟨hh, hhh⟩ : ∃ h, clG n 1024 * clG i 1024 + 1 = h := ⟨_, rfl⟩
  have D7 : Hid (∀ W, Below Y3.heap.size Y3 W → Calls Try.prog 23 #[.int .i64 n, .int .i64 i] W fun e w' => e = .returned (.int .i64 (hh : Int)) ∧ Below W.heap.size W w') := fun W h => (by have := eHeight_any n i W; rw [hhh] at this; exact this)
  have D8 : Hid (∀ W, Below Y3.heap.size Y3 W → Calls Try.prog 24 #[.int .i64 n, .int .i64 i] W fun e w' => e = .returned (.int .i64 (hh : Int)) ∧ Below W.heap.size W w') := fun W h => (by have := rHeight4_any n i W; rw [hhh] at this; exact this)
  clear hgv hb hon hlj hnj hly hny hm hlf hz1 hz2 hnjl hnyl hml hl1 hl2 hm1 hm2 hhh RA RB RX RY
  go_cut [57] (fun sx wx => sx = .bool false ∧ Hid (Below Y3.heap.size Y3 wx))
  case first =>
    clear D1 D2 D3 D4 D5 D6 T1 T2 T3 S1 S2 S3 D7 D8
    cases b
    all_goals
      have kA0 := cell_regrown HA.out.c0
      have kA1 := cell_regrown HA.out.c1
      have kB0 := cell_regrown HB.out.c0
      have kB1 := cell_regrown HB.out.c1
      have kX0 := cell_regrown HX.out.c0
      have kX1 := cell_regrown HX.out.c1
      have kY0 := cell_regrown HY.out.c0
      have kY1 := cell_regrown HY.out.c1
      have kG0 := cell_regrown HG.out.c0
      have kG1 := cell_regrown HG.out.c1
      have q0 := fun d os => Calls.regrown_of (CR.out (grow (redrawn Y3 d) os) (below_regrown Y3 d os))
      have q1 := fun d os => Calls.regrown_of (CL.out (grow (redrawn Y3 d) os) (below_regrown Y3 d os))
      have q2 := fun d os => Calls.regrown_of (CM.out (grow (redrawn Y3 d) os) (below_regrown Y3 d os))
      refine wp_region_quiet_below (by kernel_rfl) (by kernel_rfl) ?_
      repeat (first | go_big_quiet_step (first | with_reducible exact q0 _ _ | with_reducible exact q1 _ _ | with_reducible exact q2 _ _) | quiet_step (first | with_reducible exact q0 _ _ | with_reducible exact q1 _ _ | with_reducible exact q2 _ _))
      refine wpQuiet_nil ?_
      intro _ hw'
      obtain ⟨⟨dq, osq⟩, hw''⟩ := hw'
      subst hw''
      go_wp2_with fail
      go_meet
      exact ⟨rfl, below_regrown Y3 dq osq⟩
  case rest =>
    obtain ⟨rfl, hBq⟩ := hcut
    clear CR CL CM
    have hS : Hid (∀ w', Below Y3.heap.size Y3 w' → w'.cell? ⟨w.heap.size, 0, none⟩ = some (.bool on1) ∧ w'.cell? ⟨w.heap.size, 1, none⟩ = some (.slice a1 n1 cap1) ∧ w'.cell? ⟨w.heap.size + 1, 0, none⟩ = some (.bool on2) ∧ w'.cell? ⟨w.heap.size + 1, 1, none⟩ = some (.slice a2 n2 cap2) ∧ w'.cell? ⟨bX, 0, none⟩ = some (.bool on1) ∧ w'.cell? ⟨bX, 1, none⟩ = some (.slice x1 n1 c1) ∧ w'.cell? ⟨bY, 0, none⟩ = some (.bool on2) ∧ w'.cell? ⟨bY, 1, none⟩ = some (.slice x2 n2 c2) ∧ w'.cell? ⟨w.heap.size + 1 + 1, 0, none⟩ = some (.int .i64 vk) ∧ w'.cell? ⟨w.heap.size + 1 + 1, 1, none⟩ = some (.int .i64 vc) ∧ w'.cell? ⟨bW1, 0, none⟩ = some (.int .i64 vk) ∧ w'.cell? ⟨bW1, 1, none⟩ = some (.int .i64 vc)) := fun W h =>
      ⟨(h.cell (p := ⟨w.heap.size, 0, none⟩) HA.out.lt).trans HA.out.c0, (h.cell (p := ⟨w.heap.size, 1, none⟩) HA.out.lt).trans HA.out.c1, (h.cell (p := ⟨w.heap.size + 1, 0, none⟩) HB.out.lt).trans HB.out.c0, (h.cell (p := ⟨w.heap.size + 1, 1, none⟩) HB.out.lt).trans HB.out.c1, (h.cell (p := ⟨bX, 0, none⟩) HX.out.lt).trans HX.out.c0, (h.cell (p := ⟨bX, 1, none⟩) HX.out.lt).trans HX.out.c1, (h.cell (p := ⟨bY, 0, none⟩) HY.out.lt).trans HY.out.c0, (h.cell (p := ⟨bY, 1, none⟩) HY.out.lt).trans HY.out.c1, (h.cell (p := ⟨w.heap.size + 1 + 1, 0, none⟩) HV.out.lt).trans HV.out.c0, (h.cell (p := ⟨w.heap.size + 1 + 1, 1, none⟩) HV.out.lt).trans HV.out.c1, (h.cell (p := ⟨bW1, 0, none⟩) HW1.out.lt).trans HW1.out.c0, (h.cell (p := ⟨bW1, 1, none⟩) HW1.out.lt).trans HW1.out.c1⟩
    have HW0 := HBN
    clear HBN
    have HBN := hBq
    clear hBq HA HB HX HY HV HW1 HG
    go_wp2_with fail
    have TT := HBN.out.drew
    clear HBN
    have HBN := Lib.hid TT
    clear TT
    have tok1 : True := trivial
    have tok2 : True := trivial
    have tok3 : True := trivial
    have tok4 : True := trivial
    have tok5 : True := trivial
    have tok6 : True := trivial
    have tok7 : True := trivial
    have tok8 : True := trivial
    have tok9 : True := trivial
    have tok10 : True := trivial
    have tok11 : True := trivial
    have tok12 : True := trivial
    have tok13 : True := trivial
    have tok14 : True := trivial
    go_region_held3 (fun w' => w'.cell? ⟨w.heap.size, 0, none⟩ = some (.bool on1) ∧ w'.cell? ⟨w.heap.size, 1, none⟩ = some (.slice a1 n1 cap1) ∧ w'.cell? ⟨w.heap.size + 1, 0, none⟩ = some (.bool on2) ∧ w'.cell? ⟨w.heap.size + 1, 1, none⟩ = some (.slice a2 n2 cap2) ∧ w'.cell? ⟨bX, 0, none⟩ = some (.bool on1) ∧ w'.cell? ⟨bX, 1, none⟩ = some (.slice x1 n1 c1) ∧ w'.cell? ⟨bY, 0, none⟩ = some (.bool on2) ∧ w'.cell? ⟨bY, 1, none⟩ = some (.slice x2 n2 c2) ∧ w'.cell? ⟨w.heap.size + 1 + 1, 0, none⟩ = some (.int .i64 vk) ∧ w'.cell? ⟨w.heap.size + 1 + 1, 1, none⟩ = some (.int .i64 vc) ∧ w'.cell? ⟨bW1, 0, none⟩ = some (.int .i64 vk) ∧ w'.cell? ⟨bW1, 1, none⟩ = some (.int .i64 vc))
      (first | exact hS.out _ HBN.out)
      (first
        | (have _t := tok1; go_at_call 17; refine (D1.out _ HBN.out).mono ?_; clear _t tok1; rintro e wn ⟨a_p1, c_p1, rfl, hF, hbn⟩; have hbx := HBN.out.trans (hbn.mono HBN.out.size); clear HBN hbn; have HBN := Lib.hid hbx; clear hbx; have Hp1 := Lib.hid hF; clear hF)
        | (have _t := tok2; go_at_call 16; refine (T1.out _ _ _ Hp1.out).mono ?_; clear _t tok2; rintro e wn ⟨a_q1, c_q1, rfl, hF, hbn⟩; have hbx := HBN.out.trans (hbn.mono HBN.out.size); clear HBN hbn; have HBN := Lib.hid hbx; clear hbx; have Hq1 := Lib.hid hF; clear hF)
        | (have _t := tok3; go_at_call 18; refine (D2.out _ HBN.out).mono ?_; clear _t tok3; rintro e wn ⟨a_r1, c_r1, rfl, hF, hbn⟩; have hFq1 := Hq1.out.below hbn; clear Hq1; have Hq1 := Lib.hid hFq1; clear hFq1; have hbx := HBN.out.trans (hbn.mono HBN.out.size); clear HBN hbn; have HBN := Lib.hid hbx; clear hbx; have Hr1 := Lib.hid hF; clear hF)
        | (have _t := tok4; go_at_call 15; refine (S1.out _ _ _ _ _ Hq1.out Hr1.out).mono ?_; clear _t tok4; rintro e wn ⟨rfl, hbn⟩; have hbx := HBN.out.trans (hbn.mono HBN.out.size); clear HBN hbn; have HBN := Lib.hid hbx; clear hbx)
        | (have _t := tok5; go_at_call 19; refine (D3.out _ HBN.out).mono ?_; clear _t tok5; rintro e wn ⟨a_p2, c_p2, rfl, hF, hbn⟩; have hbx := HBN.out.trans (hbn.mono HBN.out.size); clear HBN hbn; have HBN := Lib.hid hbx; clear hbx; have Hp2 := Lib.hid hF; clear hF)
        | (have _t := tok6; go_at_call 16; refine (T2.out _ _ _ Hp2.out).mono ?_; clear _t tok6; rintro e wn ⟨a_q2, c_q2, rfl, hF, hbn⟩; have hbx := HBN.out.trans (hbn.mono HBN.out.size); clear HBN hbn; have HBN := Lib.hid hbx; clear hbx; have Hq2 := Lib.hid hF; clear hF)
        | (have _t := tok7; go_at_call 20; refine (D4.out _ HBN.out).mono ?_; clear _t tok7; rintro e wn ⟨a_r2, c_r2, rfl, hF, hbn⟩; have hFq2 := Hq2.out.below hbn; clear Hq2; have Hq2 := Lib.hid hFq2; clear hFq2; have hbx := HBN.out.trans (hbn.mono HBN.out.size); clear HBN hbn; have HBN := Lib.hid hbx; clear hbx; have Hr2 := Lib.hid hF; clear hF)
        | (have _t := tok8; go_at_call 15; refine (S2.out _ _ _ _ _ Hq2.out Hr2.out).mono ?_; clear _t tok8; rintro e wn ⟨rfl, hbn⟩; have hbx := HBN.out.trans (hbn.mono HBN.out.size); clear HBN hbn; have HBN := Lib.hid hbx; clear hbx)
        | (have _t := tok9; go_at_call 21; refine (D5.out _ HBN.out).mono ?_; clear _t tok9; rintro e wn ⟨a_p3, c_p3, rfl, hF, hbn⟩; have hbx := HBN.out.trans (hbn.mono HBN.out.size); clear HBN hbn; have HBN := Lib.hid hbx; clear hbx; have Hp3 := Lib.hid hF; clear hF)
        | (have _t := tok10; go_at_call 16; refine (T3.out _ _ _ Hp3.out).mono ?_; clear _t tok10; rintro e wn ⟨a_q3, c_q3, rfl, hF, hbn⟩; have hbx := HBN.out.trans (hbn.mono HBN.out.size); clear HBN hbn; have HBN := Lib.hid hbx; clear hbx; have Hq3 := Lib.hid hF; clear hF)
        | (have _t := tok11; go_at_call 22; refine (D6.out _ HBN.out).mono ?_; clear _t tok11; rintro e wn ⟨a_r3, c_r3, rfl, hF, hbn⟩; have hFq3 := Hq3.out.below hbn; clear Hq3; have Hq3 := Lib.hid hFq3; clear hFq3; have hbx := HBN.out.trans (hbn.mono HBN.out.size); clear HBN hbn; have HBN := Lib.hid hbx; clear hbx; have Hr3 := Lib.hid hF; clear hF)
        | (have _t := tok12; go_at_call 15; refine (S3.out _ _ _ _ _ Hq3.out Hr3.out).mono ?_; clear _t tok12; rintro e wn ⟨rfl, hbn⟩; have hbx := HBN.out.trans (hbn.mono HBN.out.size); clear HBN hbn; have HBN := Lib.hid hbx; clear hbx)
        | (have _t := tok13; go_at_call 23; refine (D7.out _ HBN.out).mono ?_; clear _t tok13; rintro e wn ⟨rfl, hbn⟩; have hbx := HBN.out.trans (hbn.mono HBN.out.size); clear HBN hbn; have HBN := Lib.hid hbx; clear hbx)
        | (have _t := tok14; go_at_call 24; refine (D8.out _ HBN.out).mono ?_; clear _t tok14; rintro e wn ⟨rfl, hbn⟩; have hbx := HBN.out.trans (hbn.mono HBN.out.size); clear HBN hbn; have HBN := Lib.hid hbx; clear hbx))
    all_goals
      go_wp2_with fail
      go_ret
      exact ⟨rfl, HW0.out.trans (HBN.out.mono HW0.out.size)⟩
end Go.Proofs.Ytcmncclibhjepaa
