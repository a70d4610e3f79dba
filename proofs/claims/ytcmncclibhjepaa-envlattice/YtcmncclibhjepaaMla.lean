import Derived.Test.YtcmncclibhjepaaEnvI
import Derived.Test.YtcmncclibhjepaaEnvO
namespace Go.Proofs.Ytcmncclibhjepaa
open Go Go.RowKit Go.Sort

set_option maxRecDepth 100000 in
set_option maxHeartbeats 16000000 in
theorem lattice4_law (on1 : Bool) (a1 : Option Addr) (n1 cap1 : Nat) (l1 : List V) (on2 : Bool) (a2 : Option Addr) (n2 cap2 : Nat) (l2 : List V) (on3 : Bool) (a3 : Option Addr) (n3 cap3 : Nat) (l3 : List V) (w : World) (hA : FE w a1 n1 l1) (hB : FE w a2 n2 l2) (hC : FE w a3 n3 l3) :
    Calls Try.prog 5 #[.agg #[.bool on1, .slice a1 n1 cap1], .agg #[.bool on2, .slice a2 n2 cap2], .agg #[.bool on3, .slice a3 n3 cap3]] w fun e w' => e = .returned (.bool true) ∧ Below w.heap.size w w' := by
  have BA := (((Box.new w (.bool on1) (.slice a1 n1 cap1) 24).alloc (.cells #[.bool on2, .slice a2 n2 cap2] 24)).alloc (.cells #[.bool on3, .slice a3 n3 cap3] 24))
  have BB := ((Box.new (w.alloc (.cells #[.bool on1, .slice a1 n1 cap1] 24)) (.bool on2) (.slice a2 n2 cap2) 24).alloc (.cells #[.bool on3, .slice a3 n3 cap3] 24))
  have BC := (Box.new ((w.alloc (.cells #[.bool on1, .slice a1 n1 cap1] 24)).alloc (.cells #[.bool on2, .slice a2 n2 cap2] 24)) (.bool on3) (.slice a3 n3 cap3) 24)
  have hW := below3 w (.cells #[.bool on1, .slice a1 n1 cap1] 24) (.cells #[.bool on2, .slice a2 n2 cap2] 24) (.cells #[.bool on3, .slice a3 n3 cap3] 24)
  simp only [World.size_alloc] at BB BC
  have RA := Lib.hid (hA.below hW)
  have RB := Lib.hid (hB.below hW)
  have RC := Lib.hid (hC.below hW)
  generalize hE : (((w.alloc (.cells #[.bool on1, .slice a1 n1 cap1] 24)).alloc (.cells #[.bool on2, .slice a2 n2 cap2] 24)).alloc (.cells #[.bool on3, .slice a3 n3 cap3] 24)) = W0 at *
  have HA := Lib.hid BA
  have HB := Lib.hid BB
  have HC := Lib.hid BC
  have HBN := Lib.hid hW
  clear hW BA BB BC hA hB hC
  go_enter Try.func5, Try.ntmps5
  go_wp2_with fail
  clear hE
  refine (awake4_any _).mono ?_
  rintro e w1 ⟨rfl, hb⟩
  have TT := HA.out.below hb HA.out.lt; clear HA; have HA := Lib.hid TT; clear TT
  have TT := HB.out.below hb HB.out.lt; clear HB; have HB := Lib.hid TT; clear TT
  have TT := HC.out.below hb HC.out.lt; clear HC; have HC := Lib.hid TT; clear TT
  have TT := RA.out.below hb; clear RA; have RA := Lib.hid TT; clear TT
  have TT := RB.out.below hb; clear RB; have RB := Lib.hid TT; clear TT
  have TT := RC.out.below hb; clear RC; have RC := Lib.hid TT; clear TT
  have TT := HBN.out.trans (hb.mono HBN.out.size); clear HBN; have HBN := Lib.hid TT; clear TT hb
  by_cases hlen : n1 ≤ 100 ∧ n2 ≤ 100 ∧ n3 ≤ 100
  rotate_left
  · have hor : 100 < n1 ∨ (n1 ≤ 100 ∧ 100 < n2) ∨ (n1 ≤ 100 ∧ n2 ≤ 100 ∧ 100 < n3) := by omega
    obtain ⟨cA0, cA1, -, -⟩ := id HA.out
    obtain ⟨cB0, cB1, -, -⟩ := id HB.out
    obtain ⟨cC0, cC1, -, -⟩ := id HC.out
    clear hlen
    rcases hor with h | ⟨h, h'⟩ | ⟨h, h', h''⟩
    · have e1 : (100 : Int) < (n1 : Int) := by omega
      go_wp2_with fail
      go_ret
      exact ⟨rfl, HBN.out⟩
    · have e1 : (n1 : Int) ≤ 100 := by omega
      have e2 : (100 : Int) < (n2 : Int) := by omega
      go_wp2_with fail
      go_ret
      exact ⟨rfl, HBN.out⟩
    · have e1 : (n1 : Int) ≤ 100 := by omega
      have e2 : (n2 : Int) ≤ 100 := by omega
      have e3 : (100 : Int) < (n3 : Int) := by omega
      go_wp2_with fail
      go_ret
      exact ⟨rfl, HBN.out⟩
  obtain ⟨hm1, hm2, hm3⟩ := hlen
  have e1 : (n1 : Int) ≤ 100 := by omega
  have e2 : (n2 : Int) ≤ 100 := by omega
  have e3 : (n3 : Int) ≤ 100 := by omega
  have hl1 : n1 ≤ 200 := by omega
  have hl2 : n2 ≤ 200 := by omega
  have hl3 : n3 ≤ 200 := by omega
  obtain ⟨cA0, cA1, -, -⟩ := id HA.out
  obtain ⟨cB0, cB1, -, -⟩ := id HB.out
  obtain ⟨cC0, cC1, -, -⟩ := id HC.out
  go_wp2_with fail
  clear cA0 cA1 cB0 cB1 cC0 cC1
  clear e1 e2 e3
  refine (our_any on1 a1 n1 cap1 l1 _ RA.out hl1).mono ?_
  rintro e u1 ⟨x1, c1, rfl, hF, hb⟩
  have TT := HA.out.below hb HA.out.lt; clear HA; have HA := Lib.hid TT; clear TT
  have TT := HB.out.below hb HB.out.lt; clear HB; have HB := Lib.hid TT; clear TT
  have TT := HC.out.below hb HC.out.lt; clear HC; have HC := Lib.hid TT; clear TT
  have TT := RA.out.below hb; clear RA; have RA := Lib.hid TT; clear TT
  have TT := RB.out.below hb; clear RB; have RB := Lib.hid TT; clear TT
  have TT := RC.out.below hb; clear RC; have RC := Lib.hid TT; clear TT
  have TT := HBN.out.trans (hb.mono HBN.out.size); clear HBN; have HBN := Lib.hid TT; clear TT hb
  have RX := Lib.hid hF; clear hF
  have hb := (Below.refl u1.heap.size u1).alloc (Nat.le_refl _) (.cells #[.bool on1, .slice x1 n1 c1] 30)
  have TT := HA.out.below hb HA.out.lt; clear HA; have HA := Lib.hid TT; clear TT
  have TT := HB.out.below hb HB.out.lt; clear HB; have HB := Lib.hid TT; clear TT
  have TT := HC.out.below hb HC.out.lt; clear HC; have HC := Lib.hid TT; clear TT
  have TT := RA.out.below hb; clear RA; have RA := Lib.hid TT; clear TT
  have TT := RB.out.below hb; clear RB; have RB := Lib.hid TT; clear TT
  have TT := RC.out.below hb; clear RC; have RC := Lib.hid TT; clear TT
  have TT := RX.out.below hb; clear RX; have RX := Lib.hid TT; clear TT
  have TT := HBN.out.trans (hb.mono HBN.out.size); clear HBN; have HBN := Lib.hid TT; clear TT hb
  have HX := Lib.hid (Box.new u1 (.bool on1) (.slice x1 n1 c1) 30)
  obtain ⟨cB0, cB1, -, -⟩ := id HB.out
  go_wp2_with fail
  clear cB0 cB1
  obtain ⟨bX, hbb⟩ : ∃ b, u1.heap.size = b := ⟨_, rfl⟩
  rw [hbb]
  rw [hbb] at HX
  clear hbb
  generalize u1.alloc (.cells #[.bool on1, .slice x1 n1 c1] 30) = Y1 at *
  refine (our_any on2 a2 n2 cap2 l2 _ RB.out hl2).mono ?_
  rintro e u2 ⟨x2, c2, rfl, hF, hb⟩
  have TT := HA.out.below hb HA.out.lt; clear HA; have HA := Lib.hid TT; clear TT
  have TT := HB.out.below hb HB.out.lt; clear HB; have HB := Lib.hid TT; clear TT
  have TT := HC.out.below hb HC.out.lt; clear HC; have HC := Lib.hid TT; clear TT
  have TT := HX.out.below hb HX.out.lt; clear HX; have HX := Lib.hid TT; clear TT
  have TT := RA.out.below hb; clear RA; have RA := Lib.hid TT; clear TT
  have TT := RB.out.below hb; clear RB; have RB := Lib.hid TT; clear TT
  have TT := RC.out.below hb; clear RC; have RC := Lib.hid TT; clear TT
  have TT := RX.out.below hb; clear RX; have RX := Lib.hid TT; clear TT
  have TT := HBN.out.trans (hb.mono HBN.out.size); clear HBN; have HBN := Lib.hid TT; clear TT hb
  have RY := Lib.hid hF; clear hF
  have hb := (Below.refl u2.heap.size u2).alloc (Nat.le_refl _) (.cells #[.bool on2, .slice x2 n2 c2] 30)
  have TT := HA.out.below hb HA.out.lt; clear HA; have HA := Lib.hid TT; clear TT
  have TT := HB.out.below hb HB.out.lt; clear HB; have HB := Lib.hid TT; clear TT
  have TT := HC.out.below hb HC.out.lt; clear HC; have HC := Lib.hid TT; clear TT
  have TT := HX.out.below hb HX.out.lt; clear HX; have HX := Lib.hid TT; clear TT
  have TT := RA.out.below hb; clear RA; have RA := Lib.hid TT; clear TT
  have TT := RB.out.below hb; clear RB; have RB := Lib.hid TT; clear TT
  have TT := RC.out.below hb; clear RC; have RC := Lib.hid TT; clear TT
  have TT := RX.out.below hb; clear RX; have RX := Lib.hid TT; clear TT
  have TT := RY.out.below hb; clear RY; have RY := Lib.hid TT; clear TT
  have TT := HBN.out.trans (hb.mono HBN.out.size); clear HBN; have HBN := Lib.hid TT; clear TT hb
  have HY := Lib.hid (Box.new u2 (.bool on2) (.slice x2 n2 c2) 30)
  obtain ⟨cC0, cC1, -, -⟩ := id HC.out
  go_wp2_with fail
  clear cC0 cC1
  obtain ⟨bY, hbb⟩ : ∃ b, u2.heap.size = b := ⟨_, rfl⟩
  rw [hbb]
  rw [hbb] at HY
  clear hbb
  generalize u2.alloc (.cells #[.bool on2, .slice x2 n2 c2] 30) = Y2 at *
  refine (our_any on3 a3 n3 cap3 l3 _ RC.out hl3).mono ?_
  rintro e u3 ⟨x3, c3, rfl, hF, hb⟩
  have TT := HA.out.below hb HA.out.lt; clear HA; have HA := Lib.hid TT; clear TT
  have TT := HB.out.below hb HB.out.lt; clear HB; have HB := Lib.hid TT; clear TT
  have TT := HC.out.below hb HC.out.lt; clear HC; have HC := Lib.hid TT; clear TT
  have TT := HX.out.below hb HX.out.lt; clear HX; have HX := Lib.hid TT; clear TT
  have TT := HY.out.below hb HY.out.lt; clear HY; have HY := Lib.hid TT; clear TT
  have TT := RA.out.below hb; clear RA; have RA := Lib.hid TT; clear TT
  have TT := RB.out.below hb; clear RB; have RB := Lib.hid TT; clear TT
  have TT := RC.out.below hb; clear RC; have RC := Lib.hid TT; clear TT
  have TT := RX.out.below hb; clear RX; have RX := Lib.hid TT; clear TT
  have TT := RY.out.below hb; clear RY; have RY := Lib.hid TT; clear TT
  have TT := HBN.out.trans (hb.mono HBN.out.size); clear HBN; have HBN := Lib.hid TT; clear TT hb
  have RZ := Lib.hid hF; clear hF
  have hb := (Below.refl u3.heap.size u3).alloc (Nat.le_refl _) (.cells #[.bool on3, .slice x3 n3 c3] 30)
  have TT := HA.out.below hb HA.out.lt; clear HA; have HA := Lib.hid TT; clear TT
  have TT := HB.out.below hb HB.out.lt; clear HB; have HB := Lib.hid TT; clear TT
  have TT := HC.out.below hb HC.out.lt; clear HC; have HC := Lib.hid TT; clear TT
  have TT := HX.out.below hb HX.out.lt; clear HX; have HX := Lib.hid TT; clear TT
  have TT := HY.out.below hb HY.out.lt; clear HY; have HY := Lib.hid TT; clear TT
  have TT := RA.out.below hb; clear RA; have RA := Lib.hid TT; clear TT
  have TT := RB.out.below hb; clear RB; have RB := Lib.hid TT; clear TT
  have TT := RC.out.below hb; clear RC; have RC := Lib.hid TT; clear TT
  have TT := RX.out.below hb; clear RX; have RX := Lib.hid TT; clear TT
  have TT := RY.out.below hb; clear RY; have RY := Lib.hid TT; clear TT
  have TT := RZ.out.below hb; clear RZ; have RZ := Lib.hid TT; clear TT
  have TT := HBN.out.trans (hb.mono HBN.out.size); clear HBN; have HBN := Lib.hid TT; clear TT hb
  have HZ := Lib.hid (Box.new u3 (.bool on3) (.slice x3 n3 c3) 30)
  obtain ⟨cX0, cX1, -, -⟩ := id HX.out
  obtain ⟨cY0, cY1, -, -⟩ := id HY.out
  go_wp2_with fail
  clear cX0 cX1 cY0 cY1
  obtain ⟨bZ, hbb⟩ : ∃ b, u3.heap.size = b := ⟨_, rfl⟩
  rw [hbb]
  rw [hbb] at HZ
  clear hbb
  generalize u3.alloc (.cells #[.bool on3, .slice x3 n3 c3] 30) = Y3 at *
  obtain ⟨on, hon⟩ : ∃ b, (on1 || on2) = b := ⟨_, rfl⟩
  obtain ⟨lj, hlj⟩ : ∃ l, joinF on1 l1 on2 l2 = l := ⟨_, rfl⟩
  obtain ⟨nj, hnj⟩ : ∃ n, max (szG on1 l1) (szG on2 l2) = n := ⟨_, rfl⟩
  have hz1 : szG on1 l1 ≤ 100 := by have := RA.out.2; unfold szG; split <;> omega
  have hz2 : szG on2 l2 ≤ 100 := by have := RB.out.2; unfold szG; split <;> omega
  have hz3 : szG on3 l3 ≤ 100 := by have := RC.out.2; unfold szG; split <;> omega
  have hnj2 : nj ≤ 100 := by omega
  refine (JoinF_any on1 x1 n1 c1 l1 on2 x2 n2 c2 l2 _ RX.out RY.out hl1 hl2 on lj nj hon hlj hnj).mono ?_
  rintro e u4 ⟨aj, capj, rfl, hF, hb⟩
  have TT := HA.out.below hb HA.out.lt; clear HA; have HA := Lib.hid TT; clear TT
  have TT := HB.out.below hb HB.out.lt; clear HB; have HB := Lib.hid TT; clear TT
  have TT := HC.out.below hb HC.out.lt; clear HC; have HC := Lib.hid TT; clear TT
  have TT := HX.out.below hb HX.out.lt; clear HX; have HX := Lib.hid TT; clear TT
  have TT := HY.out.below hb HY.out.lt; clear HY; have HY := Lib.hid TT; clear TT
  have TT := HZ.out.below hb HZ.out.lt; clear HZ; have HZ := Lib.hid TT; clear TT
  have TT := RA.out.below hb; clear RA; have RA := Lib.hid TT; clear TT
  have TT := RB.out.below hb; clear RB; have RB := Lib.hid TT; clear TT
  have TT := RC.out.below hb; clear RC; have RC := Lib.hid TT; clear TT
  have TT := RX.out.below hb; clear RX; have RX := Lib.hid TT; clear TT
  have TT := RY.out.below hb; clear RY; have RY := Lib.hid TT; clear TT
  have TT := RZ.out.below hb; clear RZ; have RZ := Lib.hid TT; clear TT
  have TT := HBN.out.trans (hb.mono HBN.out.size); clear HBN; have HBN := Lib.hid TT; clear TT hb
  have RJ := Lib.hid hF; clear hF
  have hb := (Below.refl u4.heap.size u4).alloc (Nat.le_refl _) (.cells #[.bool on, .slice aj nj capj] 30)
  have TT := HA.out.below hb HA.out.lt; clear HA; have HA := Lib.hid TT; clear TT
  have TT := HB.out.below hb HB.out.lt; clear HB; have HB := Lib.hid TT; clear TT
  have TT := HC.out.below hb HC.out.lt; clear HC; have HC := Lib.hid TT; clear TT
  have TT := HX.out.below hb HX.out.lt; clear HX; have HX := Lib.hid TT; clear TT
  have TT := HY.out.below hb HY.out.lt; clear HY; have HY := Lib.hid TT; clear TT
  have TT := HZ.out.below hb HZ.out.lt; clear HZ; have HZ := Lib.hid TT; clear TT
  have TT := RA.out.below hb; clear RA; have RA := Lib.hid TT; clear TT
  have TT := RB.out.below hb; clear RB; have RB := Lib.hid TT; clear TT
  have TT := RC.out.below hb; clear RC; have RC := Lib.hid TT; clear TT
  have TT := RX.out.below hb; clear RX; have RX := Lib.hid TT; clear TT
  have TT := RY.out.below hb; clear RY; have RY := Lib.hid TT; clear TT
  have TT := RZ.out.below hb; clear RZ; have RZ := Lib.hid TT; clear TT
  have TT := RJ.out.below hb; clear RJ; have RJ := Lib.hid TT; clear TT
  have TT := HBN.out.trans (hb.mono HBN.out.size); clear HBN; have HBN := Lib.hid TT; clear TT hb
  have HJ := Lib.hid (Box.new u4 (.bool on) (.slice aj nj capj) 30)
  go_upto_region 8 with fail
  obtain ⟨bJ, hbb⟩ : ∃ b, u4.heap.size = b := ⟨_, rfl⟩
  rw [hbb]
  rw [hbb] at HJ
  clear hbb
  generalize u4.alloc (.cells #[.bool on, .slice aj nj capj] 30) = Y4 at *
  have hnjl : nj ≤ 200 := by omega
  obtain ⟨lxy, hlxy⟩ : ∃ b, leqF on1 l1 on2 l2 = b := ⟨_, rfl⟩
  obtain ⟨lyz, hlyz⟩ : ∃ b, leqF on2 l2 on3 l3 = b := ⟨_, rfl⟩
  obtain ⟨lxz, hlxz⟩ : ∃ b, leqF on1 l1 on3 l3 = b := ⟨_, rfl⟩
  obtain ⟨ljz, hljz⟩ : ∃ b, leqF on lj on3 l3 = b := ⟨_, rfl⟩
  have htr : lxy = true → lyz = true → lxz = true := fun p q => by rw [← hlxy] at p; rw [← hlyz] at q; rw [← hlxz]; exact leqF_trans p q
  have hlub : ljz = (lxz && lyz) := by
    have := leqF_join on1 l1 on2 l2 on3 l3
    rw [hon, hlj] at this
    rw [← hljz, ← hlxz, ← hlyz]; exact this
  have Clxy : Hid (∀ W, Below Y4.heap.size Y4 W → Calls Try.prog 13 #[.agg #[.bool on1, .slice x1 n1 c1], .agg #[.bool on2, .slice x2 n2 c2]] W fun e w' => e = .returned (.bool lxy) ∧ Below W.heap.size W w') := fun W h => LeqF_any on1 x1 n1 c1 l1 on2 x2 n2 c2 l2 W (RX.out.below h) (RY.out.below h) hl1 lxy hlxy
  have Clyz : Hid (∀ W, Below Y4.heap.size Y4 W → Calls Try.prog 13 #[.agg #[.bool on2, .slice x2 n2 c2], .agg #[.bool on3, .slice x3 n3 c3]] W fun e w' => e = .returned (.bool lyz) ∧ Below W.heap.size W w') := fun W h => LeqF_any on2 x2 n2 c2 l2 on3 x3 n3 c3 l3 W (RY.out.below h) (RZ.out.below h) hl2 lyz hlyz
  have Clxz : Hid (∀ W, Below Y4.heap.size Y4 W → Calls Try.prog 13 #[.agg #[.bool on1, .slice x1 n1 c1], .agg #[.bool on3, .slice x3 n3 c3]] W fun e w' => e = .returned (.bool lxz) ∧ Below W.heap.size W w') := fun W h => LeqF_any on1 x1 n1 c1 l1 on3 x3 n3 c3 l3 W (RX.out.below h) (RZ.out.below h) hl1 lxz hlxz
  have Cljz : Hid (∀ W, Below Y4.heap.size Y4 W → Calls Try.prog 13 #[.agg #[.bool on, .slice aj nj capj], .agg #[.bool on3, .slice x3 n3 c3]] W fun e w' => e = .returned (.bool ljz) ∧ Below W.heap.size W w') := fun W h => LeqF_any on aj nj capj lj on3 x3 n3 c3 l3 W (RJ.out.below h) (RZ.out.below h) hnjl ljz hljz
  have C1 : Hid (∀ W, Below Y4.heap.size Y4 W → Calls Try.prog 13 #[.agg #[.bool on1, .slice x1 n1 c1], .agg #[.bool on1, .slice x1 n1 c1]] W fun e w' => e = .returned (.bool true) ∧ Below W.heap.size W w') := fun W h => LeqF_any on1 x1 n1 c1 l1 on1 x1 n1 c1 l1 W (RX.out.below h) (RX.out.below h) hl1 true (leqF_refl on1 l1)
  have C2 : Hid (∀ W, Below Y4.heap.size Y4 W → Calls Try.prog 13 #[.agg #[.bool on1, .slice x1 n1 c1], .agg #[.bool on, .slice aj nj capj]] W fun e w' => e = .returned (.bool true) ∧ Below W.heap.size W w') := fun W h => LeqF_any on1 x1 n1 c1 l1 on aj nj capj lj W (RX.out.below h) (RJ.out.below h) hl1 true (leqF_left on1 l1 on2 l2 on lj hon hlj)
  have C3 : Hid (∀ W, Below Y4.heap.size Y4 W → Calls Try.prog 13 #[.agg #[.bool on2, .slice x2 n2 c2], .agg #[.bool on, .slice aj nj capj]] W fun e w' => e = .returned (.bool true) ∧ Below W.heap.size W w') := fun W h => LeqF_any on2 x2 n2 c2 l2 on aj nj capj lj W (RY.out.below h) (RJ.out.below h) hl2 true (leqF_right on1 l1 on2 l2 on lj hon hlj)
  have C14 : Hid (∀ W, Below Y4.heap.size Y4 W → Calls Try.prog 13 #[.agg #[.bool false, .slice none 0 0], .agg #[.bool on1, .slice x1 n1 c1]] W fun e w' => e = .returned (.bool true) ∧ Below W.heap.size W w') := fun W h => LeqF_any false none 0 0 [] on1 x1 n1 c1 l1 W (FE.nil _ _) (RX.out.below h) (Nat.zero_le _) true (leqF_none on1 l1)
  have hc1 : joinF on2 l2 on1 l1 = lj := by rw [joinF_comm]; exact hlj
  have hc2 : (on2 || on1) = on := by rw [Bool.or_comm]; exact hon
  have hc3 : max (szG on2 l2) (szG on1 l1) = nj := by rw [Nat.max_comm]; exact hnj
  obtain ⟨on4, hon4⟩ : ∃ b, (on || on3) = b := ⟨_, rfl⟩
  obtain ⟨l4, hl4⟩ : ∃ l, joinF on lj on3 l3 = l := ⟨_, rfl⟩
  obtain ⟨n4, hn4⟩ : ∃ n, max (szG on lj) (szG on3 l3) = n := ⟨_, rfl⟩
  obtain ⟨on5, hon5⟩ : ∃ b, (on2 || on3) = b := ⟨_, rfl⟩
  obtain ⟨l5, hl5⟩ : ∃ l, joinF on2 l2 on3 l3 = l := ⟨_, rfl⟩
  obtain ⟨n5, hn5⟩ : ∃ n, max (szG on2 l2) (szG on3 l3) = n := ⟨_, rfl⟩
  have hsj : szG on lj = nj := by rw [← hon, ← hlj, joinF_sz]; exact hnj
  have hs5 : szG on5 l5 = n5 := by rw [← hon5, ← hl5, joinF_sz]; exact hn5
  have hd1 : (on1 || on5) = on4 := by rw [← hon4, ← hon5, ← hon, Bool.or_assoc]
  have hd2 : joinF on1 l1 on5 l5 = l4 := by rw [← hon5, ← hl5, joinF_assoc, hon, hlj]; exact hl4
  have hd3 : max (szG on1 l1) (szG on5 l5) = n4 := by rw [hs5, ← hn4, hsj, ← hn5, ← hnj, Nat.max_assoc]
  have hn4l : n4 ≤ 200 := by omega
  have hn5l : n5 ≤ 200 := by omega
  have C5 : Hid (∀ W, Below Y4.heap.size Y4 W → Calls Try.prog 17 #[.agg #[.bool on2, .slice x2 n2 c2], .agg #[.bool on1, .slice x1 n1 c1]] W fun e w' => ∃ a cap, e = .returned (.agg #[.bool on, .slice a nj cap]) ∧ FE w' a nj lj ∧ Below W.heap.size W w') := fun W h => JoinF_any on2 x2 n2 c2 l2 on1 x1 n1 c1 l1 W (RY.out.below h) (RX.out.below h) hl2 hl1 on lj nj hc2 hc1 hc3
  have C8 : Hid (∀ W, Below Y4.heap.size Y4 W → Calls Try.prog 17 #[.agg #[.bool on, .slice aj nj capj], .agg #[.bool on3, .slice x3 n3 c3]] W fun e w' => ∃ a cap, e = .returned (.agg #[.bool on4, .slice a n4 cap]) ∧ FE w' a n4 l4 ∧ Below W.heap.size W w') := fun W h => JoinF_any on aj nj capj lj on3 x3 n3 c3 l3 W (RJ.out.below h) (RZ.out.below h) hnjl hl3 on4 l4 n4 hon4 hl4 hn4
  have C10 : Hid (∀ W, Below Y4.heap.size Y4 W → Calls Try.prog 17 #[.agg #[.bool on2, .slice x2 n2 c2], .agg #[.bool on3, .slice x3 n3 c3]] W fun e w' => ∃ a cap, e = .returned (.agg #[.bool on5, .slice a n5 cap]) ∧ FE w' a n5 l5 ∧ Below W.heap.size W w') := fun W h => JoinF_any on2 x2 n2 c2 l2 on3 x3 n3 c3 l3 W (RY.out.below h) (RZ.out.below h) hl2 hl3 on5 l5 n5 hon5 hl5 hn5
  have C11 : Hid (∀ W b cb, Below Y4.heap.size Y4 W → FE W b n5 l5 → Calls Try.prog 17 #[.agg #[.bool on1, .slice x1 n1 c1], .agg #[.bool on5, .slice b n5 cb]] W fun e w' => ∃ a cap, e = .returned (.agg #[.bool on4, .slice a n4 cap]) ∧ FE w' a n4 l4 ∧ Below W.heap.size W w') := fun W b cb h g => JoinF_any on1 x1 n1 c1 l1 on5 b n5 cb l5 W (RX.out.below h) g hl1 hn5l on4 l4 n4 hd1 hd2 hd3
  have C4 : Hid (∀ W b cb, FE W b nj lj → Calls Try.prog 16 #[.agg #[.bool on, .slice b nj cb]] W fun e w' => ∃ a cap, e = .returned (.agg #[.bool on, .slice a nj cap]) ∧ FE w' a nj lj ∧ Below W.heap.size W w') := fun W b cb g => their_any on b nj cb lj W g hnjl
  have C9 : Hid (∀ W b cb, FE W b n4 l4 → Calls Try.prog 16 #[.agg #[.bool on4, .slice b n4 cb]] W fun e w' => ∃ a cap, e = .returned (.agg #[.bool on4, .slice a n4 cap]) ∧ FE w' a n4 l4 ∧ Below W.heap.size W w') := fun W b cb g => their_any on4 b n4 cb l4 W g hn4l
  have C7 : Hid (∀ W b cb d cd, FE W b nj lj → FE W d nj lj → Calls Try.prog 15 #[.agg #[.bool on, .slice b nj cb], .agg #[.bool on, .slice d nj cd]] W fun e w' => e = .returned (.bool true) ∧ Below W.heap.size W w') := fun W b cb d cd g g' => SameF_eq on b cb d cd nj lj W g g' hnjl
  have C13 : Hid (∀ W b cb d cd, FE W b n4 l4 → FE W d n4 l4 → Calls Try.prog 15 #[.agg #[.bool on4, .slice b n4 cb], .agg #[.bool on4, .slice d n4 cd]] W fun e w' => e = .returned (.bool true) ∧ Below W.heap.size W w') := fun W b cb d cd g g' => SameF_eq on4 b cb d cd n4 l4 W g g' hn4l
  have HTR := Lib.hid htr
  have HLUB := Lib.hid hlub
  have RJ0 := RJ
  clear htr hlub hlxy hlyz hlxz hljz hc1 hc2 hc3 hon4 hl4 hn4 hon5 hl5 hn5 hsj hs5 hd1 hd2 hd3 hn4l hn5l hnjl hnj2 hz1 hz2 hz3 hnj hlj hon hl1 hl2 hl3 hm1 hm2 hm3 RA RB RC RX RY RZ RJ
  go_cut [66] (fun s66 wx => s66 = .bool false ∧ Hid (Below Y4.heap.size Y4 wx))
  case first =>
    clear C1 C2 C3 C14 C5 C8 C10 C11 C4 C9 C7 C13 RJ0
    have htr := HTR.out
    have hlub := HLUB.out
    subst hlub
    clear HTR HLUB
    cases lxy <;> cases lyz <;> cases lxz <;> (try (exact absurd (htr rfl rfl) (by decide)))
    all_goals
      clear htr
      have kX0 := cell_regrown HX.out.c0
      have kX1 := cell_regrown HX.out.c1
      have kY0 := cell_regrown HY.out.c0
      have kY1 := cell_regrown HY.out.c1
      have kZ0 := cell_regrown HZ.out.c0
      have kZ1 := cell_regrown HZ.out.c1
      have kJ0 := cell_regrown HJ.out.c0
      have kJ1 := cell_regrown HJ.out.c1
      have q0 := fun d os => Calls.regrown_of (Clxy.out (grow (redrawn Y4 d) os) (below_regrown Y4 d os))
      have q1 := fun d os => Calls.regrown_of (Clyz.out (grow (redrawn Y4 d) os) (below_regrown Y4 d os))
      have q2 := fun d os => Calls.regrown_of (Clxz.out (grow (redrawn Y4 d) os) (below_regrown Y4 d os))
      have q3 := fun d os => Calls.regrown_of (Cljz.out (grow (redrawn Y4 d) os) (below_regrown Y4 d os))
      try dsimp only [Bool.and_true, Bool.and_false, Bool.true_and, Bool.false_and] at q3
      refine wp_region_quiet_below (by kernel_rfl) (by kernel_rfl) ?_
      repeat (first | go_big_quiet_step (first | with_reducible exact q0 _ _ | with_reducible exact q1 _ _ | with_reducible exact q2 _ _ | with_reducible exact q3 _ _) | quiet_step (first | with_reducible exact q0 _ _ | with_reducible exact q1 _ _ | with_reducible exact q2 _ _ | with_reducible exact q3 _ _))
      refine wpQuiet_nil ?_
      intro _ hw'
      obtain ⟨⟨dq, osq⟩, hw''⟩ := hw'
      subst hw''
      go_wp2_with fail
      go_meet
      exact ⟨rfl, below_regrown Y4 dq osq⟩
  case rest =>
    obtain ⟨rfl, hBq⟩ := hcut
    clear Clxy Clyz Clxz Cljz HTR HLUB
    have hS : Hid (∀ w', Below Y4.heap.size Y4 w' → w'.cell? ⟨bX, 0, none⟩ = some (.bool on1) ∧ w'.cell? ⟨bX, 1, none⟩ = some (.slice x1 n1 c1) ∧ w'.cell? ⟨bY, 0, none⟩ = some (.bool on2) ∧ w'.cell? ⟨bY, 1, none⟩ = some (.slice x2 n2 c2) ∧ w'.cell? ⟨bZ, 0, none⟩ = some (.bool on3) ∧ w'.cell? ⟨bZ, 1, none⟩ = some (.slice x3 n3 c3) ∧ w'.cell? ⟨bJ, 0, none⟩ = some (.bool on) ∧ w'.cell? ⟨bJ, 1, none⟩ = some (.slice aj nj capj)) := fun W h =>
      ⟨(h.cell (p := ⟨bX, 0, none⟩) HX.out.lt).trans HX.out.c0, (h.cell (p := ⟨bX, 1, none⟩) HX.out.lt).trans HX.out.c1, (h.cell (p := ⟨bY, 0, none⟩) HY.out.lt).trans HY.out.c0, (h.cell (p := ⟨bY, 1, none⟩) HY.out.lt).trans HY.out.c1, (h.cell (p := ⟨bZ, 0, none⟩) HZ.out.lt).trans HZ.out.c0, (h.cell (p := ⟨bZ, 1, none⟩) HZ.out.lt).trans HZ.out.c1, (h.cell (p := ⟨bJ, 0, none⟩) HJ.out.lt).trans HJ.out.c0, (h.cell (p := ⟨bJ, 1, none⟩) HJ.out.lt).trans HJ.out.c1⟩
    have HW0 := HBN
    clear HBN
    have HBN := hBq
    clear hBq HX HY HZ HJ HA HB HC
    go_wp2_with fail
    have TT := HBN.out.drew
    clear HBN
    have HBN := Lib.hid TT
    clear TT
    have tok1 : True := trivial
    have tok2 : True := trivial
    have tok3 : True := trivial
    have tok4 : True := trivial
    have tok5 : True := trivial
    have tok6 : True := trivial
    have tok7 : True := trivial
    have tok8 : True := trivial
    have tok9 : True := trivial
    have tok10 : True := trivial
    have tok11 : True := trivial
    have tok12 : True := trivial
    have tok13 : True := trivial
    have tok14 : True := trivial
    go_region_held3 (fun w' => w'.cell? ⟨bX, 0, none⟩ = some (.bool on1) ∧ w'.cell? ⟨bX, 1, none⟩ = some (.slice x1 n1 c1) ∧ w'.cell? ⟨bY, 0, none⟩ = some (.bool on2) ∧ w'.cell? ⟨bY, 1, none⟩ = some (.slice x2 n2 c2) ∧ w'.cell? ⟨bZ, 0, none⟩ = some (.bool on3) ∧ w'.cell? ⟨bZ, 1, none⟩ = some (.slice x3 n3 c3) ∧ w'.cell? ⟨bJ, 0, none⟩ = some (.bool on) ∧ w'.cell? ⟨bJ, 1, none⟩ = some (.slice aj nj capj))
      (first | exact hS.out _ HBN.out)
      (first
        | (have _t := tok1; go_at_call 13; refine (C1.out _ HBN.out).mono ?_; clear _t tok1; rintro e wn ⟨rfl, hbn⟩; have hbx := HBN.out.trans (hbn.mono HBN.out.size); clear HBN hbn; have HBN := Lib.hid hbx; clear hbx)
        | (have _t := tok2; go_at_call 13; refine (C2.out _ HBN.out).mono ?_; clear _t tok2; rintro e wn ⟨rfl, hbn⟩; have hbx := HBN.out.trans (hbn.mono HBN.out.size); clear HBN hbn; have HBN := Lib.hid hbx; clear hbx)
        | (have _t := tok3; go_at_call 13; refine (C3.out _ HBN.out).mono ?_; clear _t tok3; rintro e wn ⟨rfl, hbn⟩; have hbx := HBN.out.trans (hbn.mono HBN.out.size); clear HBN hbn; have HBN := Lib.hid hbx; clear hbx)
        | (have _t := tok4; go_at_call 16; refine (C4.out _ _ _ (RJ0.out.below HBN.out)).mono ?_; clear _t tok4; rintro e wn ⟨a_t4, c_t4, rfl, hF, hbn⟩; have hbx := HBN.out.trans (hbn.mono HBN.out.size); clear HBN hbn; have HBN := Lib.hid hbx; clear hbx; have Ht4 := Lib.hid hF; clear hF)
        | (have _t := tok5; go_at_call 17; refine (C5.out _ HBN.out).mono ?_; clear _t tok5; rintro e wn ⟨a_t5, c_t5, rfl, hF, hbn⟩; have hFt4 := Ht4.out.below hbn; clear Ht4; have Ht4 := Lib.hid hFt4; clear hFt4; have hbx := HBN.out.trans (hbn.mono HBN.out.size); clear HBN hbn; have HBN := Lib.hid hbx; clear hbx; have Ht5 := Lib.hid hF; clear hF)
        | (have _t := tok6; go_at_call 16; refine (C4.out _ _ _ Ht5.out).mono ?_; clear _t tok6; rintro e wn ⟨a_t6, c_t6, rfl, hF, hbn⟩; have hFt4 := Ht4.out.below hbn; clear Ht4; have Ht4 := Lib.hid hFt4; clear hFt4; have hbx := HBN.out.trans (hbn.mono HBN.out.size); clear HBN hbn; have HBN := Lib.hid hbx; clear hbx; have Ht6 := Lib.hid hF; clear hF)
        | (have _t := tok7; go_at_call 15; refine (C7.out _ _ _ _ _ Ht4.out Ht6.out).mono ?_; clear _t tok7; rintro e wn ⟨rfl, hbn⟩; have hbx := HBN.out.trans (hbn.mono HBN.out.size); clear HBN hbn; have HBN := Lib.hid hbx; clear hbx)
        | (have _t := tok8; go_at_call 17; refine (C8.out _ HBN.out).mono ?_; clear _t tok8; rintro e wn ⟨a_t8, c_t8, rfl, hF, hbn⟩; have hbx := HBN.out.trans (hbn.mono HBN.out.size); clear HBN hbn; have HBN := Lib.hid hbx; clear hbx; have Ht8 := Lib.hid hF; clear hF)
        | (have _t := tok9; go_at_call 16; refine (C9.out _ _ _ Ht8.out).mono ?_; clear _t tok9; rintro e wn ⟨a_t9, c_t9, rfl, hF, hbn⟩; have hbx := HBN.out.trans (hbn.mono HBN.out.size); clear HBN hbn; have HBN := Lib.hid hbx; clear hbx; have Ht9 := Lib.hid hF; clear hF)
        | (have _t := tok10; go_at_call 17; refine (C10.out _ HBN.out).mono ?_; clear _t tok10; rintro e wn ⟨a_t10, c_t10, rfl, hF, hbn⟩; have hFt9 := Ht9.out.below hbn; clear Ht9; have Ht9 := Lib.hid hFt9; clear hFt9; have hbx := HBN.out.trans (hbn.mono HBN.out.size); clear HBN hbn; have HBN := Lib.hid hbx; clear hbx; have Ht10 := Lib.hid hF; clear hF)
        | (have _t := tok11; go_at_call 17; refine (C11.out _ _ _ HBN.out Ht10.out).mono ?_; clear _t tok11; rintro e wn ⟨a_t11, c_t11, rfl, hF, hbn⟩; have hFt9 := Ht9.out.below hbn; clear Ht9; have Ht9 := Lib.hid hFt9; clear hFt9; have hbx := HBN.out.trans (hbn.mono HBN.out.size); clear HBN hbn; have HBN := Lib.hid hbx; clear hbx; have Ht11 := Lib.hid hF; clear hF)
        | (have _t := tok12; go_at_call 16; refine (C9.out _ _ _ Ht11.out).mono ?_; clear _t tok12; rintro e wn ⟨a_t12, c_t12, rfl, hF, hbn⟩; have hFt9 := Ht9.out.below hbn; clear Ht9; have Ht9 := Lib.hid hFt9; clear hFt9; have hbx := HBN.out.trans (hbn.mono HBN.out.size); clear HBN hbn; have HBN := Lib.hid hbx; clear hbx; have Ht12 := Lib.hid hF; clear hF)
        | (have _t := tok13; go_at_call 15; refine (C13.out _ _ _ _ _ Ht9.out Ht12.out).mono ?_; clear _t tok13; rintro e wn ⟨rfl, hbn⟩; have hbx := HBN.out.trans (hbn.mono HBN.out.size); clear HBN hbn; have HBN := Lib.hid hbx; clear hbx)
        | (have _t := tok14; go_at_call 13; refine (C14.out _ HBN.out).mono ?_; clear _t tok14; rintro e wn ⟨rfl, hbn⟩; have hbx := HBN.out.trans (hbn.mono HBN.out.size); clear HBN hbn; have HBN := Lib.hid hbx; clear hbx))
    all_goals
      go_wp2_with fail
      go_ret
      exact ⟨rfl, HW0.out.trans (HBN.out.mono HW0.out.size)⟩
end Go.Proofs.Ytcmncclibhjepaa
