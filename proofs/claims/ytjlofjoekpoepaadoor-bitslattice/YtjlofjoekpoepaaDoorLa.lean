import Derived.Test.YtjlofjoekpoepaaDoorCd
namespace Go.Proofs.YtjlofjoekpoepaaDoor
open Go Go.RowKit Go.Sort

set_option maxRecDepth 100000 in
set_option maxHeartbeats 8000000 in
theorem lattice_law (n1 : Int) (a1 : Option Addr) (ws1 : List Nat) (cap1 : Nat) (n2 : Int) (a2 : Option Addr) (ws2 : List Nat) (cap2 : Nat) (n3 : Int) (a3 : Option Addr) (ws3 : List Nat) (cap3 : Nat) (w : World) (hWd1 : Wd w.heap.size w a1 ws1) (hWB1 : WB ws1) (hWd2 : Wd w.heap.size w a2 ws2) (hWB2 : WB ws2) (hWd3 : Wd w.heap.size w a3 ws3) (hWB3 : WB ws3) (hT : Tab w) :
    Calls Tryd.prog 6 #[.agg #[.int .i64 n1, .slice a1 ws1.length cap1], .agg #[.int .i64 n2, .slice a2 ws2.length cap2], .agg #[.int .i64 n3, .slice a3 ws3.length cap3]] w fun e w' => e = .returned (.bool true) ∧ Below w.heap.size w w' := by
  have hsv1 : SV w (.agg #[.int .i64 n1, .slice a1 ws1.length cap1]) n1 ws1 := ⟨a1, cap1, rfl, hWd1⟩
  have hsv2 : SV w (.agg #[.int .i64 n2, .slice a2 ws2.length cap2]) n2 ws2 := ⟨a2, cap2, rfl, hWd2⟩
  have hsv3 : SV w (.agg #[.int .i64 n3, .slice a3 ws3.length cap3]) n3 ws3 := ⟨a3, cap3, rfl, hWd3⟩
  obtain ⟨L1, hL1⟩ : ∃ L, ws1.length = L := ⟨_, rfl⟩
  obtain ⟨L2, hL2⟩ : ∃ L, ws2.length = L := ⟨_, rfl⟩
  obtain ⟨L3, hL3⟩ : ∃ L, ws3.length = L := ⟨_, rfl⟩
  rw [hL1] at hsv1 ⊢
  rw [hL2] at hsv2 ⊢
  rw [hL3] at hsv3 ⊢
  have hW1 : Below w.heap.size w (((w.alloc (.cells #[.int .i64 n1, .slice a1 L1 cap1] 24)).alloc (.cells #[.int .i64 n2, .slice a2 L2 cap2] 24)).alloc (.cells #[.int .i64 n3, .slice a3 L3 cap3] 24)) := (((Below.refl _ _).alloc (Nat.le_refl _) _).alloc (by simp) _).alloc (by simp <;> omega) _
  have BA := ((Box.new w (.int .i64 n1) (.slice a1 L1 cap1) 24).alloc (.cells #[.int .i64 n2, .slice a2 L2 cap2] 24)).alloc (.cells #[.int .i64 n3, .slice a3 L3 cap3] 24)
  have BB := (Box.new (w.alloc (.cells #[.int .i64 n1, .slice a1 L1 cap1] 24)) (.int .i64 n2) (.slice a2 L2 cap2) 24).alloc (.cells #[.int .i64 n3, .slice a3 L3 cap3] 24)
  have BC := Box.new ((w.alloc (.cells #[.int .i64 n1, .slice a1 L1 cap1] 24)).alloc (.cells #[.int .i64 n2, .slice a2 L2 cap2] 24)) (.int .i64 n3) (.slice a3 L3 cap3) 24
  simp only [World.size_alloc] at BB BC
  generalize hW : ((w.alloc (.cells #[.int .i64 n1, .slice a1 L1 cap1] 24)).alloc (.cells #[.int .i64 n2, .slice a2 L2 cap2] 24)).alloc (.cells #[.int .i64 n3, .slice a3 L3 cap3] 24) = W1 at *
  have HAw := Lib.hid (awake_any W1 (hT.below hW1))
  have HBN := Lib.hid hW1
  have HA := Lib.hid BA
  have HB := Lib.hid BB
  have HC := Lib.hid BC
  have HSV1 := Lib.hid hsv1
  have HL1 := Lib.hid hL1
  have HSV2 := Lib.hid hsv2
  have HL2 := Lib.hid hL2
  have HSV3 := Lib.hid hsv3
  have HL3 := Lib.hid hL3
  have HT := Lib.hid hT
  clear hsv1 hsv2 hsv3 hL1 hL2 hL3 hT hWd1 hWd2 hWd3 hW1 BA BB BC
  go_enter Tryd.func6, Tryd.ntmps6
  go_wp2_with fail
  refine HAw.out.mono ?_
  clear HAw hW
  rintro e w1 ⟨rfl, hb⟩
  have TT := HA.out.below hb HA.out.lt
  clear HA
  have HA := Lib.hid TT
  clear TT
  have TT := HB.out.below hb HB.out.lt
  clear HB
  have HB := Lib.hid TT
  clear TT
  have TT := HC.out.below hb HC.out.lt
  clear HC
  have HC := Lib.hid TT
  clear TT
  have TT := HBN.out.trans (hb.mono HBN.out.size)
  clear HBN
  have HBN := Lib.hid TT
  clear TT hb
  obtain ⟨cA0, cA1, -, -⟩ := id HA.out
  go_wp2_with fail
  clear cA0 cA1
  by_cases h31 : L1 ≤ 30
  rotate_left
  · have hd : decide ((L1 : Int) ≤ 30) = false := by simp; omega
    refine (few_any n1 a1 L1 cap1 false hd w1).mono ?_
    rintro e wq ⟨rfl, hbq⟩
    have HB3 := Lib.hid (HBN.out.trans (hbq.mono HBN.out.size))
    clear hbq hd HBN HA HB HC
    go_wp2
    go_ret
    exact ⟨rfl, HB3.out⟩
  have hd : decide ((L1 : Int) ≤ 30) = true := by simp; omega
  refine (few_any n1 a1 L1 cap1 true hd w1).mono ?_
  rintro e w2 ⟨rfl, hb⟩
  clear hd
  have TT := HA.out.below hb HA.out.lt
  clear HA
  have HA := Lib.hid TT
  clear TT
  have TT := HB.out.below hb HB.out.lt
  clear HB
  have HB := Lib.hid TT
  clear TT
  have TT := HC.out.below hb HC.out.lt
  clear HC
  have HC := Lib.hid TT
  clear TT
  have TT := HBN.out.trans (hb.mono HBN.out.size)
  clear HBN
  have HBN := Lib.hid TT
  clear TT hb
  obtain ⟨cB0, cB1, -, -⟩ := id HB.out
  go_wp2_with fail
  clear cB0 cB1
  by_cases h32 : L2 ≤ 30
  rotate_left
  · have hd : decide ((L2 : Int) ≤ 30) = false := by simp; omega
    refine (few_any n2 a2 L2 cap2 false hd w2).mono ?_
    rintro e wq ⟨rfl, hbq⟩
    have HB3 := Lib.hid (HBN.out.trans (hbq.mono HBN.out.size))
    clear hbq hd HBN HA HB HC
    go_wp2
    go_ret
    exact ⟨rfl, HB3.out⟩
  have hd : decide ((L2 : Int) ≤ 30) = true := by simp; omega
  refine (few_any n2 a2 L2 cap2 true hd w2).mono ?_
  rintro e w3 ⟨rfl, hb⟩
  clear hd
  have TT := HA.out.below hb HA.out.lt
  clear HA
  have HA := Lib.hid TT
  clear TT
  have TT := HB.out.below hb HB.out.lt
  clear HB
  have HB := Lib.hid TT
  clear TT
  have TT := HC.out.below hb HC.out.lt
  clear HC
  have HC := Lib.hid TT
  clear TT
  have TT := HBN.out.trans (hb.mono HBN.out.size)
  clear HBN
  have HBN := Lib.hid TT
  clear TT hb
  obtain ⟨cC0, cC1, -, -⟩ := id HC.out
  go_wp2_with fail
  clear cC0 cC1
  by_cases h33 : L3 ≤ 30
  rotate_left
  · have hd : decide ((L3 : Int) ≤ 30) = false := by simp; omega
    refine (few_any n3 a3 L3 cap3 false hd w3).mono ?_
    rintro e wq ⟨rfl, hbq⟩
    have HB3 := Lib.hid (HBN.out.trans (hbq.mono HBN.out.size))
    clear hbq hd HBN HA HB HC
    go_wp2
    go_ret
    exact ⟨rfl, HB3.out⟩
  have hd : decide ((L3 : Int) ≤ 30) = true := by simp; omega
  refine (few_any n3 a3 L3 cap3 true hd w3).mono ?_
  rintro e w4 ⟨rfl, hb⟩
  clear hd
  have TT := HA.out.below hb HA.out.lt
  clear HA
  have HA := Lib.hid TT
  clear TT
  have TT := HB.out.below hb HB.out.lt
  clear HB
  have HB := Lib.hid TT
  clear TT
  have TT := HC.out.below hb HC.out.lt
  clear HC
  have HC := Lib.hid TT
  clear TT
  have TT := HBN.out.trans (hb.mono HBN.out.size)
  clear HBN
  have HBN := Lib.hid TT
  clear TT hb
  have HA1 := Lib.hid (Acts.raw HSV1.out (by rw [HL1.out]; exact h31) hWB1)
  have HA2 := Lib.hid (Acts.raw HSV2.out (by rw [HL2.out]; exact h32) hWB2)
  have HA3 := Lib.hid (Acts.raw HSV3.out (by rw [HL3.out]; exact h33) hWB3)
  generalize nrm n1 ws1 = m1 at *
  generalize nrmW n1 ws1 = v1 at *
  generalize nrm n2 ws2 = m2 at *
  generalize nrmW n2 ws2 = v2 at *
  generalize nrm n3 ws3 = m3 at *
  generalize nrmW n3 ws3 = v3 at *
  clear HSV1 HSV2 HSV3 HL1 HL2 HL3
  obtain ⟨cA0, cA1, -, -⟩ := id HA.out
  go_wp2_with fail
  clear cA0 cA1
  refine (ours_any n1 a1 L1 cap1 _).mono ?_
  rintro e u1 ⟨rfl, hb⟩
  have TT := HA.out.below hb HA.out.lt
  clear HA
  have HA := Lib.hid TT
  clear TT
  have TT := HB.out.below hb HB.out.lt
  clear HB
  have HB := Lib.hid TT
  clear TT
  have TT := HC.out.below hb HC.out.lt
  clear HC
  have HC := Lib.hid TT
  clear TT
  have TT := HBN.out.trans (hb.mono HBN.out.size)
  clear HBN
  have HBN := Lib.hid TT
  clear TT hb
  have TT := HA.out.alloc (.cells #[.int .i64 n1, .slice a1 L1 cap1] 28)
  clear HA
  have HA := Lib.hid TT
  clear TT
  have TT := HB.out.alloc (.cells #[.int .i64 n1, .slice a1 L1 cap1] 28)
  clear HB
  have HB := Lib.hid TT
  clear TT
  have TT := HC.out.alloc (.cells #[.int .i64 n1, .slice a1 L1 cap1] 28)
  clear HC
  have HC := Lib.hid TT
  clear TT
  have HX := Lib.hid (Box.new u1 (.int .i64 n1) (.slice a1 L1 cap1) 28)
  have TT := HBN.out.trans (((Below.refl u1.heap.size u1).alloc (Nat.le_refl _) (.cells #[.int .i64 n1, .slice a1 L1 cap1] 28)).mono HBN.out.size)
  clear HBN
  have HBN := Lib.hid TT
  clear TT
  obtain ⟨cB0, cB1, -, -⟩ := id HB.out
  go_wp2_with fail
  clear cB0 cB1
  obtain ⟨b8, hbb⟩ : ∃ b8, u1.heap.size = b8 := ⟨_, rfl⟩
  rw [hbb]
  rw [hbb] at HX
  clear hbb
  generalize u1.alloc (.cells #[.int .i64 n1, .slice a1 L1 cap1] 28) = y1 at *
  refine (ours_any n2 a2 L2 cap2 _).mono ?_
  rintro e u2 ⟨rfl, hb⟩
  have TT := HA.out.below hb HA.out.lt
  clear HA
  have HA := Lib.hid TT
  clear TT
  have TT := HB.out.below hb HB.out.lt
  clear HB
  have HB := Lib.hid TT
  clear TT
  have TT := HC.out.below hb HC.out.lt
  clear HC
  have HC := Lib.hid TT
  clear TT
  have TT := HX.out.below hb HX.out.lt
  clear HX
  have HX := Lib.hid TT
  clear TT
  have TT := HBN.out.trans (hb.mono HBN.out.size)
  clear HBN
  have HBN := Lib.hid TT
  clear TT hb
  have TT := HA.out.alloc (.cells #[.int .i64 n2, .slice a2 L2 cap2] 28)
  clear HA
  have HA := Lib.hid TT
  clear TT
  have TT := HB.out.alloc (.cells #[.int .i64 n2, .slice a2 L2 cap2] 28)
  clear HB
  have HB := Lib.hid TT
  clear TT
  have TT := HC.out.alloc (.cells #[.int .i64 n2, .slice a2 L2 cap2] 28)
  clear HC
  have HC := Lib.hid TT
  clear TT
  have TT := HX.out.alloc (.cells #[.int .i64 n2, .slice a2 L2 cap2] 28)
  clear HX
  have HX := Lib.hid TT
  clear TT
  have HY := Lib.hid (Box.new u2 (.int .i64 n2) (.slice a2 L2 cap2) 28)
  have TT := HBN.out.trans (((Below.refl u2.heap.size u2).alloc (Nat.le_refl _) (.cells #[.int .i64 n2, .slice a2 L2 cap2] 28)).mono HBN.out.size)
  clear HBN
  have HBN := Lib.hid TT
  clear TT
  obtain ⟨cC0, cC1, -, -⟩ := id HC.out
  go_wp2_with fail
  clear cC0 cC1
  obtain ⟨b9, hbb⟩ : ∃ b9, u2.heap.size = b9 := ⟨_, rfl⟩
  rw [hbb]
  rw [hbb] at HY
  clear hbb
  generalize u2.alloc (.cells #[.int .i64 n2, .slice a2 L2 cap2] 28) = y2 at *
  refine (ours_any n3 a3 L3 cap3 _).mono ?_
  rintro e u3 ⟨rfl, hb⟩
  have TT := HA.out.below hb HA.out.lt
  clear HA
  have HA := Lib.hid TT
  clear TT
  have TT := HB.out.below hb HB.out.lt
  clear HB
  have HB := Lib.hid TT
  clear TT
  have TT := HC.out.below hb HC.out.lt
  clear HC
  have HC := Lib.hid TT
  clear TT
  have TT := HX.out.below hb HX.out.lt
  clear HX
  have HX := Lib.hid TT
  clear TT
  have TT := HY.out.below hb HY.out.lt
  clear HY
  have HY := Lib.hid TT
  clear TT
  have TT := HBN.out.trans (hb.mono HBN.out.size)
  clear HBN
  have HBN := Lib.hid TT
  clear TT hb
  have TT := HA.out.alloc (.cells #[.int .i64 n3, .slice a3 L3 cap3] 28)
  clear HA
  have HA := Lib.hid TT
  clear TT
  have TT := HB.out.alloc (.cells #[.int .i64 n3, .slice a3 L3 cap3] 28)
  clear HB
  have HB := Lib.hid TT
  clear TT
  have TT := HC.out.alloc (.cells #[.int .i64 n3, .slice a3 L3 cap3] 28)
  clear HC
  have HC := Lib.hid TT
  clear TT
  have TT := HX.out.alloc (.cells #[.int .i64 n3, .slice a3 L3 cap3] 28)
  clear HX
  have HX := Lib.hid TT
  clear TT
  have TT := HY.out.alloc (.cells #[.int .i64 n3, .slice a3 L3 cap3] 28)
  clear HY
  have HY := Lib.hid TT
  clear TT
  have HZ := Lib.hid (Box.new u3 (.int .i64 n3) (.slice a3 L3 cap3) 28)
  have TT := HBN.out.trans (((Below.refl u3.heap.size u3).alloc (Nat.le_refl _) (.cells #[.int .i64 n3, .slice a3 L3 cap3] 28)).mono HBN.out.size)
  clear HBN
  have HBN := Lib.hid TT
  clear TT
  obtain ⟨cX0, cX1, -, -⟩ := id HX.out
  obtain ⟨cY0, cY1, -, -⟩ := id HY.out
  go_wp2_with fail
  clear cX0 cX1 cY0 cY1
  obtain ⟨b10, hbb⟩ : ∃ b10, u3.heap.size = b10 := ⟨_, rfl⟩
  rw [hbb]
  rw [hbb] at HZ
  clear hbb
  generalize u3.alloc (.cells #[.int .i64 n3, .slice a3 L3 cap3] 28) = y3 at *
  obtain ⟨N, hN⟩ : ∃ N, max m1 m2 = N := ⟨_, rfl⟩
  obtain ⟨K, hK⟩ : ∃ K, wcount N = K := ⟨_, rfl⟩
  have HN := Lib.hid hN
  have HK := Lib.hid hK
  clear hN hK
  clear HA HB HC
  refine (Union_acts (HA1.out.below HBN.out) (HA2.out.below HBN.out) HN.out HK.out).mono ?_
  rintro e u4 ⟨gu, rfl, hF, hb⟩
  have TT := HX.out.below hb HX.out.lt
  clear HX
  have HX := Lib.hid TT
  clear TT
  have TT := HY.out.below hb HY.out.lt
  clear HY
  have HY := Lib.hid TT
  clear TT
  have TT := HZ.out.below hb HZ.out.lt
  clear HZ
  have HZ := Lib.hid TT
  clear TT
  have TT := HBN.out.trans (hb.mono HBN.out.size)
  clear HBN
  have HBN := Lib.hid TT
  clear TT hb
  obtain ⟨vu, hvu⟩ : ∃ vw, joinW orN m1 m2 v1 v2 = vw := ⟨_, rfl⟩
  have hok := HA1.out.ok.union HA2.out.ok
  rw [HN.out, hvu] at hok
  rw [hvu] at hF
  have HVU := Lib.hid hvu
  have hA := (Below.refl u4.heap.size u4).alloc (Nat.le_refl _) (.cells #[.int .i64 (N : Int), .slice (some ⟨gu, 0, none⟩) K K] 28)
  have HAU := Lib.hid ((Acts.fresh hF hok HK.out).below hA)
  clear hF hok hA hvu
  have TT := HX.out.alloc (.cells #[.int .i64 (N : Int), .slice (some ⟨gu, 0, none⟩) K K] 28)
  clear HX
  have HX := Lib.hid TT
  clear TT
  have TT := HY.out.alloc (.cells #[.int .i64 (N : Int), .slice (some ⟨gu, 0, none⟩) K K] 28)
  clear HY
  have HY := Lib.hid TT
  clear TT
  have TT := HZ.out.alloc (.cells #[.int .i64 (N : Int), .slice (some ⟨gu, 0, none⟩) K K] 28)
  clear HZ
  have HZ := Lib.hid TT
  clear TT
  have HU := Lib.hid (Box.new u4 (.int .i64 (N : Int)) (.slice (some ⟨gu, 0, none⟩) K K) 28)
  have TT := HBN.out.trans (((Below.refl u4.heap.size u4).alloc (Nat.le_refl _) (.cells #[.int .i64 (N : Int), .slice (some ⟨gu, 0, none⟩) K K] 28)).mono HBN.out.size)
  clear HBN
  have HBN := Lib.hid TT
  clear TT
  obtain ⟨cX0, cX1, -, -⟩ := id HX.out
  obtain ⟨cY0, cY1, -, -⟩ := id HY.out
  go_wp2_with fail
  clear cX0 cX1 cY0 cY1
  obtain ⟨b11, hbb⟩ : ∃ b11, u4.heap.size = b11 := ⟨_, rfl⟩
  rw [hbb]
  rw [hbb] at HU
  clear hbb
  generalize u4.alloc (.cells #[.int .i64 (N : Int), .slice (some ⟨gu, 0, none⟩) K K] 28) = y4 at *
  refine (Meet_acts (HA1.out.below HBN.out) (HA2.out.below HBN.out) HN.out HK.out).mono ?_
  rintro e u5 ⟨gm, rfl, hF, hb⟩
  have TT := HAU.out.below hb
  clear HAU
  have HAU := Lib.hid TT
  clear TT
  have TT := HX.out.below hb HX.out.lt
  clear HX
  have HX := Lib.hid TT
  clear TT
  have TT := HY.out.below hb HY.out.lt
  clear HY
  have HY := Lib.hid TT
  clear TT
  have TT := HZ.out.below hb HZ.out.lt
  clear HZ
  have HZ := Lib.hid TT
  clear TT
  have TT := HU.out.below hb HU.out.lt
  clear HU
  have HU := Lib.hid TT
  clear TT
  have TT := HBN.out.trans (hb.mono HBN.out.size)
  clear HBN
  have HBN := Lib.hid TT
  clear TT hb
  obtain ⟨vm, hvm⟩ : ∃ vw, joinW andN m1 m2 v1 v2 = vw := ⟨_, rfl⟩
  have hok := HA1.out.ok.meet HA2.out.ok
  rw [HN.out, hvm] at hok
  rw [hvm] at hF
  have HVM := Lib.hid hvm
  have hA := (Below.refl u5.heap.size u5).alloc (Nat.le_refl _) (.cells #[.int .i64 (N : Int), .slice (some ⟨gm, 0, none⟩) K K] 28)
  have HAM := Lib.hid ((Acts.fresh hF hok HK.out).below hA)
  have TT := HAU.out.below hA
  clear HAU
  have HAU := Lib.hid TT
  clear TT
  clear hF hok hA hvm
  have TT := HX.out.alloc (.cells #[.int .i64 (N : Int), .slice (some ⟨gm, 0, none⟩) K K] 28)
  clear HX
  have HX := Lib.hid TT
  clear TT
  have TT := HY.out.alloc (.cells #[.int .i64 (N : Int), .slice (some ⟨gm, 0, none⟩) K K] 28)
  clear HY
  have HY := Lib.hid TT
  clear TT
  have TT := HZ.out.alloc (.cells #[.int .i64 (N : Int), .slice (some ⟨gm, 0, none⟩) K K] 28)
  clear HZ
  have HZ := Lib.hid TT
  clear TT
  have TT := HU.out.alloc (.cells #[.int .i64 (N : Int), .slice (some ⟨gm, 0, none⟩) K K] 28)
  clear HU
  have HU := Lib.hid TT
  clear TT
  have HM := Lib.hid (Box.new u5 (.int .i64 (N : Int)) (.slice (some ⟨gm, 0, none⟩) K K) 28)
  have TT := HBN.out.trans (((Below.refl u5.heap.size u5).alloc (Nat.le_refl _) (.cells #[.int .i64 (N : Int), .slice (some ⟨gm, 0, none⟩) K K] 28)).mono HBN.out.size)
  clear HBN
  have HBN := Lib.hid TT
  clear TT
  go_upto_region 9 with fail
  obtain ⟨b12, hbb⟩ : ∃ b12, u5.heap.size = b12 := ⟨_, rfl⟩
  rw [hbb]
  rw [hbb] at HM
  clear hbb
  generalize u5.alloc (.cells #[.int .i64 (N : Int), .slice (some ⟨gm, 0, none⟩) K K] 28) = y5 at *
  have hTr := HT.out.below HBN.out
  have hAX := HA1.out.below HBN.out
  have hAY := HA2.out.below HBN.out
  have hAZ := HA3.out.below HBN.out
  have hAU := HAU.out
  have hAM := HAM.out
  clear HA1 HA2 HA3 HAU HAM HT
  have okX := hAX.ok
  have okY := hAY.ok
  have okZ := hAZ.ok
  have okU := hAU.ok
  have okM := hAM.ok
  obtain ⟨lxy, hlxy⟩ : ∃ b, leqB v1 m2 v2 = b := ⟨_, rfl⟩
  obtain ⟨lyz, hlyz⟩ : ∃ b, leqB v2 m3 v3 = b := ⟨_, rfl⟩
  obtain ⟨lxz, hlxz⟩ : ∃ b, leqB v1 m3 v3 = b := ⟨_, rfl⟩
  obtain ⟨luz, hluz⟩ : ∃ b, leqB vu m3 v3 = b := ⟨_, rfl⟩
  have hbu : ∀ i, bitAt vu i = (bitAt v1 i || bitAt v2 i) := fun i => by rw [← HVU.out]; exact bit_union okX okY i
  have hbm : ∀ i, bitAt vm i = (bitAt v1 i && bitAt v2 i) := fun i => by rw [← HVM.out]; exact bit_meet okX okY i
  have htr : lxy = true → lyz = true → lxz = true := by
    rw [← hlxy, ← hlyz, ← hlxz, leq_iff okY, leq_iff okZ, leq_iff okZ]
    exact fun p q i hi => q i (p i hi)
  have hun : lxz = true → lyz = luz := by
    intro hx
    rw [← hlxz, leq_iff okZ] at hx
    rw [← hlyz, ← hluz, Bool.eq_iff_iff, leq_iff okZ, leq_iff okZ]
    constructor
    · intro p i hi
      rw [hbu, Bool.or_eq_true] at hi
      exact hi.elim (hx i) (p i)
    · intro p i hi
      exact p i (by rw [hbu, hi, Bool.or_true])
  have Clxy : ∀ d os, Calls Tryd.prog 37 #[.agg #[.int .i64 n1, .slice a1 L1 cap1], .agg #[.int .i64 n2, .slice a2 L2 cap2]] (grow (redrawn y5 d) os) fun e w'' => e = .returned (.bool lxy) ∧ ∃ p : Regrown, w'' = grow (redrawn y5 p.d) p.os :=
    fun d os => Calls.regrown_of (Leq_acts (hAX.below (below_regrown y5 d os)) (hAY.below (below_regrown y5 d os)) (hTr.below (below_regrown y5 d os)) hlxy)
  have Clyz : ∀ d os, Calls Tryd.prog 37 #[.agg #[.int .i64 n2, .slice a2 L2 cap2], .agg #[.int .i64 n3, .slice a3 L3 cap3]] (grow (redrawn y5 d) os) fun e w'' => e = .returned (.bool lyz) ∧ ∃ p : Regrown, w'' = grow (redrawn y5 p.d) p.os :=
    fun d os => Calls.regrown_of (Leq_acts (hAY.below (below_regrown y5 d os)) (hAZ.below (below_regrown y5 d os)) (hTr.below (below_regrown y5 d os)) hlyz)
  have Clxz : ∀ d os, Calls Tryd.prog 37 #[.agg #[.int .i64 n1, .slice a1 L1 cap1], .agg #[.int .i64 n3, .slice a3 L3 cap3]] (grow (redrawn y5 d) os) fun e w'' => e = .returned (.bool lxz) ∧ ∃ p : Regrown, w'' = grow (redrawn y5 p.d) p.os :=
    fun d os => Calls.regrown_of (Leq_acts (hAX.below (below_regrown y5 d os)) (hAZ.below (below_regrown y5 d os)) (hTr.below (below_regrown y5 d os)) hlxz)
  have Cluz : ∀ d os, Calls Tryd.prog 37 #[.agg #[.int .i64 (N : Int), .slice (some ⟨gu, 0, none⟩) K K], .agg #[.int .i64 n3, .slice a3 L3 cap3]] (grow (redrawn y5 d) os) fun e w'' => e = .returned (.bool luz) ∧ ∃ p : Regrown, w'' = grow (redrawn y5 p.d) p.os :=
    fun d os => Calls.regrown_of (Leq_acts (hAU.below (below_regrown y5 d os)) (hAZ.below (below_regrown y5 d os)) (hTr.below (below_regrown y5 d os)) hluz)
  have kX0 := cell_regrown HX.out.c0
  have kX1 := cell_regrown HX.out.c1
  have kY0 := cell_regrown HY.out.c0
  have kY1 := cell_regrown HY.out.c1
  have kZ0 := cell_regrown HZ.out.c0
  have kZ1 := cell_regrown HZ.out.c1
  have kU0 := cell_regrown HU.out.c0
  have kU1 := cell_regrown HU.out.c1
  have HAX := Lib.hid hAX
  have HAY := Lib.hid hAY
  have HAZ := Lib.hid hAZ
  have HAU := Lib.hid hAU
  have HAM := Lib.hid hAM
  have HOX := Lib.hid okX
  have HOY := Lib.hid okY
  have HOZ := Lib.hid okZ
  have HOU := Lib.hid okU
  have HOM := Lib.hid okM
  have HTr := Lib.hid hTr
  have HBU := Lib.hid hbu
  have HBM := Lib.hid hbm
  have HTRI := Lib.hid htr
  have HUNI := Lib.hid hun
  clear hAX hAY hAZ hAU hAM okX okY okZ okU okM hTr hbu hbm htr hun hlxy hlyz hlxz hluz
  go_cut [67] (fun s67 wx => s67 = .bool false ∧ Hid (Below y5.heap.size y5 wx))
  case first =>
    have HTRI := HTRI.out
    have HUNI := HUNI.out
    cases lxz with
    | true =>
      obtain rfl : lyz = luz := HUNI rfl
      clear HUNI HTRI
      cases lxy <;> cases lyz
      all_goals
        refine wp_region_quiet_below (by kernel_rfl) (by kernel_rfl) ?_
        repeat (first | go_big_quiet_step (first | with_reducible exact Clxy _ _ | with_reducible exact Clyz _ _ | with_reducible exact Clxz _ _ | with_reducible exact Cluz _ _) | quiet_step (first | with_reducible exact Clxy _ _ | with_reducible exact Clyz _ _ | with_reducible exact Clxz _ _ | with_reducible exact Cluz _ _))
        refine wpQuiet_nil ?_
        intro _ hw'
        obtain ⟨⟨dq, osq⟩, hw''⟩ := hw'
        subst hw''
        go_wp2_with fail
        go_meet
        exact ⟨rfl, below_regrown y5 dq osq⟩
    | false =>
      cases lxy with
      | false =>
        clear HUNI HTRI
        refine wp_region_quiet_below (by kernel_rfl) (by kernel_rfl) ?_
        repeat (first | go_big_quiet_step (first | with_reducible exact Clxy _ _ | with_reducible exact Clyz _ _ | with_reducible exact Clxz _ _ | with_reducible exact Cluz _ _) | quiet_step (first | with_reducible exact Clxy _ _ | with_reducible exact Clyz _ _ | with_reducible exact Clxz _ _ | with_reducible exact Cluz _ _))
        refine wpQuiet_nil ?_
        intro _ hw'
        obtain ⟨⟨dq, osq⟩, hw''⟩ := hw'
        subst hw''
        go_wp2_with fail
        go_meet
        exact ⟨rfl, below_regrown y5 dq osq⟩
      | true =>
        cases lyz with
        | true => exact absurd (HTRI rfl rfl) (by simp)
        | false =>
          clear HUNI HTRI
          refine wp_region_quiet_below (by kernel_rfl) (by kernel_rfl) ?_
          repeat (first | go_big_quiet_step (first | with_reducible exact Clxy _ _ | with_reducible exact Clyz _ _ | with_reducible exact Clxz _ _ | with_reducible exact Cluz _ _) | quiet_step (first | with_reducible exact Clxy _ _ | with_reducible exact Clyz _ _ | with_reducible exact Clxz _ _ | with_reducible exact Cluz _ _))
          refine wpQuiet_nil ?_
          intro _ hw'
          obtain ⟨⟨dq, osq⟩, hw''⟩ := hw'
          subst hw''
          go_wp2_with fail
          go_meet
          exact ⟨rfl, below_regrown y5 dq osq⟩
  case rest =>
    obtain ⟨rfl, hBq⟩ := hcut
    clear kX0 kX1 kY0 kY1 kZ0 kZ1 kU0 kU1 Clxy Clyz Clxz Cluz HTRI HUNI
    have hAX := HAX.out
    have okX := HOX.out
    have hAY := HAY.out
    have okY := HOY.out
    have hAZ := HAZ.out
    have okZ := HOZ.out
    have hAU := HAU.out
    have okU := HOU.out
    have hAM := HAM.out
    have okM := HOM.out
    have hTr := HTr.out
    have hbu := HBU.out
    have hbm := HBM.out
    have hN := HN.out
    have hK := HK.out
    have l1 : leqB v1 N vu = true := by
      rw [leq_iff okU]
      exact fun i hi => by rw [hbu, hi, Bool.true_or]
    have l2 : leqB v2 N vu = true := by
      rw [leq_iff okU]
      exact fun i hi => by rw [hbu, hi, Bool.or_true]
    have l3 : leqB vm m1 v1 = true := by
      rw [leq_iff okX]
      exact fun i hi => by rw [hbm, Bool.and_eq_true] at hi; exact hi.1
    have l4 : leqB vm m2 v2 = true := by
      rw [leq_iff okY]
      exact fun i hi => by rw [hbm, Bool.and_eq_true] at hi; exact hi.2
    have l7 : leqB v1 m1 v1 = true := by
      rw [leq_iff okX]
      exact fun i hi => hi
    have hN21 : max m2 m1 = N := by omega
    have e5 : joinW orN m2 m1 v2 v1 = vu := by
      have o := okY.union okX
      rw [hN21] at o
      exact o.ext okU fun i _ => by rw [bit_union okY okX, hbu, Bool.or_comm]
    obtain ⟨N3, hN3⟩ : ∃ x, max N m3 = x := ⟨_, rfl⟩
    obtain ⟨K3, hK3⟩ : ∃ x, wcount N3 = x := ⟨_, rfl⟩
    obtain ⟨N23, hN23⟩ : ∃ x, max m2 m3 = x := ⟨_, rfl⟩
    obtain ⟨K23, hK23⟩ : ∃ x, wcount N23 = x := ⟨_, rfl⟩
    obtain ⟨va, hva⟩ : ∃ x, joinW orN N m3 vu v3 = x := ⟨_, rfl⟩
    have oka : Ok N3 va := by have o := okU.union okZ; rw [hN3, hva] at o; exact o
    obtain ⟨vb, hvb⟩ : ∃ x, joinW orN m2 m3 v2 v3 = x := ⟨_, rfl⟩
    have okb : Ok N23 vb := by have o := okY.union okZ; rw [hN23, hvb] at o; exact o
    have hN3' : max m1 N23 = N3 := by omega
    have e6 : joinW orN m1 N23 v1 vb = va := by
      have o := okX.union okb
      rw [hN3'] at o
      exact o.ext oka fun i _ => by rw [bit_union okX okb, ← hva, bit_union okU okZ, hbu, ← hvb, bit_union okY okZ, Bool.or_assoc]
    obtain ⟨cu, hcu⟩ : ∃ x, (nums vu).length = x := ⟨_, rfl⟩
    obtain ⟨cm, hcm⟩ : ∃ x, (nums vm).length = x := ⟨_, rfl⟩
    obtain ⟨cx, hcx⟩ : ∃ x, (nums v1).length = x := ⟨_, rfl⟩
    obtain ⟨cy, hcy⟩ : ∃ x, (nums v2).length = x := ⟨_, rfl⟩
    have hsum : cu + cm = cx + cy := by
      have l1 : m1 ≤ N := by omega
      have l2 : m2 ≤ N := by omega
      rw [← hcx, ← hcy, ← hcu, ← hcm, count_eq okX l1, count_eq okY l2, count_eq okU (Nat.le_refl _), count_eq okM (Nat.le_refl _), show (List.range N).filter (fun i => bitAt vu i) = (List.range N).filter (fun i => bitAt v1 i || bitAt v2 i) from List.filter_congr fun i _ => hbu i, show (List.range N).filter (fun i => bitAt vm i) = (List.range N).filter (fun i => bitAt v1 i && bitAt v2 i) from List.filter_congr fun i _ => hbm i, filter_or_and]
    have hcx1 : cx ≤ 1024 := by rw [← hcx]; have := count_le okX; have := okX.le; omega
    have hcy1 : cy ≤ 1024 := by rw [← hcy]; have := count_le okY; have := okY.le; omega
    have g1 : IntKind.i64.wrap ((cu : Int) + (cm : Int)) = ((cx + cy : Nat) : Int) := by rw [IntKind.wrap_i64]; omega
    have g2 : IntKind.i64.wrap ((cx : Int) + (cy : Int)) = ((cx + cy : Nat) : Int) := by rw [IntKind.wrap_i64]; omega
    obtain ⟨vd, hvd⟩ : ∃ x, joinW minusN m1 m2 v1 v2 = x := ⟨_, rfl⟩
    have okd : Ok N vd := by have o := okX.minus okY; rw [hN, hvd] at o; exact o
    have hNN : max N N = N := by omega
    obtain ⟨ve, hve⟩ : ∃ x, joinW orN N N vd vm = x := ⟨_, rfl⟩
    have oke : Ok N ve := by have o := okd.union okM; rw [hNN, hve] at o; exact o
    obtain ⟨N0, hN0⟩ : ∃ x, 0 = x := ⟨_, rfl⟩
    obtain ⟨K0, hK0⟩ : ∃ x, wcount N0 = x := ⟨_, rfl⟩
    obtain ⟨v0, hv0⟩ : ∃ x : List Nat, [] = x := ⟨_, rfl⟩
    have ok0 : Ok N0 v0 := by subst hN0; subst hv0; exact ok_of (Nat.zero_le _) []
    have hbz : ∀ i, bitAt v0 i = false := fun i => ok0.clear (by omega)
    have hN20 : max m2 N0 = m2 := by omega
    obtain ⟨K2, hK2⟩ : ∃ x, wcount m2 = x := ⟨_, rfl⟩
    obtain ⟨vf, hvf⟩ : ∃ x, joinW andN m2 N0 v2 v0 = x := ⟨_, rfl⟩
    have okf : Ok m2 vf := by have o := okY.meet ok0; rw [hN20, hvf] at o; exact o
    have e9 : joinW orN m1 m2 v1 vf = ve := by
      have o := okX.union okf
      rw [hN] at o
      exact o.ext oke fun i _ => by rw [bit_union okX okf, ← hvf, bit_meet okY ok0, hbz, ← hve, bit_union okd okM, hbm, ← hvd, bit_minus okX okY]; cases bitAt v1 i <;> cases bitAt v2 i <;> rfl
    have F1 : Hid (∀ W, Below y5.heap.size y5 W → Calls Tryd.prog 37 #[.agg #[.int .i64 n1, .slice a1 L1 cap1], .agg #[.int .i64 (N : Int), .slice (some ⟨gu, 0, none⟩) K K]] W fun e w' => e = .returned (.bool true) ∧ Below W.heap.size W w') :=
      fun W hW => Leq_acts (hAX.below hW) (hAU.below hW) (hTr.below hW) l1
    have F2 : Hid (∀ W, Below y5.heap.size y5 W → Calls Tryd.prog 37 #[.agg #[.int .i64 n2, .slice a2 L2 cap2], .agg #[.int .i64 (N : Int), .slice (some ⟨gu, 0, none⟩) K K]] W fun e w' => e = .returned (.bool true) ∧ Below W.heap.size W w') :=
      fun W hW => Leq_acts (hAY.below hW) (hAU.below hW) (hTr.below hW) l2
    have F3 : Hid (∀ W, Below y5.heap.size y5 W → Calls Tryd.prog 37 #[.agg #[.int .i64 (N : Int), .slice (some ⟨gm, 0, none⟩) K K], .agg #[.int .i64 n1, .slice a1 L1 cap1]] W fun e w' => e = .returned (.bool true) ∧ Below W.heap.size W w') :=
      fun W hW => Leq_acts (hAM.below hW) (hAX.below hW) (hTr.below hW) l3
    have F4 : Hid (∀ W, Below y5.heap.size y5 W → Calls Tryd.prog 37 #[.agg #[.int .i64 (N : Int), .slice (some ⟨gm, 0, none⟩) K K], .agg #[.int .i64 n2, .slice a2 L2 cap2]] W fun e w' => e = .returned (.bool true) ∧ Below W.heap.size W w') :=
      fun W hW => Leq_acts (hAM.below hW) (hAY.below hW) (hTr.below hW) l4
    have F7 : Hid (∀ W, Below y5.heap.size y5 W → Calls Tryd.prog 37 #[.agg #[.int .i64 n1, .slice a1 L1 cap1], .agg #[.int .i64 n1, .slice a1 L1 cap1]] W fun e w' => e = .returned (.bool true) ∧ Below W.heap.size W w') :=
      fun W hW => Leq_acts (hAX.below hW) (hAX.below hW) (hTr.below hW) l7
    have F5 : Hid (∀ W, Below y5.heap.size y5 W → Calls Tryd.prog 31 #[.agg #[.int .i64 n2, .slice a2 L2 cap2], .agg #[.int .i64 n1, .slice a1 L1 cap1]] W fun e w' => ∃ g, e = .returned (.agg #[.int .i64 (N : Int), .slice (some ⟨g, 0, none⟩) K K]) ∧ Fresh 0 w' g vu ∧ Below W.heap.size W w') := fun W hW =>
      (Union_acts (hAY.below hW) (hAX.below hW) hN21 hK).mono fun e w' ⟨g, he, hF, hb⟩ => ⟨g, he, by rw [e5] at hF; exact hF.base (Nat.zero_le _), hb⟩
    have F5b : Hid (∀ W g, Below y5.heap.size y5 W → Fresh 0 W g vu → Calls Tryd.prog 39 #[.agg #[.int .i64 (N : Int), .slice (some ⟨gu, 0, none⟩) K K], .agg #[.int .i64 (N : Int), .slice (some ⟨g, 0, none⟩) K K]] W fun e w' => e = .returned (.bool true) ∧ Below W.heap.size W w') :=
      fun W g hW hF => Same_acts (hAU.below hW) (Acts.fresh hF okU hK) (by simp)
    have F6a : Hid (∀ W, Below y5.heap.size y5 W → Calls Tryd.prog 31 #[.agg #[.int .i64 (N : Int), .slice (some ⟨gu, 0, none⟩) K K], .agg #[.int .i64 n3, .slice a3 L3 cap3]] W fun e w' => ∃ g, e = .returned (.agg #[.int .i64 (N3 : Int), .slice (some ⟨g, 0, none⟩) K3 K3]) ∧ Fresh 0 w' g va ∧ Below W.heap.size W w') := fun W hW =>
      (Union_acts (hAU.below hW) (hAZ.below hW) hN3 hK3).mono fun e w' ⟨g, he, hF, hb⟩ => ⟨g, he, by rw [hva] at hF; exact hF.base (Nat.zero_le _), hb⟩
    have F6b : Hid (∀ W, Below y5.heap.size y5 W → Calls Tryd.prog 31 #[.agg #[.int .i64 n2, .slice a2 L2 cap2], .agg #[.int .i64 n3, .slice a3 L3 cap3]] W fun e w' => ∃ g, e = .returned (.agg #[.int .i64 (N23 : Int), .slice (some ⟨g, 0, none⟩) K23 K23]) ∧ Fresh 0 w' g vb ∧ Below W.heap.size W w') := fun W hW =>
      (Union_acts (hAY.below hW) (hAZ.below hW) hN23 hK23).mono fun e w' ⟨g, he, hF, hb⟩ => ⟨g, he, by rw [hvb] at hF; exact hF.base (Nat.zero_le _), hb⟩
    have F6c : Hid (∀ W h, Below y5.heap.size y5 W → Fresh 0 W h vb → Calls Tryd.prog 31 #[.agg #[.int .i64 n1, .slice a1 L1 cap1], .agg #[.int .i64 (N23 : Int), .slice (some ⟨h, 0, none⟩) K23 K23]] W fun e w' => ∃ g, e = .returned (.agg #[.int .i64 (N3 : Int), .slice (some ⟨g, 0, none⟩) K3 K3]) ∧ Fresh 0 w' g va ∧ Below W.heap.size W w') := fun W h hW hh =>
      (Union_acts (hAX.below hW) (Acts.fresh hh okb hK23) hN3' hK3).mono fun e w' ⟨g, he, hF, hb⟩ => ⟨g, he, by rw [e6] at hF; exact hF.base (Nat.zero_le _), hb⟩
    have F6d : Hid (∀ W g h, Below y5.heap.size y5 W → Fresh 0 W g va → Fresh 0 W h va → Calls Tryd.prog 39 #[.agg #[.int .i64 (N3 : Int), .slice (some ⟨g, 0, none⟩) K3 K3], .agg #[.int .i64 (N3 : Int), .slice (some ⟨h, 0, none⟩) K3 K3]] W fun e w' => e = .returned (.bool true) ∧ Below W.heap.size W w') :=
      fun W g h hW hF hh => Same_acts (Acts.fresh hF oka hK3) (Acts.fresh hh oka hK3) (by simp)
    have F8u : Hid (∀ W, Below y5.heap.size y5 W → Calls Tryd.prog 26 #[.agg #[.int .i64 (N : Int), .slice (some ⟨gu, 0, none⟩) K K]] W fun e w' => e = .returned (.int .i64 (cu : Int)) ∧ Below W.heap.size W w') :=
      fun W hW => Count_acts (hAU.below hW) (hTr.below hW) hcu
    have F8m : Hid (∀ W, Below y5.heap.size y5 W → Calls Tryd.prog 26 #[.agg #[.int .i64 (N : Int), .slice (some ⟨gm, 0, none⟩) K K]] W fun e w' => e = .returned (.int .i64 (cm : Int)) ∧ Below W.heap.size W w') :=
      fun W hW => Count_acts (hAM.below hW) (hTr.below hW) hcm
    have F8x : Hid (∀ W, Below y5.heap.size y5 W → Calls Tryd.prog 26 #[.agg #[.int .i64 n1, .slice a1 L1 cap1]] W fun e w' => e = .returned (.int .i64 (cx : Int)) ∧ Below W.heap.size W w') :=
      fun W hW => Count_acts (hAX.below hW) (hTr.below hW) hcx
    have F8y : Hid (∀ W, Below y5.heap.size y5 W → Calls Tryd.prog 26 #[.agg #[.int .i64 n2, .slice a2 L2 cap2]] W fun e w' => e = .returned (.int .i64 (cy : Int)) ∧ Below W.heap.size W w') :=
      fun W hW => Count_acts (hAY.below hW) (hTr.below hW) hcy
    have F9a : Hid (∀ W, Below y5.heap.size y5 W → Calls Tryd.prog 33 #[.agg #[.int .i64 n1, .slice a1 L1 cap1], .agg #[.int .i64 n2, .slice a2 L2 cap2]] W fun e w' => ∃ g, e = .returned (.agg #[.int .i64 (N : Int), .slice (some ⟨g, 0, none⟩) K K]) ∧ Fresh 0 w' g vd ∧ Below W.heap.size W w') := fun W hW =>
      (Minus_acts (hAX.below hW) (hAY.below hW) hN hK).mono fun e w' ⟨g, he, hF, hb⟩ => ⟨g, he, by rw [hvd] at hF; exact hF.base (Nat.zero_le _), hb⟩
    have F9b : Hid (∀ W h, Below y5.heap.size y5 W → Fresh 0 W h vd → Calls Tryd.prog 31 #[.agg #[.int .i64 (N : Int), .slice (some ⟨h, 0, none⟩) K K], .agg #[.int .i64 (N : Int), .slice (some ⟨gm, 0, none⟩) K K]] W fun e w' => ∃ g, e = .returned (.agg #[.int .i64 (N : Int), .slice (some ⟨g, 0, none⟩) K K]) ∧ Fresh 0 w' g ve ∧ Below W.heap.size W w') := fun W h hW hh =>
      (Union_acts (Acts.fresh hh okd hK) (hAM.below hW) hNN hK).mono fun e w' ⟨g, he, hF, hb⟩ => ⟨g, he, by rw [hve] at hF; exact hF.base (Nat.zero_le _), hb⟩
    have F9c : Hid (∀ W, Below y5.heap.size y5 W → Calls Tryd.prog 29 #[.int .i64 0] W fun e w' => ∃ g, e = .returned (.agg #[.int .i64 (N0 : Int), .slice (some ⟨g, 0, none⟩) K0 K0]) ∧ Fresh 0 w' g v0 ∧ Below W.heap.size W w') := by
      intro W hW
      subst hN0; subst hv0; subst hK0
      exact (new_any 0 W).mono fun e w' ⟨g, he, hF, hb⟩ => ⟨g, he, hF.base (Nat.zero_le _), hb⟩
    have F9d : Hid (∀ W h, Below y5.heap.size y5 W → Fresh 0 W h v0 → Calls Tryd.prog 35 #[.agg #[.int .i64 n2, .slice a2 L2 cap2], .agg #[.int .i64 (N0 : Int), .slice (some ⟨h, 0, none⟩) K0 K0]] W fun e w' => ∃ g, e = .returned (.agg #[.int .i64 (m2 : Int), .slice (some ⟨g, 0, none⟩) K2 K2]) ∧ Fresh 0 w' g vf ∧ Below W.heap.size W w') := fun W h hW hh =>
      (Meet_acts (hAY.below hW) (Acts.fresh hh ok0 hK0) hN20 hK2).mono fun e w' ⟨g, he, hF, hb⟩ => ⟨g, he, by rw [hvf] at hF; exact hF.base (Nat.zero_le _), hb⟩
    have F9e : Hid (∀ W h, Below y5.heap.size y5 W → Fresh 0 W h vf → Calls Tryd.prog 31 #[.agg #[.int .i64 n1, .slice a1 L1 cap1], .agg #[.int .i64 (m2 : Int), .slice (some ⟨h, 0, none⟩) K2 K2]] W fun e w' => ∃ g, e = .returned (.agg #[.int .i64 (N : Int), .slice (some ⟨g, 0, none⟩) K K]) ∧ Fresh 0 w' g ve ∧ Below W.heap.size W w') := fun W h hW hh =>
      (Union_acts (hAX.below hW) (Acts.fresh hh okf hK2) hN hK).mono fun e w' ⟨g, he, hF, hb⟩ => ⟨g, he, by rw [e9] at hF; exact hF.base (Nat.zero_le _), hb⟩
    have F9f : Hid (∀ W g h, Below y5.heap.size y5 W → Fresh 0 W g ve → Fresh 0 W h ve → Calls Tryd.prog 39 #[.agg #[.int .i64 (N : Int), .slice (some ⟨g, 0, none⟩) K K], .agg #[.int .i64 (N : Int), .slice (some ⟨h, 0, none⟩) K K]] W fun e w' => e = .returned (.bool true) ∧ Below W.heap.size W w') :=
      fun W g h hW hF hh => Same_acts (Acts.fresh hF oke hK) (Acts.fresh hh oke hK) (by simp)
    have hS : Hid (∀ w', Below y5.heap.size y5 w' → w'.cell? ⟨b8, 0, none⟩ = some (.int .i64 n1) ∧ w'.cell? ⟨b8, 1, none⟩ = some (.slice a1 L1 cap1) ∧ w'.cell? ⟨b9, 0, none⟩ = some (.int .i64 n2) ∧ w'.cell? ⟨b9, 1, none⟩ = some (.slice a2 L2 cap2) ∧ w'.cell? ⟨b10, 0, none⟩ = some (.int .i64 n3) ∧ w'.cell? ⟨b10, 1, none⟩ = some (.slice a3 L3 cap3) ∧ w'.cell? ⟨b11, 0, none⟩ = some (.int .i64 (N : Int)) ∧ w'.cell? ⟨b11, 1, none⟩ = some (.slice (some ⟨gu, 0, none⟩) K K) ∧ w'.cell? ⟨b12, 0, none⟩ = some (.int .i64 (N : Int)) ∧ w'.cell? ⟨b12, 1, none⟩ = some (.slice (some ⟨gm, 0, none⟩) K K)) := fun W h =>
      ⟨(h.cell (p := ⟨b8, 0, none⟩) HX.out.lt).trans HX.out.c0, (h.cell (p := ⟨b8, 1, none⟩) HX.out.lt).trans HX.out.c1, (h.cell (p := ⟨b9, 0, none⟩) HY.out.lt).trans HY.out.c0, (h.cell (p := ⟨b9, 1, none⟩) HY.out.lt).trans HY.out.c1, (h.cell (p := ⟨b10, 0, none⟩) HZ.out.lt).trans HZ.out.c0, (h.cell (p := ⟨b10, 1, none⟩) HZ.out.lt).trans HZ.out.c1, (h.cell (p := ⟨b11, 0, none⟩) HU.out.lt).trans HU.out.c0, (h.cell (p := ⟨b11, 1, none⟩) HU.out.lt).trans HU.out.c1, (h.cell (p := ⟨b12, 0, none⟩) HM.out.lt).trans HM.out.c0, (h.cell (p := ⟨b12, 1, none⟩) HM.out.lt).trans HM.out.c1⟩
    have HW0 := HBN
    clear HBN
    have HBN := hBq
    clear hBq hAX hAY hAZ hAU hAM okX okY okZ okU okM hTr hbu hbm hN hK l1 l2 l3 l4 l7 hN21 e5 hN3 hK3 hN23 hK23 hva oka hvb okb hN3' e6 hcu hcm hcx hcy hsum hcx1 hcy1 hvd okd hNN hve oke hN0 hK0 hv0 ok0 hbz hN20 hK2 hvf okf e9
    clear HAX HAY HAZ HAU HAM HOX HOY HOZ HOU HOM HTr HBU HBM HX HY HZ HU HM HVU HVM HN HK
    go_wp2_with fail
    have TT := HBN.out.drew
    clear HBN
    have HBN := Lib.hid TT
    clear TT
    have tok1 : True := trivial
    have tok2 : True := trivial
    have tok3 : True := trivial
    have tok4 : True := trivial
    have tok5 : True := trivial
    have tok6 : True := trivial
    have tok7 : True := trivial
    have tok8 : True := trivial
    have tok9 : True := trivial
    have tok10 : True := trivial
    have tok11 : True := trivial
    have tok12 : True := trivial
    have tok13 : True := trivial
    have tok14 : True := trivial
    have tok15 : True := trivial
    have tok16 : True := trivial
    have tok17 : True := trivial
    have tok18 : True := trivial
    have tok19 : True := trivial
    have tok20 : True := trivial
    have tok21 : True := trivial
    simp only [List.append_eq, List.cons_append, List.nil_append]
    go_region_held3 (fun w' => w'.cell? ⟨b8, 0, none⟩ = some (.int .i64 n1) ∧ w'.cell? ⟨b8, 1, none⟩ = some (.slice a1 L1 cap1) ∧ w'.cell? ⟨b9, 0, none⟩ = some (.int .i64 n2) ∧ w'.cell? ⟨b9, 1, none⟩ = some (.slice a2 L2 cap2) ∧ w'.cell? ⟨b10, 0, none⟩ = some (.int .i64 n3) ∧ w'.cell? ⟨b10, 1, none⟩ = some (.slice a3 L3 cap3) ∧ w'.cell? ⟨b11, 0, none⟩ = some (.int .i64 (N : Int)) ∧ w'.cell? ⟨b11, 1, none⟩ = some (.slice (some ⟨gu, 0, none⟩) K K) ∧ w'.cell? ⟨b12, 0, none⟩ = some (.int .i64 (N : Int)) ∧ w'.cell? ⟨b12, 1, none⟩ = some (.slice (some ⟨gm, 0, none⟩) K K))
      (first | exact hS.out _ HBN.out)
      (first
        | (have _t := tok1; go_at_call 37; refine (F1.out _ HBN.out).mono ?_; clear _t tok1; rintro e wn ⟨rfl, hbn⟩; have hbx := HBN.out.trans (hbn.mono HBN.out.size); clear HBN hbn; have HBN := Lib.hid hbx; clear hbx)
        | (have _t := tok2; go_at_call 37; refine (F2.out _ HBN.out).mono ?_; clear _t tok2; rintro e wn ⟨rfl, hbn⟩; have hbx := HBN.out.trans (hbn.mono HBN.out.size); clear HBN hbn; have HBN := Lib.hid hbx; clear hbx)
        | (have _t := tok3; go_at_call 37; refine (F3.out _ HBN.out).mono ?_; clear _t tok3; rintro e wn ⟨rfl, hbn⟩; have hbx := HBN.out.trans (hbn.mono HBN.out.size); clear HBN hbn; have HBN := Lib.hid hbx; clear hbx)
        | (have _t := tok4; go_at_call 37; refine (F4.out _ HBN.out).mono ?_; clear _t tok4; rintro e wn ⟨rfl, hbn⟩; have hbx := HBN.out.trans (hbn.mono HBN.out.size); clear HBN hbn; have HBN := Lib.hid hbx; clear hbx)
        | (have _t := tok5; go_at_call 31; refine (F5.out _ HBN.out).mono ?_; clear _t tok5; rintro e wn ⟨g5, rfl, hF, hbn⟩; have hbx := HBN.out.trans (hbn.mono HBN.out.size); clear HBN hbn; have HBN := Lib.hid hbx; clear hbx; have Hg5 := Lib.hid hF; clear hF)
        | (have _t := tok6; go_at_call 39; refine (F5b.out _ _ HBN.out Hg5.out).mono ?_; clear _t tok6; rintro e wn ⟨rfl, hbn⟩; have hbx := HBN.out.trans (hbn.mono HBN.out.size); clear HBN hbn; have HBN := Lib.hid hbx; clear hbx)
        | (have _t := tok7; go_at_call 31; refine (F6a.out _ HBN.out).mono ?_; clear _t tok7; rintro e wn ⟨g6a, rfl, hF, hbn⟩; have hbx := HBN.out.trans (hbn.mono HBN.out.size); clear HBN hbn; have HBN := Lib.hid hbx; clear hbx; have Hg6a := Lib.hid hF; clear hF)
        | (have _t := tok8; go_at_call 31; refine (F6b.out _ HBN.out).mono ?_; clear _t tok8; rintro e wn ⟨g6b, rfl, hF, hbn⟩; have hFg6a := Hg6a.out.below hbn Hg6a.out.lt; clear Hg6a; have Hg6a := Lib.hid hFg6a; clear hFg6a; have hbx := HBN.out.trans (hbn.mono HBN.out.size); clear HBN hbn; have HBN := Lib.hid hbx; clear hbx; have Hg6b := Lib.hid hF; clear hF)
        | (have _t := tok9; go_at_call 31; refine (F6c.out _ _ HBN.out Hg6b.out).mono ?_; clear _t tok9; rintro e wn ⟨g6c, rfl, hF, hbn⟩; have hFg6a := Hg6a.out.below hbn Hg6a.out.lt; clear Hg6a; have Hg6a := Lib.hid hFg6a; clear hFg6a; have hbx := HBN.out.trans (hbn.mono HBN.out.size); clear HBN hbn; have HBN := Lib.hid hbx; clear hbx; have Hg6c := Lib.hid hF; clear hF)
        | (have _t := tok10; go_at_call 39; refine (F6d.out _ _ _ HBN.out Hg6a.out Hg6c.out).mono ?_; clear _t tok10; rintro e wn ⟨rfl, hbn⟩; have hbx := HBN.out.trans (hbn.mono HBN.out.size); clear HBN hbn; have HBN := Lib.hid hbx; clear hbx)
        | (have _t := tok11; go_at_call 37; refine (F7.out _ HBN.out).mono ?_; clear _t tok11; rintro e wn ⟨rfl, hbn⟩; have hbx := HBN.out.trans (hbn.mono HBN.out.size); clear HBN hbn; have HBN := Lib.hid hbx; clear hbx)
        | (have _t := tok12; go_at_call 26; refine (F8u.out _ HBN.out).mono ?_; clear _t tok12; rintro e wn ⟨rfl, hbn⟩; have hbx := HBN.out.trans (hbn.mono HBN.out.size); clear HBN hbn; have HBN := Lib.hid hbx; clear hbx)
        | (have _t := tok13; go_at_call 26; refine (F8m.out _ HBN.out).mono ?_; clear _t tok13; rintro e wn ⟨rfl, hbn⟩; have hbx := HBN.out.trans (hbn.mono HBN.out.size); clear HBN hbn; have HBN := Lib.hid hbx; clear hbx)
        | (have _t := tok14; go_at_call 26; refine (F8x.out _ HBN.out).mono ?_; clear _t tok14; rintro e wn ⟨rfl, hbn⟩; have hbx := HBN.out.trans (hbn.mono HBN.out.size); clear HBN hbn; have HBN := Lib.hid hbx; clear hbx)
        | (have _t := tok15; go_at_call 26; refine (F8y.out _ HBN.out).mono ?_; clear _t tok15; rintro e wn ⟨rfl, hbn⟩; have hbx := HBN.out.trans (hbn.mono HBN.out.size); clear HBN hbn; have HBN := Lib.hid hbx; clear hbx)
        | (have _t := tok16; go_at_call 33; refine (F9a.out _ HBN.out).mono ?_; clear _t tok16; rintro e wn ⟨g9a, rfl, hF, hbn⟩; have hbx := HBN.out.trans (hbn.mono HBN.out.size); clear HBN hbn; have HBN := Lib.hid hbx; clear hbx; have Hg9a := Lib.hid hF; clear hF)
        | (have _t := tok17; go_at_call 31; refine (F9b.out _ _ HBN.out Hg9a.out).mono ?_; clear _t tok17; rintro e wn ⟨g9b, rfl, hF, hbn⟩; have hbx := HBN.out.trans (hbn.mono HBN.out.size); clear HBN hbn; have HBN := Lib.hid hbx; clear hbx; have Hg9b := Lib.hid hF; clear hF)
        | (have _t := tok18; go_at_call 29; refine (F9c.out _ HBN.out).mono ?_; clear _t tok18; rintro e wn ⟨g9c, rfl, hF, hbn⟩; have hFg9b := Hg9b.out.below hbn Hg9b.out.lt; clear Hg9b; have Hg9b := Lib.hid hFg9b; clear hFg9b; have hbx := HBN.out.trans (hbn.mono HBN.out.size); clear HBN hbn; have HBN := Lib.hid hbx; clear hbx; have Hg9c := Lib.hid hF; clear hF)
        | (have _t := tok19; go_at_call 35; refine (F9d.out _ _ HBN.out Hg9c.out).mono ?_; clear _t tok19; rintro e wn ⟨g9d, rfl, hF, hbn⟩; have hFg9b := Hg9b.out.below hbn Hg9b.out.lt; clear Hg9b; have Hg9b := Lib.hid hFg9b; clear hFg9b; have hbx := HBN.out.trans (hbn.mono HBN.out.size); clear HBN hbn; have HBN := Lib.hid hbx; clear hbx; have Hg9d := Lib.hid hF; clear hF)
        | (have _t := tok20; go_at_call 31; refine (F9e.out _ _ HBN.out Hg9d.out).mono ?_; clear _t tok20; rintro e wn ⟨g9e, rfl, hF, hbn⟩; have hFg9b := Hg9b.out.below hbn Hg9b.out.lt; clear Hg9b; have Hg9b := Lib.hid hFg9b; clear hFg9b; have hbx := HBN.out.trans (hbn.mono HBN.out.size); clear HBN hbn; have HBN := Lib.hid hbx; clear hbx; have Hg9e := Lib.hid hF; clear hF)
        | (have _t := tok21; go_at_call 39; refine (F9f.out _ _ _ HBN.out Hg9b.out Hg9e.out).mono ?_; clear _t tok21; rintro e wn ⟨rfl, hbn⟩; have hbx := HBN.out.trans (hbn.mono HBN.out.size); clear HBN hbn; have HBN := Lib.hid hbx; clear hbx))
    all_goals
      go_wp2_with fail
      go_ret
      exact ⟨rfl, HW0.out.trans (HBN.out.mono HW0.out.size)⟩
end Go.Proofs.YtjlofjoekpoepaaDoor
