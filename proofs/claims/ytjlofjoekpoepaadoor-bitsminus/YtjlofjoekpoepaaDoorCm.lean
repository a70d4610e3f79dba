import Derived.Test.YtjlofjoekpoepaaDoorCd
namespace Go.Proofs.YtjlofjoekpoepaaDoor
open Go Go.RowKit Go.Sort

set_option maxRecDepth 100000 in
set_option maxHeartbeats 8000000 in
theorem minus_law (n1 : Int) (a1 : Option Addr) (ws1 : List Nat) (cap1 : Nat) (n2 : Int) (a2 : Option Addr) (ws2 : List Nat) (cap2 : Nat) (w : World) (hWd1 : Wd w.heap.size w a1 ws1) (hWB1 : WB ws1) (hWd2 : Wd w.heap.size w a2 ws2) (hWB2 : WB ws2) (hT : Tab w) :
    Calls Tryd.prog 9 #[.agg #[.int .i64 n1, .slice a1 ws1.length cap1], .agg #[.int .i64 n2, .slice a2 ws2.length cap2]] w fun e w' => e = .returned (.bool true) ∧ Below w.heap.size w w' := by
  have hsv1 : SV w (.agg #[.int .i64 n1, .slice a1 ws1.length cap1]) n1 ws1 := ⟨a1, cap1, rfl, hWd1⟩
  have hsv2 : SV w (.agg #[.int .i64 n2, .slice a2 ws2.length cap2]) n2 ws2 := ⟨a2, cap2, rfl, hWd2⟩
  obtain ⟨L1, hL1⟩ : ∃ L, ws1.length = L := ⟨_, rfl⟩
  obtain ⟨L2, hL2⟩ : ∃ L, ws2.length = L := ⟨_, rfl⟩
  rw [hL1] at hsv1 ⊢
  rw [hL2] at hsv2 ⊢
  have hW1 : Below w.heap.size w ((w.alloc (.cells #[.int .i64 n1, .slice a1 L1 cap1] 24)).alloc (.cells #[.int .i64 n2, .slice a2 L2 cap2] 24)) := ((Below.refl _ _).alloc (Nat.le_refl _) _).alloc (by simp) _
  have BA := (Box.new w (.int .i64 n1) (.slice a1 L1 cap1) 24).alloc (.cells #[.int .i64 n2, .slice a2 L2 cap2] 24)
  have BB := Box.new (w.alloc (.cells #[.int .i64 n1, .slice a1 L1 cap1] 24)) (.int .i64 n2) (.slice a2 L2 cap2) 24
  simp only [World.size_alloc] at BB
  generalize hW : (w.alloc (.cells #[.int .i64 n1, .slice a1 L1 cap1] 24)).alloc (.cells #[.int .i64 n2, .slice a2 L2 cap2] 24) = W1 at *
  have HAw := Lib.hid (awake_any W1 (hT.below hW1))
  have HW1 := Lib.hid hW1
  have HSV1 := Lib.hid hsv1
  have HSV2 := Lib.hid hsv2
  have HL1 := Lib.hid hL1
  have HL2 := Lib.hid hL2
  have HT := Lib.hid hT
  clear hsv1 hsv2 hL1 hL2 hT hWd1 hWd2 hW1
  go_enter Tryd.func9, Tryd.ntmps9
  go_wp2_with fail
  refine HAw.out.mono ?_
  clear HAw
  rintro e w1 ⟨rfl, hb1⟩
  have BA1 := BA.below hb1 BA.lt
  have BB1 := BB.below hb1 BB.lt
  have hB1 := HW1.out.trans (hb1.mono HW1.out.size)
  have HB1 := Lib.hid hB1
  obtain ⟨x0, x1, x2, x3⟩ := id BA1
  clear hb1 hB1 hW BA BB HW1
  go_wp2_with fail
  clear x0 x1 x2 x3
  by_cases h30 : L1 ≤ 30
  · have hd : decide ((L1 : Int) ≤ 30) = true := by simp; omega
    refine (few_any n1 a1 L1 cap1 true hd w1).mono ?_
    rintro e w2 ⟨rfl, hb2⟩
    have hB2 := HB1.out.trans (hb2.mono HB1.out.size)
    have BA2 := BA1.below hb2 BA1.lt
    have BB2 := BB1.below hb2 BB1.lt
    have HB2 := Lib.hid hB2
    obtain ⟨y0, y1, _, _⟩ := id BB2
    clear hb2 hB2 BA1 BB1 HB1 hd
    go_wp2_with fail
    clear y0 y1
    by_cases h31 : L2 ≤ 30
    · have hd : decide ((L2 : Int) ≤ 30) = true := by simp; omega
      have hact1 := Acts.raw HSV1.out (by rw [HL1.out]; exact h30) hWB1
      have hact2 := Acts.raw HSV2.out (by rw [HL2.out]; exact h31) hWB2
      refine (few_any n2 a2 L2 cap2 true hd w2).mono ?_
      rintro e w3 ⟨rfl, hb3⟩
      have hB3 := HB2.out.trans (hb3.mono HB2.out.size)
      have BA3 := BA2.below hb3 BA2.lt
      have BB3 := BB2.below hb3 BB2.lt
      have HB3 := Lib.hid hB3
      obtain ⟨y0, y1, _, _⟩ := id BA3
      have HA1 := Lib.hid hact1
      have HA2 := Lib.hid hact2
      generalize nrm n1 ws1 = m1 at *
      generalize nrmW n1 ws1 = v1 at *
      generalize nrm n2 ws2 = m2 at *
      generalize nrmW n2 ws2 = v2 at *
      clear hb3 hB3 BA2 BB2 HB2 hd hact1 hact2 HSV1 HSV2
      go_wp2_with fail
      clear y0 y1
      refine (ours_any n1 a1 L1 cap1 w3).mono ?_
      rintro e w4 ⟨rfl, hb4⟩
      have BB4 := (BB3.below hb4 BB3.lt).alloc (.cells #[.int .i64 n1, .slice a1 L1 cap1] 28)
      have BX4 := Box.new w4 (.int .i64 n1) (.slice a1 L1 cap1) 28
      have hA4 := (Below.refl w4.heap.size w4).alloc (Nat.le_refl _) (.cells #[.int .i64 n1, .slice a1 L1 cap1] 28)
      have hB4 := HB3.out.trans (hb4.mono HB3.out.size)
      have HB4 := Lib.hid (hB4.trans (hA4.mono hB4.size))
      have HBB4 := Lib.hid BB4
      have HBX4 := Lib.hid BX4
      obtain ⟨y0, y1, _, _⟩ := id BB4
      clear hb4 hA4 hB4 BA3 BB3 HB3 BB4 BX4
      go_wp2_with fail
      clear y0 y1
      obtain ⟨b6, hb6⟩ : ∃ b6, w4.heap.size = b6 := ⟨_, rfl⟩
      rw [hb6]
      rw [hb6] at HBX4
      clear hb6
      have BX5 := HBX4.out
      have hB5 := HB4.out
      generalize w4.alloc (.cells #[.int .i64 n1, .slice a1 L1 cap1] 28) = W5 at *
      clear HBX4 HB4 HBB4
      refine (ours_any n2 a2 L2 cap2 W5).mono ?_
      rintro e w6 ⟨rfl, hb6⟩
      have BX6 := (BX5.below hb6 BX5.lt).alloc (.cells #[.int .i64 n2, .slice a2 L2 cap2] 28)
      have BY6 := Box.new w6 (.int .i64 n2) (.slice a2 L2 cap2) 28
      have hA6 := (Below.refl w6.heap.size w6).alloc (Nat.le_refl _) (.cells #[.int .i64 n2, .slice a2 L2 cap2] 28)
      have hB6 := hB5.trans (hb6.mono hB5.size)
      have HB6 := Lib.hid (hB6.trans (hA6.mono hB6.size))
      have HBX6 := Lib.hid BX6
      have HBY6 := Lib.hid BY6
      obtain ⟨y0, y1, _, _⟩ := id BX6
      obtain ⟨z0, z1, _, _⟩ := id BY6
      clear hb6 hA6 hB6 BX5 hB5 BX6 BY6
      go_wp2_with fail
      clear y0 y1 z0 z1
      obtain ⟨b7, hb7⟩ : ∃ b7, w6.heap.size = b7 := ⟨_, rfl⟩
      rw [hb7]
      rw [hb7] at HBY6
      clear hb7
      have BX7 := HBX6.out
      have BY7 := HBY6.out
      have hB7 := HB6.out
      generalize w6.alloc (.cells #[.int .i64 n2, .slice a2 L2 cap2] 28) = W7 at *
      clear HBX6 HBY6 HB6
      have hac1 := HA1.out.below hB7
      have hac2 := HA2.out.below hB7
      obtain ⟨N, hN⟩ : ∃ N, max m1 m2 = N := ⟨_, rfl⟩
      obtain ⟨K, hK⟩ : ∃ K, wcount N = K := ⟨_, rfl⟩
      refine (Minus_acts hac1 hac2 hN hK).mono ?_
      rintro e w8 ⟨gm, rfl, hFm, hb8⟩
      have HN := Lib.hid hN
      have HK := Lib.hid hK
      have hokm := hac1.ok.minus hac2.ok
      rw [hN] at hokm
      have hA8 := (Below.refl w8.heap.size w8).alloc (Nat.le_refl _) (.cells #[.int .i64 (N : Int), .slice (some ⟨gm, 0, none⟩) K K] 28)
      have hactm := (Acts.fresh hFm hokm hK).below hA8
      have BX9 := (BX7.below hb8 BX7.lt).alloc (.cells #[.int .i64 (N : Int), .slice (some ⟨gm, 0, none⟩) K K] 28)
      have BY9 := (BY7.below hb8 BY7.lt).alloc (.cells #[.int .i64 (N : Int), .slice (some ⟨gm, 0, none⟩) K K] 28)
      have BM9 := Box.new w8 (.int .i64 (N : Int)) (.slice (some ⟨gm, 0, none⟩) K K) 28
      have hB8 := hB7.trans (hb8.mono hB7.size)
      have hB9 := hB8.trans (hA8.mono hB8.size)
      have hac19 := (hac1.below hb8).below hA8
      have hac29 := (hac2.below hb8).below hA8
      have HBX9 := Lib.hid BX9
      have HBY9 := Lib.hid BY9
      have HBM9 := Lib.hid BM9
      have HB9 := Lib.hid hB9
      have HAm := Lib.hid hactm
      have HAx := Lib.hid hac19
      have HAy := Lib.hid hac29
      clear hb8 hFm hN hK hokm hA8 hactm BX9 BY9 BM9 hB8 hB9 hac19 hac29 hac1 hac2 BX7 BY7 hB7 HA1 HA2
      go_wp2_with fail
      obtain ⟨b8, hb8⟩ : ∃ b8, w8.heap.size = b8 := ⟨_, rfl⟩
      rw [hb8]
      rw [hb8] at HBM9
      clear hb8
      have BX := HBX9.out
      have BY := HBY9.out
      have BM := HBM9.out
      have hB9 := HB9.out
      have hAm := HAm.out
      have hAx := HAx.out
      have hAy := HAy.out
      generalize w8.alloc (.cells #[.int .i64 (N : Int), .slice (some ⟨gm, 0, none⟩) K K] 28) = wr at *
      clear HBX9 HBY9 HBM9 HB9 HAm HAx HAy
      have hTr := HT.out.below hB9
      obtain ⟨vm, hvm⟩ : ∃ vm, joinW minusN m1 m2 v1 v2 = vm := ⟨_, rfl⟩
      rw [hvm] at hAm
      have ok1 := hAx.ok
      have ok2 := hAy.ok
      have okm := hAm.ok
      have hNm : max N m2 = N := by have := HN.out; omega
      have hN21 : max m2 m1 = N := by have := HN.out; omega
      have e1 : joinW minusN N m2 vm v2 = vm := by
        have o := okm.minus ok2
        rw [hNm] at o
        apply o.ext okm
        intro i _
        rw [bit_minus okm ok2, ← hvm, bit_minus ok1 ok2]
        cases bitAt v1 i <;> cases bitAt v2 i <;> rfl
      obtain ⟨vmm, hvmm⟩ : ∃ vmm, joinW andN N m2 vm v2 = vmm := ⟨_, rfl⟩
      have okmm : Ok N vmm := by have o := okm.meet ok2; rw [hNm, hvmm] at o; exact o
      have cmm : (nums vmm).length = 0 := by
        rw [count_zero_iff okmm]
        intro i
        rw [← hvmm, bit_meet okm ok2, ← hvm, bit_minus ok1 ok2]
        cases bitAt v1 i <;> cases bitAt v2 i <;> rfl
      obtain ⟨vz, hvz⟩ : ∃ vz, joinW andN m1 m2 v1 v2 = vz := ⟨_, rfl⟩
      have okz : Ok N vz := by have o := ok1.meet ok2; rw [HN.out, hvz] at o; exact o
      have e14 : joinW andN m2 m1 v2 v1 = vz := by
        have o := ok2.meet ok1
        rw [hN21] at o
        apply o.ext okz
        intro i _
        rw [bit_meet ok2 ok1, ← hvz, bit_meet ok1 ok2, Bool.and_comm]
      obtain ⟨vu, hvu⟩ : ∃ vu, joinW orN N m2 vm v2 = vu := ⟨_, rfl⟩
      have oku : Ok N vu := by have o := okm.union ok2; rw [hNm, hvu] at o; exact o
      have lu : leqB v1 N vu = true := by
        rw [leq_iff oku]
        intro i hi
        rw [← hvu, bit_union okm ok2, ← hvm, bit_minus ok1 ok2, hi]
        cases bitAt v2 i <;> rfl
      obtain ⟨cm, hcm⟩ : ∃ cm, (nums vm).length = cm := ⟨_, rfl⟩
      obtain ⟨cx, hcx⟩ : ∃ cx, (nums v1).length = cx := ⟨_, rfl⟩
      obtain ⟨cz, hcz⟩ : ∃ cz, (nums vz).length = cz := ⟨_, rfl⟩
      have hsum : cx = cz + cm := by
        have hle : m1 ≤ N := by have := HN.out; omega
        rw [← hcx, ← hcz, ← hcm, count_eq ok1 hle, count_eq okz (Nat.le_refl _), count_eq okm (Nat.le_refl _)]
        rw [filter_split (fun i => bitAt v1 i) (fun i => bitAt v2 i)]
        congr 2
        · apply List.filter_congr; intro i _; rw [← hvz, bit_meet ok1 ok2]
        · apply List.filter_congr; intro i _; rw [← hvm, bit_minus ok1 ok2]
      have hcx1024 : cx ≤ 1024 := by rw [← hcx]; have := count_le ok1; have := ok1.le; omega
      obtain ⟨lq, hlq⟩ : ∃ lq, leqB v1 m2 v2 = lq := ⟨_, rfl⟩
      have hlz : lq = decide (cm = 0) := by
        rw [← hlq, Bool.eq_iff_iff, leq_iff ok2, decide_eq_true_eq, ← hcm, count_zero_iff okm]
        constructor
        · intro h i
          rw [← hvm, bit_minus ok1 ok2]
          cases hb : bitAt v1 i with
          | false => rfl
          | true => rw [h i hb]; rfl
        · intro h i hi
          have := h i
          rw [← hvm, bit_minus ok1 ok2, hi] at this
          simpa using this
      have F1 : Hid (∀ W, Below wr.heap.size wr W → Calls Tryd.prog 33 #[.agg #[.int .i64 (N : Int), .slice (some ⟨gm, 0, none⟩) K K], .agg #[.int .i64 n2, .slice a2 L2 cap2]] W fun e w' => ∃ g, e = .returned (.agg #[.int .i64 (N : Int), .slice (some ⟨g, 0, none⟩) K K]) ∧ Fresh 0 w' g vm ∧ Below W.heap.size W w') := fun W hW =>
        (Minus_acts (hAm.below hW) (hAy.below hW) hNm HK.out).mono fun e w' ⟨g, he, hF, hb⟩ => ⟨g, he, by rw [e1] at hF; exact hF.base (Nat.zero_le _), hb⟩
      have F3 : Hid (∀ W, Below wr.heap.size wr W → Calls Tryd.prog 35 #[.agg #[.int .i64 (N : Int), .slice (some ⟨gm, 0, none⟩) K K], .agg #[.int .i64 n2, .slice a2 L2 cap2]] W fun e w' => ∃ g, e = .returned (.agg #[.int .i64 (N : Int), .slice (some ⟨g, 0, none⟩) K K]) ∧ Fresh 0 w' g vmm ∧ Below W.heap.size W w') := fun W hW =>
        (Meet_acts (hAm.below hW) (hAy.below hW) hNm HK.out).mono fun e w' ⟨g, he, hF, hb⟩ => ⟨g, he, by rw [hvmm] at hF; exact hF.base (Nat.zero_le _), hb⟩
      have F9 : Hid (∀ W, Below wr.heap.size wr W → Calls Tryd.prog 35 #[.agg #[.int .i64 n1, .slice a1 L1 cap1], .agg #[.int .i64 n2, .slice a2 L2 cap2]] W fun e w' => ∃ g, e = .returned (.agg #[.int .i64 (N : Int), .slice (some ⟨g, 0, none⟩) K K]) ∧ Fresh 0 w' g vz ∧ Below W.heap.size W w') := fun W hW =>
        (Meet_acts (hAx.below hW) (hAy.below hW) HN.out HK.out).mono fun e w' ⟨g, he, hF, hb⟩ => ⟨g, he, by rw [hvz] at hF; exact hF.base (Nat.zero_le _), hb⟩
      have F11 : Hid (∀ W, Below wr.heap.size wr W → Calls Tryd.prog 31 #[.agg #[.int .i64 (N : Int), .slice (some ⟨gm, 0, none⟩) K K], .agg #[.int .i64 n2, .slice a2 L2 cap2]] W fun e w' => ∃ g, e = .returned (.agg #[.int .i64 (N : Int), .slice (some ⟨g, 0, none⟩) K K]) ∧ Fresh 0 w' g vu ∧ Below W.heap.size W w') := fun W hW =>
        (Union_acts (hAm.below hW) (hAy.below hW) hNm HK.out).mono fun e w' ⟨g, he, hF, hb⟩ => ⟨g, he, by rw [hvu] at hF; exact hF.base (Nat.zero_le _), hb⟩
      have F14 : Hid (∀ W, Below wr.heap.size wr W → Calls Tryd.prog 35 #[.agg #[.int .i64 n2, .slice a2 L2 cap2], .agg #[.int .i64 n1, .slice a1 L1 cap1]] W fun e w' => ∃ g, e = .returned (.agg #[.int .i64 (N : Int), .slice (some ⟨g, 0, none⟩) K K]) ∧ Fresh 0 w' g vz ∧ Below W.heap.size W w') := fun W hW =>
        (Meet_acts (hAy.below hW) (hAx.below hW) hN21 HK.out).mono fun e w' ⟨g, he, hF, hb⟩ => ⟨g, he, by rw [e14] at hF; exact hF.base (Nat.zero_le _), hb⟩
      have F2 : Hid (∀ W g, Below wr.heap.size wr W → Fresh 0 W g vm → Calls Tryd.prog 39 #[.agg #[.int .i64 (N : Int), .slice (some ⟨g, 0, none⟩) K K], .agg #[.int .i64 (N : Int), .slice (some ⟨gm, 0, none⟩) K K]] W fun e w' => e = .returned (.bool true) ∧ Below W.heap.size W w') := fun W g hW hF =>
        Same_acts (Acts.fresh hF okm HK.out) (hAm.below hW) (by simp)
      have F4 : Hid (∀ W g, Below wr.heap.size wr W → Fresh 0 W g vmm → Calls Tryd.prog 26 #[.agg #[.int .i64 (N : Int), .slice (some ⟨g, 0, none⟩) K K]] W fun e w' => e = .returned (.int .i64 ((0 : Nat) : Int)) ∧ Below W.heap.size W w') := fun W g hW hF =>
        Count_acts (Acts.fresh hF okmm HK.out) (hTr.below hW) cmm
      have F5 : Hid (∀ W, Below wr.heap.size wr W → Calls Tryd.prog 37 #[.agg #[.int .i64 n1, .slice a1 L1 cap1], .agg #[.int .i64 n2, .slice a2 L2 cap2]] W fun e w' => e = .returned (.bool lq) ∧ Below W.heap.size W w') := fun W hW =>
        Leq_acts (hAx.below hW) (hAy.below hW) (hTr.below hW) hlq
      have F6 : Hid (∀ W, Below wr.heap.size wr W → Calls Tryd.prog 26 #[.agg #[.int .i64 (N : Int), .slice (some ⟨gm, 0, none⟩) K K]] W fun e w' => e = .returned (.int .i64 (cm : Int)) ∧ Below W.heap.size W w') := fun W hW =>
        Count_acts (hAm.below hW) (hTr.below hW) hcm
      have F8 : Hid (∀ W, Below wr.heap.size wr W → Calls Tryd.prog 26 #[.agg #[.int .i64 n1, .slice a1 L1 cap1]] W fun e w' => e = .returned (.int .i64 (cx : Int)) ∧ Below W.heap.size W w') := fun W hW =>
        Count_acts (hAx.below hW) (hTr.below hW) hcx
      have F10 : Hid (∀ W g, Below wr.heap.size wr W → Fresh 0 W g vz → Calls Tryd.prog 26 #[.agg #[.int .i64 (N : Int), .slice (some ⟨g, 0, none⟩) K K]] W fun e w' => e = .returned (.int .i64 (cz : Int)) ∧ Below W.heap.size W w') := fun W g hW hF =>
        Count_acts (Acts.fresh hF okz HK.out) (hTr.below hW) hcz
      have F12 : Hid (∀ W g, Below wr.heap.size wr W → Fresh 0 W g vu → Calls Tryd.prog 37 #[.agg #[.int .i64 n1, .slice a1 L1 cap1], .agg #[.int .i64 (N : Int), .slice (some ⟨g, 0, none⟩) K K]] W fun e w' => e = .returned (.bool true) ∧ Below W.heap.size W w') := fun W g hW hF =>
        Leq_acts (hAx.below hW) (Acts.fresh hF oku HK.out) (hTr.below hW) lu
      have F15 : Hid (∀ W g g', Below wr.heap.size wr W → Fresh 0 W g vz → Fresh 0 W g' vz → Calls Tryd.prog 39 #[.agg #[.int .i64 (N : Int), .slice (some ⟨g, 0, none⟩) K K], .agg #[.int .i64 (N : Int), .slice (some ⟨g', 0, none⟩) K K]] W fun e w' => e = .returned (.bool true) ∧ Below W.heap.size W w') := fun W g g' hW hF hF' =>
        Same_acts (Acts.fresh hF okz HK.out) (Acts.fresh hF' okz HK.out) (by simp)
      have hS : Hid (∀ w', Below wr.heap.size wr w' → w'.cell? ⟨b6, 0, none⟩ = some (.int .i64 n1) ∧ w'.cell? ⟨b6, 1, none⟩ = some (.slice a1 L1 cap1) ∧ w'.cell? ⟨b7, 0, none⟩ = some (.int .i64 n2) ∧ w'.cell? ⟨b7, 1, none⟩ = some (.slice a2 L2 cap2) ∧ w'.cell? ⟨b8, 0, none⟩ = some (.int .i64 (N : Int)) ∧ w'.cell? ⟨b8, 1, none⟩ = some (.slice (some ⟨gm, 0, none⟩) K K)) := fun W h =>
        ⟨(h.cell (p := ⟨b6, 0, none⟩) BX.lt).trans BX.c0, (h.cell (p := ⟨b6, 1, none⟩) BX.lt).trans BX.c1, (h.cell (p := ⟨b7, 0, none⟩) BY.lt).trans BY.c0, (h.cell (p := ⟨b7, 1, none⟩) BY.lt).trans BY.c1, (h.cell (p := ⟨b8, 0, none⟩) BM.lt).trans BM.c0, (h.cell (p := ⟨b8, 1, none⟩) BM.lt).trans BM.c1⟩
      have HBN : Hid (Below wr.heap.size wr wr.drew) := (Below.refl _ _).drew
      have HB9 := Lib.hid hB9
      have g0 : (((0 : Nat) : Int) == 0) = true := rfl
      have g1 : ((cm : Int) == 0) = lq := by rw [hlz, Bool.eq_iff_iff]; simp
      have g2 : (lq == lq) = true := by simp
      have g3 : IntKind.i64.wrap ((cx : Int) - (cz : Int)) = (cm : Int) := by rw [IntKind.wrap_i64]; omega
      have g4 : ((cm : Int) == (cm : Int)) = true := by simp
      clear hAx hAy hAm ok1 ok2 okm hNm hN21 e1 hvmm okmm cmm hvz okz e14 hvu oku lu hcm hcx hcz hsum hcx1024 hlq hlz hTr hB9 hvm
      have tok1 : True := trivial
      have tok2 : True := trivial
      have tok3 : True := trivial
      have tok4 : True := trivial
      have tok5 : True := trivial
      have tok6 : True := trivial
      have tok7 : True := trivial
      have tok8 : True := trivial
      have tok9 : True := trivial
      have tok10 : True := trivial
      have tok11 : True := trivial
      have tok12 : True := trivial
      have tok13 : True := trivial
      have tok14 : True := trivial
      have tok15 : True := trivial
      go_region_held3 (fun w' => w'.cell? ⟨b6, 0, none⟩ = some (.int .i64 n1) ∧ w'.cell? ⟨b6, 1, none⟩ = some (.slice a1 L1 cap1) ∧ w'.cell? ⟨b7, 0, none⟩ = some (.int .i64 n2) ∧ w'.cell? ⟨b7, 1, none⟩ = some (.slice a2 L2 cap2) ∧ w'.cell? ⟨b8, 0, none⟩ = some (.int .i64 (N : Int)) ∧ w'.cell? ⟨b8, 1, none⟩ = some (.slice (some ⟨gm, 0, none⟩) K K))
        (first | exact hS.out _ HBN.out)
        (first
          | (have _t := tok1; go_at_call 33; refine (F1.out _ HBN.out).mono ?_; clear _t tok1; rintro e wn ⟨g1, rfl, hF, hbn⟩; have hbx := HBN.out.trans (hbn.mono HBN.out.size); clear HBN hbn; have HBN := Lib.hid hbx; clear hbx; have Hg1 := Lib.hid hF; clear hF)
          | (have _t := tok2; go_at_call 39; refine (F2.out _ _ HBN.out Hg1.out).mono ?_; clear _t tok2; rintro e wn ⟨rfl, hbn⟩; have hbx := HBN.out.trans (hbn.mono HBN.out.size); clear HBN hbn; have HBN := Lib.hid hbx; clear hbx)
          | (have _t := tok3; go_at_call 35; refine (F3.out _ HBN.out).mono ?_; clear _t tok3; rintro e wn ⟨g3, rfl, hF, hbn⟩; have hbx := HBN.out.trans (hbn.mono HBN.out.size); clear HBN hbn; have HBN := Lib.hid hbx; clear hbx; have Hg3 := Lib.hid hF; clear hF)
          | (have _t := tok4; go_at_call 26; refine (F4.out _ _ HBN.out Hg3.out).mono ?_; clear _t tok4; rintro e wn ⟨rfl, hbn⟩; have hbx := HBN.out.trans (hbn.mono HBN.out.size); clear HBN hbn; have HBN := Lib.hid hbx; clear hbx)
          | (have _t := tok5; go_at_call 37; refine (F5.out _ HBN.out).mono ?_; clear _t tok5; rintro e wn ⟨rfl, hbn⟩; have hbx := HBN.out.trans (hbn.mono HBN.out.size); clear HBN hbn; have HBN := Lib.hid hbx; clear hbx)
          | (have _t := tok6; go_at_call 26; refine (F6.out _ HBN.out).mono ?_; clear _t tok6; rintro e wn ⟨rfl, hbn⟩; have hbx := HBN.out.trans (hbn.mono HBN.out.size); clear HBN hbn; have HBN := Lib.hid hbx; clear hbx)
          | (have _t := tok7; go_at_call 26; refine (F6.out _ HBN.out).mono ?_; clear _t tok7; rintro e wn ⟨rfl, hbn⟩; have hbx := HBN.out.trans (hbn.mono HBN.out.size); clear HBN hbn; have HBN := Lib.hid hbx; clear hbx)
          | (have _t := tok8; go_at_call 26; refine (F8.out _ HBN.out).mono ?_; clear _t tok8; rintro e wn ⟨rfl, hbn⟩; have hbx := HBN.out.trans (hbn.mono HBN.out.size); clear HBN hbn; have HBN := Lib.hid hbx; clear hbx)
          | (have _t := tok9; go_at_call 35; refine (F9.out _ HBN.out).mono ?_; clear _t tok9; rintro e wn ⟨g9, rfl, hF, hbn⟩; have hbx := HBN.out.trans (hbn.mono HBN.out.size); clear HBN hbn; have HBN := Lib.hid hbx; clear hbx; have Hg9 := Lib.hid hF; clear hF)
          | (have _t := tok10; go_at_call 26; refine (F10.out _ _ HBN.out Hg9.out).mono ?_; clear _t tok10; rintro e wn ⟨rfl, hbn⟩; have hbx := HBN.out.trans (hbn.mono HBN.out.size); clear HBN hbn; have HBN := Lib.hid hbx; clear hbx)
          | (have _t := tok11; go_at_call 31; refine (F11.out _ HBN.out).mono ?_; clear _t tok11; rintro e wn ⟨g11, rfl, hF, hbn⟩; have hbx := HBN.out.trans (hbn.mono HBN.out.size); clear HBN hbn; have HBN := Lib.hid hbx; clear hbx; have Hg11 := Lib.hid hF; clear hF)
          | (have _t := tok12; go_at_call 37; refine (F12.out _ _ HBN.out Hg11.out).mono ?_; clear _t tok12; rintro e wn ⟨rfl, hbn⟩; have hbx := HBN.out.trans (hbn.mono HBN.out.size); clear HBN hbn; have HBN := Lib.hid hbx; clear hbx)
          | (have _t := tok13; go_at_call 35; refine (F9.out _ HBN.out).mono ?_; clear _t tok13; rintro e wn ⟨g13, rfl, hF, hbn⟩; have hbx := HBN.out.trans (hbn.mono HBN.out.size); clear HBN hbn; have HBN := Lib.hid hbx; clear hbx; have Hg13 := Lib.hid hF; clear hF)
          | (have _t := tok14; go_at_call 35; refine (F14.out _ HBN.out).mono ?_; clear _t tok14; rintro e wn ⟨g14, rfl, hF, hbn⟩; have hF13 := Hg13.out.below hbn Hg13.out.lt; clear Hg13; have Hg13 := Lib.hid hF13; clear hF13; have hbx := HBN.out.trans (hbn.mono HBN.out.size); clear HBN hbn; have HBN := Lib.hid hbx; clear hbx; have Hg14 := Lib.hid hF; clear hF)
          | (have _t := tok15; go_at_call 39; refine (F15.out _ _ _ HBN.out Hg13.out Hg14.out).mono ?_; clear _t tok15; rintro e wn ⟨rfl, hbn⟩; have hbx := HBN.out.trans (hbn.mono HBN.out.size); clear HBN hbn; have HBN := Lib.hid hbx; clear hbx))
      all_goals
        go_wp2_with fail
        go_ret
        exact ⟨rfl, HB9.out.trans (HBN.out.mono HB9.out.size)⟩
    · have hd : decide ((L2 : Int) ≤ 30) = false := by simp; omega
      refine (few_any n2 a2 L2 cap2 false hd w2).mono ?_
      rintro e w3 ⟨rfl, hb3⟩
      have HB3 := Lib.hid (HB2.out.trans (hb3.mono HB2.out.size))
      clear hb3
      go_wp2
      go_ret
      exact ⟨rfl, HB3.out⟩
  · have hd : decide ((L1 : Int) ≤ 30) = false := by simp; omega
    refine (few_any n1 a1 L1 cap1 false hd w1).mono ?_
    rintro e w2 ⟨rfl, hb2⟩
    have HB2 := Lib.hid (HB1.out.trans (hb2.mono HB1.out.size))
    clear hb2
    go_wp2
    go_ret
    exact ⟨rfl, HB2.out⟩
end Go.Proofs.YtjlofjoekpoepaaDoor
