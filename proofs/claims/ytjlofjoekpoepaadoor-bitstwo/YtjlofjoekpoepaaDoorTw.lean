import Derived.Test.YtjlofjoekpoepaaDoorCd
import Derived.Test.YtjlofjoekpoepaaDoorRi
import Derived.Test.YtjlofjoekpoepaaDoorRe
namespace Go.Proofs.YtjlofjoekpoepaaDoor
open Go Go.RowKit Go.Sort

theorem Equal_fresh {n0 n0' : Nat} {W : World} {g g' N K : Nat} {ws : List Nat} (h : Fresh n0 W g ws) (h' : Fresh n0' W g' ws) (hok : Ok N ws) (hK : wcount N = K) :
    Calls Tryd.prog 18 #[.agg #[.int .i64 (N : Int), .slice (some ⟨g, 0, none⟩) K K], .agg #[.int .i64 (N : Int), .slice (some ⟨g', 0, none⟩) K K]] W fun e w' => e = .returned (.bool true) ∧ Below W.heap.size W w' := by
  have e := Equal_ref (N : Int) (N : Int) (some ⟨g, 0, none⟩) (some ⟨g', 0, none⟩) ws ws K K W h.wd h'.wd (by have := hok.len16; omega)
  rw [hok.len, hK, show decide ((N : Int) = (N : Int) ∧ ws = ws) = true by simp] at e
  exact e

set_option maxRecDepth 100000 in
set_option maxHeartbeats 8000000 in
theorem two_law (n1 : Int) (a1 : Option Addr) (ws1 : List Nat) (cap1 : Nat) (n2 : Int) (a2 : Option Addr) (ws2 : List Nat) (cap2 : Nat) (w : World) (hWd1 : Wd w.heap.size w a1 ws1) (hWB1 : WB ws1) (hWd2 : Wd w.heap.size w a2 ws2) (hWB2 : WB ws2) (hT : Tab w) :
    Calls Tryd.prog 4 #[.agg #[.int .i64 n1, .slice a1 ws1.length cap1], .agg #[.int .i64 n2, .slice a2 ws2.length cap2]] w fun e w' => e = .returned (.bool true) ∧ Below w.heap.size w w' := by
  have hsv1 : SV w (.agg #[.int .i64 n1, .slice a1 ws1.length cap1]) n1 ws1 := ⟨a1, cap1, rfl, hWd1⟩
  have hsv2 : SV w (.agg #[.int .i64 n2, .slice a2 ws2.length cap2]) n2 ws2 := ⟨a2, cap2, rfl, hWd2⟩
  obtain ⟨L1, hL1⟩ : ∃ L, ws1.length = L := ⟨_, rfl⟩
  obtain ⟨L2, hL2⟩ : ∃ L, ws2.length = L := ⟨_, rfl⟩
  rw [hL1] at hsv1 ⊢
  rw [hL2] at hsv2 ⊢
  have hW1 : Below w.heap.size w ((w.alloc (.cells #[.int .i64 n1, .slice a1 L1 cap1] 24)).alloc (.cells #[.int .i64 n2, .slice a2 L2 cap2] 24)) := ((Below.refl _ _).alloc (Nat.le_refl _) _).alloc (by simp) _
  have BA := (Box.new w (.int .i64 n1) (.slice a1 L1 cap1) 24).alloc (.cells #[.int .i64 n2, .slice a2 L2 cap2] 24)
  have BB := Box.new (w.alloc (.cells #[.int .i64 n1, .slice a1 L1 cap1] 24)) (.int .i64 n2) (.slice a2 L2 cap2) 24
  simp only [World.size_alloc] at BB
  generalize hW : (w.alloc (.cells #[.int .i64 n1, .slice a1 L1 cap1] 24)).alloc (.cells #[.int .i64 n2, .slice a2 L2 cap2] 24) = W1 at *
  have HAw := Lib.hid (awake_any W1 (hT.below hW1))
  have HBN := Lib.hid hW1
  have HA := Lib.hid BA
  have HB := Lib.hid BB
  have HSV1 := Lib.hid hsv1
  have HL1 := Lib.hid hL1
  have HSV2 := Lib.hid hsv2
  have HL2 := Lib.hid hL2
  have HT := Lib.hid hT
  clear hsv1 hsv2 hL1 hL2 hT hWd1 hWd2 hW1 BA BB
  go_enter Tryd.func4, Tryd.ntmps4
  go_wp2_with fail
  refine HAw.out.mono ?_
  clear HAw hW
  rintro e w1 ⟨rfl, hb⟩
  have TT := HA.out.below hb HA.out.lt
  clear HA
  have HA := Lib.hid TT
  clear TT
  have TT := HB.out.below hb HB.out.lt
  clear HB
  have HB := Lib.hid TT
  clear TT
  have TT := HBN.out.trans (hb.mono HBN.out.size)
  clear HBN
  have HBN := Lib.hid TT
  clear TT hb
  obtain ⟨cA0, cA1, -, -⟩ := id HA.out
  go_wp2_with fail
  clear cA0 cA1
  by_cases h31 : L1 ≤ 30
  rotate_left
  · have hd : decide ((L1 : Int) ≤ 30) = false := by simp; omega
    refine (few_any n1 a1 L1 cap1 false hd w1).mono ?_
    rintro e wq ⟨rfl, hbq⟩
    have HB3 := Lib.hid (HBN.out.trans (hbq.mono HBN.out.size))
    clear hbq hd HBN HA HB
    go_wp2
    go_ret
    exact ⟨rfl, HB3.out⟩
  have hd : decide ((L1 : Int) ≤ 30) = true := by simp; omega
  refine (few_any n1 a1 L1 cap1 true hd w1).mono ?_
  rintro e w2 ⟨rfl, hb⟩
  clear hd
  have TT := HA.out.below hb HA.out.lt
  clear HA
  have HA := Lib.hid TT
  clear TT
  have TT := HB.out.below hb HB.out.lt
  clear HB
  have HB := Lib.hid TT
  clear TT
  have TT := HBN.out.trans (hb.mono HBN.out.size)
  clear HBN
  have HBN := Lib.hid TT
  clear TT hb
  obtain ⟨cB0, cB1, -, -⟩ := id HB.out
  go_wp2_with fail
  clear cB0 cB1
  by_cases h32 : L2 ≤ 30
  rotate_left
  · have hd : decide ((L2 : Int) ≤ 30) = false := by simp; omega
    refine (few_any n2 a2 L2 cap2 false hd w2).mono ?_
    rintro e wq ⟨rfl, hbq⟩
    have HB3 := Lib.hid (HBN.out.trans (hbq.mono HBN.out.size))
    clear hbq hd HBN HA HB
    go_wp2
    go_ret
    exact ⟨rfl, HB3.out⟩
  have hd : decide ((L2 : Int) ≤ 30) = true := by simp; omega
  refine (few_any n2 a2 L2 cap2 true hd w2).mono ?_
  rintro e w3 ⟨rfl, hb⟩
  clear hd
  have TT := HA.out.below hb HA.out.lt
  clear HA
  have HA := Lib.hid TT
  clear TT
  have TT := HB.out.below hb HB.out.lt
  clear HB
  have HB := Lib.hid TT
  clear TT
  have TT := HBN.out.trans (hb.mono HBN.out.size)
  clear HBN
  have HBN := Lib.hid TT
  clear TT hb
  have HA1 := Lib.hid (Acts.raw HSV1.out (by rw [HL1.out]; exact h31) hWB1)
  have HA2 := Lib.hid (Acts.raw HSV2.out (by rw [HL2.out]; exact h32) hWB2)
  generalize nrm n1 ws1 = m1 at *
  generalize nrmW n1 ws1 = v1 at *
  generalize nrm n2 ws2 = m2 at *
  generalize nrmW n2 ws2 = v2 at *
  clear HSV1 HSV2 HL1 HL2
  obtain ⟨cA0, cA1, -, -⟩ := id HA.out
  go_wp2_with fail
  clear cA0 cA1
  refine (ours_any n1 a1 L1 cap1 _).mono ?_
  rintro e u1 ⟨rfl, hb⟩
  have TT := HA.out.below hb HA.out.lt
  clear HA
  have HA := Lib.hid TT
  clear TT
  have TT := HB.out.below hb HB.out.lt
  clear HB
  have HB := Lib.hid TT
  clear TT
  have TT := HBN.out.trans (hb.mono HBN.out.size)
  clear HBN
  have HBN := Lib.hid TT
  clear TT hb
  have TT := HA.out.alloc (.cells #[.int .i64 n1, .slice a1 L1 cap1] 28)
  clear HA
  have HA := Lib.hid TT
  clear TT
  have TT := HB.out.alloc (.cells #[.int .i64 n1, .slice a1 L1 cap1] 28)
  clear HB
  have HB := Lib.hid TT
  clear TT
  have HX := Lib.hid (Box.new u1 (.int .i64 n1) (.slice a1 L1 cap1) 28)
  have TT := HBN.out.trans (((Below.refl u1.heap.size u1).alloc (Nat.le_refl _) (.cells #[.int .i64 n1, .slice a1 L1 cap1] 28)).mono HBN.out.size)
  clear HBN
  have HBN := Lib.hid TT
  clear TT
  obtain ⟨cB0, cB1, -, -⟩ := id HB.out
  go_wp2_with fail
  clear cB0 cB1
  obtain ⟨b6, hbb⟩ : ∃ b6, u1.heap.size = b6 := ⟨_, rfl⟩
  rw [hbb]
  rw [hbb] at HX
  clear hbb
  generalize u1.alloc (.cells #[.int .i64 n1, .slice a1 L1 cap1] 28) = y1 at *
  refine (ours_any n2 a2 L2 cap2 _).mono ?_
  rintro e u2 ⟨rfl, hb⟩
  have TT := HA.out.below hb HA.out.lt
  clear HA
  have HA := Lib.hid TT
  clear TT
  have TT := HB.out.below hb HB.out.lt
  clear HB
  have HB := Lib.hid TT
  clear TT
  have TT := HX.out.below hb HX.out.lt
  clear HX
  have HX := Lib.hid TT
  clear TT
  have TT := HBN.out.trans (hb.mono HBN.out.size)
  clear HBN
  have HBN := Lib.hid TT
  clear TT hb
  have TT := HA.out.alloc (.cells #[.int .i64 n2, .slice a2 L2 cap2] 28)
  clear HA
  have HA := Lib.hid TT
  clear TT
  have TT := HB.out.alloc (.cells #[.int .i64 n2, .slice a2 L2 cap2] 28)
  clear HB
  have HB := Lib.hid TT
  clear TT
  have TT := HX.out.alloc (.cells #[.int .i64 n2, .slice a2 L2 cap2] 28)
  clear HX
  have HX := Lib.hid TT
  clear TT
  have HY := Lib.hid (Box.new u2 (.int .i64 n2) (.slice a2 L2 cap2) 28)
  have TT := HBN.out.trans (((Below.refl u2.heap.size u2).alloc (Nat.le_refl _) (.cells #[.int .i64 n2, .slice a2 L2 cap2] 28)).mono HBN.out.size)
  clear HBN
  have HBN := Lib.hid TT
  clear TT
  go_wp2_with fail
  obtain ⟨b7, hbb⟩ : ∃ b7, u2.heap.size = b7 := ⟨_, rfl⟩
  rw [hbb]
  rw [hbb] at HY
  clear hbb
  generalize u2.alloc (.cells #[.int .i64 n2, .slice a2 L2 cap2] 28) = y2 at *
  have hTr := HT.out.below HBN.out
  have hAX := HA1.out.below HBN.out
  have hAY := HA2.out.below HBN.out
  have ok1 := hAX.ok
  have ok2 := hAY.ok
  obtain ⟨N, hN⟩ : ∃ N, max m1 m2 = N := ⟨_, rfl⟩
  obtain ⟨K, hK⟩ : ∃ K, wcount N = K := ⟨_, rfl⟩
  obtain ⟨vu, hvu⟩ : ∃ x, joinW orN m1 m2 v1 v2 = x := ⟨_, rfl⟩
  have okvu : Ok N vu := by have o := ok1.union ok2; rw [hN, hvu] at o; exact o
  obtain ⟨vd, hvd⟩ : ∃ x, joinW minusN m1 m2 v1 v2 = x := ⟨_, rfl⟩
  have okvd : Ok N vd := by have o := ok1.minus ok2; rw [hN, hvd] at o; exact o
  obtain ⟨vm, hvm⟩ : ∃ x, joinW andN m1 m2 v1 v2 = x := ⟨_, rfl⟩
  have okvm : Ok N vm := by have o := ok1.meet ok2; rw [hN, hvm] at o; exact o
  obtain ⟨lq, hlq⟩ : ∃ x, leqB v1 m2 v2 = x := ⟨_, rfl⟩
  obtain ⟨sm, hsm⟩ : ∃ x, decide (m1 = m2 ∧ v1 = v2) = x := ⟨_, rfl⟩
  have F1 : Hid (∀ W, Below y2.heap.size y2 W → Calls Tryd.prog 31 #[.agg #[.int .i64 n1, .slice a1 L1 cap1], .agg #[.int .i64 n2, .slice a2 L2 cap2]] W fun e w' => ∃ g, e = .returned (.agg #[.int .i64 (N : Int), .slice (some ⟨g, 0, none⟩) K K]) ∧ Fresh 0 w' g vu ∧ Below W.heap.size W w') := fun W hW =>
    (Union_acts (hAX.below hW) (hAY.below hW) hN hK).mono fun e w' ⟨g, he, hF, hb⟩ => ⟨g, he, by rw [hvu] at hF; exact hF.base (Nat.zero_le _), hb⟩
  have F3 : Hid (∀ W, Below y2.heap.size y2 W → Calls Tryd.prog 32 #[.agg #[.int .i64 n1, .slice a1 L1 cap1], .agg #[.int .i64 n2, .slice a2 L2 cap2]] W fun e w' => ∃ g, e = .returned (.agg #[.int .i64 (N : Int), .slice (some ⟨g, 0, none⟩) K K]) ∧ Fresh 0 w' g vu ∧ Below W.heap.size W w') := fun W hW =>
    (Union_racts (hAX.below hW) (hAY.below hW) hN hK).mono fun e w' ⟨g, he, hF, hb⟩ => ⟨g, he, by rw [hvu] at hF; exact hF.base (Nat.zero_le _), hb⟩
  have F5 : Hid (∀ W, Below y2.heap.size y2 W → Calls Tryd.prog 33 #[.agg #[.int .i64 n1, .slice a1 L1 cap1], .agg #[.int .i64 n2, .slice a2 L2 cap2]] W fun e w' => ∃ g, e = .returned (.agg #[.int .i64 (N : Int), .slice (some ⟨g, 0, none⟩) K K]) ∧ Fresh 0 w' g vd ∧ Below W.heap.size W w') := fun W hW =>
    (Minus_acts (hAX.below hW) (hAY.below hW) hN hK).mono fun e w' ⟨g, he, hF, hb⟩ => ⟨g, he, by rw [hvd] at hF; exact hF.base (Nat.zero_le _), hb⟩
  have F7 : Hid (∀ W, Below y2.heap.size y2 W → Calls Tryd.prog 34 #[.agg #[.int .i64 n1, .slice a1 L1 cap1], .agg #[.int .i64 n2, .slice a2 L2 cap2]] W fun e w' => ∃ g, e = .returned (.agg #[.int .i64 (N : Int), .slice (some ⟨g, 0, none⟩) K K]) ∧ Fresh 0 w' g vd ∧ Below W.heap.size W w') := fun W hW =>
    (Minus_racts (hAX.below hW) (hAY.below hW) hN hK).mono fun e w' ⟨g, he, hF, hb⟩ => ⟨g, he, by rw [hvd] at hF; exact hF.base (Nat.zero_le _), hb⟩
  have F9 : Hid (∀ W, Below y2.heap.size y2 W → Calls Tryd.prog 35 #[.agg #[.int .i64 n1, .slice a1 L1 cap1], .agg #[.int .i64 n2, .slice a2 L2 cap2]] W fun e w' => ∃ g, e = .returned (.agg #[.int .i64 (N : Int), .slice (some ⟨g, 0, none⟩) K K]) ∧ Fresh 0 w' g vm ∧ Below W.heap.size W w') := fun W hW =>
    (Meet_acts (hAX.below hW) (hAY.below hW) hN hK).mono fun e w' ⟨g, he, hF, hb⟩ => ⟨g, he, by rw [hvm] at hF; exact hF.base (Nat.zero_le _), hb⟩
  have F11 : Hid (∀ W, Below y2.heap.size y2 W → Calls Tryd.prog 36 #[.agg #[.int .i64 n1, .slice a1 L1 cap1], .agg #[.int .i64 n2, .slice a2 L2 cap2]] W fun e w' => ∃ g, e = .returned (.agg #[.int .i64 (N : Int), .slice (some ⟨g, 0, none⟩) K K]) ∧ Fresh 0 w' g vm ∧ Below W.heap.size W w') := fun W hW =>
    (Meet_racts (hAX.below hW) (hAY.below hW) hN hK).mono fun e w' ⟨g, he, hF, hb⟩ => ⟨g, he, by rw [hvm] at hF; exact hF.base (Nat.zero_le _), hb⟩
  have F13 : Hid (∀ W, Below y2.heap.size y2 W → Calls Tryd.prog 37 #[.agg #[.int .i64 n1, .slice a1 L1 cap1], .agg #[.int .i64 n2, .slice a2 L2 cap2]] W fun e w' => e = .returned (.bool lq) ∧ Below W.heap.size W w') := fun W hW =>
    Leq_acts (hAX.below hW) (hAY.below hW) (hTr.below hW) hlq
  have F14 : Hid (∀ W, Below y2.heap.size y2 W → Calls Tryd.prog 38 #[.agg #[.int .i64 n1, .slice a1 L1 cap1], .agg #[.int .i64 n2, .slice a2 L2 cap2]] W fun e w' => e = .returned (.bool lq) ∧ Below W.heap.size W w') := fun W hW =>
    Leq_racts (hAX.below hW) (hAY.below hW) hlq
  have F15 : Hid (∀ W, Below y2.heap.size y2 W → Calls Tryd.prog 39 #[.agg #[.int .i64 n1, .slice a1 L1 cap1], .agg #[.int .i64 n2, .slice a2 L2 cap2]] W fun e w' => e = .returned (.bool sm) ∧ Below W.heap.size W w') := fun W hW =>
    Same_acts (hAX.below hW) (hAY.below hW) hsm
  have F16 : Hid (∀ W, Below y2.heap.size y2 W → Calls Tryd.prog 40 #[.agg #[.int .i64 n1, .slice a1 L1 cap1], .agg #[.int .i64 n2, .slice a2 L2 cap2]] W fun e w' => e = .returned (.bool sm) ∧ Below W.heap.size W w') := fun W hW =>
    Same_racts (hAX.below hW) (hAY.below hW) hsm
  have FT : Hid (∀ W g, Calls Tryd.prog 19 #[.agg #[.int .i64 (N : Int), .slice (some ⟨g, 0, none⟩) K K]] W fun e w' => e = .returned (.agg #[.int .i64 (N : Int), .slice (some ⟨g, 0, none⟩) K K]) ∧ Below W.heap.size W w') := fun W g => theirs_any _ _ _ _ W
  have FE : Hid (∀ W g g' ws, Ok N ws → Fresh 0 W g ws → Fresh 0 W g' ws → Calls Tryd.prog 18 #[.agg #[.int .i64 (N : Int), .slice (some ⟨g, 0, none⟩) K K], .agg #[.int .i64 (N : Int), .slice (some ⟨g', 0, none⟩) K K]] W fun e w' => e = .returned (.bool true) ∧ Below W.heap.size W w') := fun W g g' ws hok h h' => Equal_fresh h h' hok hK
  have hS : Hid (∀ w', Below y2.heap.size y2 w' → w'.cell? ⟨w.heap.size, 0, none⟩ = some (.int .i64 n1) ∧ w'.cell? ⟨w.heap.size, 1, none⟩ = some (.slice a1 L1 cap1) ∧ w'.cell? ⟨(w.heap.size + 1), 0, none⟩ = some (.int .i64 n2) ∧ w'.cell? ⟨(w.heap.size + 1), 1, none⟩ = some (.slice a2 L2 cap2) ∧ w'.cell? ⟨b6, 0, none⟩ = some (.int .i64 n1) ∧ w'.cell? ⟨b6, 1, none⟩ = some (.slice a1 L1 cap1) ∧ w'.cell? ⟨b7, 0, none⟩ = some (.int .i64 n2) ∧ w'.cell? ⟨b7, 1, none⟩ = some (.slice a2 L2 cap2)) := fun W h =>
    ⟨(h.cell (p := ⟨w.heap.size, 0, none⟩) HA.out.lt).trans HA.out.c0, (h.cell (p := ⟨w.heap.size, 1, none⟩) HA.out.lt).trans HA.out.c1, (h.cell (p := ⟨(w.heap.size + 1), 0, none⟩) HB.out.lt).trans HB.out.c0, (h.cell (p := ⟨(w.heap.size + 1), 1, none⟩) HB.out.lt).trans HB.out.c1, (h.cell (p := ⟨b6, 0, none⟩) HX.out.lt).trans HX.out.c0, (h.cell (p := ⟨b6, 1, none⟩) HX.out.lt).trans HX.out.c1, (h.cell (p := ⟨b7, 0, none⟩) HY.out.lt).trans HY.out.c0, (h.cell (p := ⟨b7, 1, none⟩) HY.out.lt).trans HY.out.c1⟩
  have HKvu := Lib.hid okvu
  have HKvd := Lib.hid okvd
  have HKvm := Lib.hid okvm
  have g1 : (lq == lq) = true := by simp
  have g2 : (sm == sm) = true := by simp
  have HW0 := HBN
  clear HBN
  have HBN : Hid (Below y2.heap.size y2 y2.drew) := (Below.refl _ _).drew
  clear HA1 HA2 HT hTr hAX hAY ok1 ok2 hN hK hvu hvd hvm okvu okvd okvm hlq hsm HA HB HX HY
  have tok1 : True := trivial
  have tok2 : True := trivial
  have tok3 : True := trivial
  have tok4 : True := trivial
  have tok5 : True := trivial
  have tok6 : True := trivial
  have tok7 : True := trivial
  have tok8 : True := trivial
  have tok9 : True := trivial
  have tok10 : True := trivial
  have tok11 : True := trivial
  have tok12 : True := trivial
  have tok13 : True := trivial
  have tok14 : True := trivial
  have tok15 : True := trivial
  have tok16 : True := trivial
  go_region_held3 (fun w' => w'.cell? ⟨w.heap.size, 0, none⟩ = some (.int .i64 n1) ∧ w'.cell? ⟨w.heap.size, 1, none⟩ = some (.slice a1 L1 cap1) ∧ w'.cell? ⟨(w.heap.size + 1), 0, none⟩ = some (.int .i64 n2) ∧ w'.cell? ⟨(w.heap.size + 1), 1, none⟩ = some (.slice a2 L2 cap2) ∧ w'.cell? ⟨b6, 0, none⟩ = some (.int .i64 n1) ∧ w'.cell? ⟨b6, 1, none⟩ = some (.slice a1 L1 cap1) ∧ w'.cell? ⟨b7, 0, none⟩ = some (.int .i64 n2) ∧ w'.cell? ⟨b7, 1, none⟩ = some (.slice a2 L2 cap2))
    (first | exact hS.out _ HBN.out)
    (first
      | (have _t := tok1; go_at_call 31; refine (F1.out _ HBN.out).mono ?_; clear _t tok1; rintro e wn ⟨g1, rfl, hF, hbn⟩; have hbx := HBN.out.trans (hbn.mono HBN.out.size); clear HBN hbn; have HBN := Lib.hid hbx; clear hbx; have Hg1 := Lib.hid hF; clear hF)
      | (have _t := tok2; go_at_call 19; refine (FT.out _ _).mono ?_; clear _t tok2; rintro e wn ⟨rfl, hbn⟩; have hFg1 := Hg1.out.below hbn Hg1.out.lt; clear Hg1; have Hg1 := Lib.hid hFg1; clear hFg1; have hbx := HBN.out.trans (hbn.mono HBN.out.size); clear HBN hbn; have HBN := Lib.hid hbx; clear hbx)
      | (have _t := tok3; go_at_call 32; refine (F3.out _ HBN.out).mono ?_; clear _t tok3; rintro e wn ⟨g3, rfl, hF, hbn⟩; have hFg1 := Hg1.out.below hbn Hg1.out.lt; clear Hg1; have Hg1 := Lib.hid hFg1; clear hFg1; have hbx := HBN.out.trans (hbn.mono HBN.out.size); clear HBN hbn; have HBN := Lib.hid hbx; clear hbx; have Hg3 := Lib.hid hF; clear hF)
      | (have _t := tok4; go_at_call 18; refine (FE.out _ _ _ _ HKvu.out Hg1.out Hg3.out).mono ?_; clear _t tok4; rintro e wn ⟨rfl, hbn⟩; have hbx := HBN.out.trans (hbn.mono HBN.out.size); clear HBN hbn; have HBN := Lib.hid hbx; clear hbx)
      | (have _t := tok5; go_at_call 33; refine (F5.out _ HBN.out).mono ?_; clear _t tok5; rintro e wn ⟨g5, rfl, hF, hbn⟩; have hbx := HBN.out.trans (hbn.mono HBN.out.size); clear HBN hbn; have HBN := Lib.hid hbx; clear hbx; have Hg5 := Lib.hid hF; clear hF)
      | (have _t := tok6; go_at_call 19; refine (FT.out _ _).mono ?_; clear _t tok6; rintro e wn ⟨rfl, hbn⟩; have hFg5 := Hg5.out.below hbn Hg5.out.lt; clear Hg5; have Hg5 := Lib.hid hFg5; clear hFg5; have hbx := HBN.out.trans (hbn.mono HBN.out.size); clear HBN hbn; have HBN := Lib.hid hbx; clear hbx)
      | (have _t := tok7; go_at_call 34; refine (F7.out _ HBN.out).mono ?_; clear _t tok7; rintro e wn ⟨g7, rfl, hF, hbn⟩; have hFg5 := Hg5.out.below hbn Hg5.out.lt; clear Hg5; have Hg5 := Lib.hid hFg5; clear hFg5; have hbx := HBN.out.trans (hbn.mono HBN.out.size); clear HBN hbn; have HBN := Lib.hid hbx; clear hbx; have Hg7 := Lib.hid hF; clear hF)
      | (have _t := tok8; go_at_call 18; refine (FE.out _ _ _ _ HKvd.out Hg5.out Hg7.out).mono ?_; clear _t tok8; rintro e wn ⟨rfl, hbn⟩; have hbx := HBN.out.trans (hbn.mono HBN.out.size); clear HBN hbn; have HBN := Lib.hid hbx; clear hbx)
      | (have _t := tok9; go_at_call 35; refine (F9.out _ HBN.out).mono ?_; clear _t tok9; rintro e wn ⟨g9, rfl, hF, hbn⟩; have hbx := HBN.out.trans (hbn.mono HBN.out.size); clear HBN hbn; have HBN := Lib.hid hbx; clear hbx; have Hg9 := Lib.hid hF; clear hF)
      | (have _t := tok10; go_at_call 19; refine (FT.out _ _).mono ?_; clear _t tok10; rintro e wn ⟨rfl, hbn⟩; have hFg9 := Hg9.out.below hbn Hg9.out.lt; clear Hg9; have Hg9 := Lib.hid hFg9; clear hFg9; have hbx := HBN.out.trans (hbn.mono HBN.out.size); clear HBN hbn; have HBN := Lib.hid hbx; clear hbx)
      | (have _t := tok11; go_at_call 36; refine (F11.out _ HBN.out).mono ?_; clear _t tok11; rintro e wn ⟨g11, rfl, hF, hbn⟩; have hFg9 := Hg9.out.below hbn Hg9.out.lt; clear Hg9; have Hg9 := Lib.hid hFg9; clear hFg9; have hbx := HBN.out.trans (hbn.mono HBN.out.size); clear HBN hbn; have HBN := Lib.hid hbx; clear hbx; have Hg11 := Lib.hid hF; clear hF)
      | (have _t := tok12; go_at_call 18; refine (FE.out _ _ _ _ HKvm.out Hg9.out Hg11.out).mono ?_; clear _t tok12; rintro e wn ⟨rfl, hbn⟩; have hbx := HBN.out.trans (hbn.mono HBN.out.size); clear HBN hbn; have HBN := Lib.hid hbx; clear hbx)
      | (have _t := tok13; go_at_call 37; refine (F13.out _ HBN.out).mono ?_; clear _t tok13; rintro e wn ⟨rfl, hbn⟩; have hbx := HBN.out.trans (hbn.mono HBN.out.size); clear HBN hbn; have HBN := Lib.hid hbx; clear hbx)
      | (have _t := tok14; go_at_call 38; refine (F14.out _ HBN.out).mono ?_; clear _t tok14; rintro e wn ⟨rfl, hbn⟩; have hbx := HBN.out.trans (hbn.mono HBN.out.size); clear HBN hbn; have HBN := Lib.hid hbx; clear hbx)
      | (have _t := tok15; go_at_call 39; refine (F15.out _ HBN.out).mono ?_; clear _t tok15; rintro e wn ⟨rfl, hbn⟩; have hbx := HBN.out.trans (hbn.mono HBN.out.size); clear HBN hbn; have HBN := Lib.hid hbx; clear hbx)
      | (have _t := tok16; go_at_call 40; refine (F16.out _ HBN.out).mono ?_; clear _t tok16; rintro e wn ⟨rfl, hbn⟩; have hbx := HBN.out.trans (hbn.mono HBN.out.size); clear HBN hbn; have HBN := Lib.hid hbx; clear hbx))
  all_goals
    go_wp2_with fail
    go_ret
    exact ⟨rfl, HW0.out.trans (HBN.out.mono HW0.out.size)⟩
end Go.Proofs.YtjlofjoekpoepaaDoor
