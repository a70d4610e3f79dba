import Derived.Test.YtehfhconhcefbaaAwk
namespace Go.Proofs.Ytehfhconhcefbaa
open Go Go.RowKit Go.Sort

set_option maxRecDepth 100000 in
set_option maxHeartbeats 8000000 in
theorem rises_law (a b c d : V) (w : World) :
    Calls Try.prog 5 #[a.val, b.val, c.val, d.val] w fun e w' => e = .returned (.bool true) ∧ Below w.heap.size w w' := by
  obtain ⟨z, hz⟩ : ∃ z, join a c = z := ⟨_, rfl⟩
  obtain ⟨u, hu⟩ : ∃ u, join b d = u := ⟨_, rfl⟩
  have HJ1 := Lib.hid (fun W => Join_any a c W)
  have HJ2 := Lib.hid (fun W => Join_any b d W)
  rw [hz] at HJ1
  rw [hu] at HJ2
  have F0 := Lib.hid (fun W => Neg_any a W)
  have F1 := Lib.hid (fun W => Neg_any z W)
  have F2 := Lib.hid (fun W => Leq_any (negV a) (negV z) W)
  rw [show leq (negV a) (negV z) = true by rw [← hz]; exact neg_rises a c] at F2
  generalize negV a = s0 at *
  generalize negV z = t0 at *
  have F3 := Lib.hid (fun W => Add_any a b W)
  have F4 := Lib.hid (fun W => Add_any z u W)
  have F5 := Lib.hid (fun W => Leq_any (addV a b) (addV z u) W)
  rw [show leq (addV a b) (addV z u) = true by rw [← hz, ← hu]; exact comb_rises _ a b c d] at F5
  generalize addV a b = s3 at *
  generalize addV z u = t3 at *
  have F6 := Lib.hid (fun W => Sub_any a b W)
  have F7 := Lib.hid (fun W => Sub_any z u W)
  have F8 := Lib.hid (fun W => Leq_any (subV a b) (subV z u) W)
  rw [show leq (subV a b) (subV z u) = true by rw [← hz, ← hu]; exact comb_rises _ a b c d] at F8
  generalize subV a b = s6 at *
  generalize subV z u = t6 at *
  have F9 := Lib.hid (fun W => Mul_any a b W)
  have F10 := Lib.hid (fun W => Mul_any z u W)
  have F11 := Lib.hid (fun W => Leq_any (mulV a b) (mulV z u) W)
  rw [show leq (mulV a b) (mulV z u) = true by rw [← hz, ← hu]; exact comb_rises _ a b c d] at F11
  generalize mulV a b = s9 at *
  generalize mulV z u = t9 at *
  clear hz hu
  have HO0 := Lib.hid (fun W => ours_any a W)
  have HO1 := Lib.hid (fun W => ours_any b W)
  have HO2 := Lib.hid (fun W => ours_any c W)
  have HO3 := Lib.hid (fun W => ours_any d W)
  unfold V.val at *
  have BA := ((((Box.new w (.int .i64 a.k) (.int .i64 a.c) 23).alloc (.cells #[.int .i64 b.k, .int .i64 b.c] 23)).alloc (.cells #[.int .i64 c.k, .int .i64 c.c] 23)).alloc (.cells #[.int .i64 d.k, .int .i64 d.c] 23))
  have BB := (((Box.new (w.alloc (.cells #[.int .i64 a.k, .int .i64 a.c] 23)) (.int .i64 b.k) (.int .i64 b.c) 23).alloc (.cells #[.int .i64 c.k, .int .i64 c.c] 23)).alloc (.cells #[.int .i64 d.k, .int .i64 d.c] 23))
  have BC := ((Box.new ((w.alloc (.cells #[.int .i64 a.k, .int .i64 a.c] 23)).alloc (.cells #[.int .i64 b.k, .int .i64 b.c] 23)) (.int .i64 c.k) (.int .i64 c.c) 23).alloc (.cells #[.int .i64 d.k, .int .i64 d.c] 23))
  have BD := (Box.new (((w.alloc (.cells #[.int .i64 a.k, .int .i64 a.c] 23)).alloc (.cells #[.int .i64 b.k, .int .i64 b.c] 23)).alloc (.cells #[.int .i64 c.k, .int .i64 c.c] 23)) (.int .i64 d.k) (.int .i64 d.c) 23)
  have hW := below4 w (.cells #[.int .i64 a.k, .int .i64 a.c] 23) (.cells #[.int .i64 b.k, .int .i64 b.c] 23) (.cells #[.int .i64 c.k, .int .i64 c.c] 23) (.cells #[.int .i64 d.k, .int .i64 d.c] 23)
  simp only [World.size_alloc] at BB BC BD
  generalize hE : ((((w.alloc (.cells #[.int .i64 a.k, .int .i64 a.c] 23)).alloc (.cells #[.int .i64 b.k, .int .i64 b.c] 23)).alloc (.cells #[.int .i64 c.k, .int .i64 c.c] 23)).alloc (.cells #[.int .i64 d.k, .int .i64 d.c] 23)) = W0 at *
  have HA := Lib.hid BA
  have HB := Lib.hid BB
  have HC := Lib.hid BC
  have HD := Lib.hid BD
  have HBN := Lib.hid hW
  clear hW BA BB BC BD
  go_enter Try.func5, Try.ntmps5
  go_wp2_with fail
  refine (awake_any _).mono ?_
  rintro e w1 ⟨rfl, hb⟩
  have TT := HA.out.below hb HA.out.lt; clear HA; have HA := Lib.hid TT; clear TT
  have TT := HB.out.below hb HB.out.lt; clear HB; have HB := Lib.hid TT; clear TT
  have TT := HC.out.below hb HC.out.lt; clear HC; have HC := Lib.hid TT; clear TT
  have TT := HD.out.below hb HD.out.lt; clear HD; have HD := Lib.hid TT; clear TT
  have TT := HBN.out.trans (hb.mono HBN.out.size); clear HBN; have HBN := Lib.hid TT; clear TT hb
  clear hE
  obtain ⟨cA0, cA1, -, -⟩ := id HA.out
  go_wp2_with fail
  clear cA0 cA1
  refine (HO0.out _).mono ?_
  rintro e w2 ⟨rfl, hb⟩
  have TT := HA.out.below hb HA.out.lt; clear HA; have HA := Lib.hid TT; clear TT
  have TT := HB.out.below hb HB.out.lt; clear HB; have HB := Lib.hid TT; clear TT
  have TT := HC.out.below hb HC.out.lt; clear HC; have HC := Lib.hid TT; clear TT
  have TT := HD.out.below hb HD.out.lt; clear HD; have HD := Lib.hid TT; clear TT
  have TT := HBN.out.trans (hb.mono HBN.out.size); clear HBN; have HBN := Lib.hid TT; clear TT hb
  have TT := HA.out.alloc (.cells #[.int .i64 a.k, .int .i64 a.c] 25); clear HA; have HA := Lib.hid TT; clear TT
  have TT := HB.out.alloc (.cells #[.int .i64 a.k, .int .i64 a.c] 25); clear HB; have HB := Lib.hid TT; clear TT
  have TT := HC.out.alloc (.cells #[.int .i64 a.k, .int .i64 a.c] 25); clear HC; have HC := Lib.hid TT; clear TT
  have TT := HD.out.alloc (.cells #[.int .i64 a.k, .int .i64 a.c] 25); clear HD; have HD := Lib.hid TT; clear TT
  have HX := Lib.hid (Box.new w2 (.int .i64 a.k) (.int .i64 a.c) 25)
  have TT := HBN.out.trans (((Below.refl w2.heap.size w2).alloc (Nat.le_refl _) (.cells #[.int .i64 a.k, .int .i64 a.c] 25)).mono HBN.out.size); clear HBN; have HBN := Lib.hid TT; clear TT
  obtain ⟨cB0, cB1, -, -⟩ := id HB.out
  go_wp2_with fail
  clear cB0 cB1
  obtain ⟨bX, hbb⟩ : ∃ b, w2.heap.size = b := ⟨_, rfl⟩
  rw [hbb]
  rw [hbb] at HX
  clear hbb
  generalize w2.alloc (.cells #[.int .i64 a.k, .int .i64 a.c] 25) = y2 at *
  refine (HO1.out _).mono ?_
  rintro e w3 ⟨rfl, hb⟩
  have TT := HA.out.below hb HA.out.lt; clear HA; have HA := Lib.hid TT; clear TT
  have TT := HB.out.below hb HB.out.lt; clear HB; have HB := Lib.hid TT; clear TT
  have TT := HC.out.below hb HC.out.lt; clear HC; have HC := Lib.hid TT; clear TT
  have TT := HD.out.below hb HD.out.lt; clear HD; have HD := Lib.hid TT; clear TT
  have TT := HX.out.below hb HX.out.lt; clear HX; have HX := Lib.hid TT; clear TT
  have TT := HBN.out.trans (hb.mono HBN.out.size); clear HBN; have HBN := Lib.hid TT; clear TT hb
  have TT := HA.out.alloc (.cells #[.int .i64 b.k, .int .i64 b.c] 25); clear HA; have HA := Lib.hid TT; clear TT
  have TT := HB.out.alloc (.cells #[.int .i64 b.k, .int .i64 b.c] 25); clear HB; have HB := Lib.hid TT; clear TT
  have TT := HC.out.alloc (.cells #[.int .i64 b.k, .int .i64 b.c] 25); clear HC; have HC := Lib.hid TT; clear TT
  have TT := HD.out.alloc (.cells #[.int .i64 b.k, .int .i64 b.c] 25); clear HD; have HD := Lib.hid TT; clear TT
  have TT := HX.out.alloc (.cells #[.int .i64 b.k, .int .i64 b.c] 25); clear HX; have HX := Lib.hid TT; clear TT
  have HY := Lib.hid (Box.new w3 (.int .i64 b.k) (.int .i64 b.c) 25)
  have TT := HBN.out.trans (((Below.refl w3.heap.size w3).alloc (Nat.le_refl _) (.cells #[.int .i64 b.k, .int .i64 b.c] 25)).mono HBN.out.size); clear HBN; have HBN := Lib.hid TT; clear TT
  go_upto_region 4 with fail
  obtain ⟨bY, hbb⟩ : ∃ b, w3.heap.size = b := ⟨_, rfl⟩
  rw [hbb]
  rw [hbb] at HY
  clear hbb
  generalize w3.alloc (.cells #[.int .i64 b.k, .int .i64 b.c] 25) = y3 at *
  go_cut [12] (fun s wx => ∃ bb, s = .pointer (some ⟨bb, 0, none⟩) ∧ Box wx bb (.int .i64 z.k) (.int .i64 z.c) ∧ Box wx (w.heap.size) (.int .i64 a.k) (.int .i64 a.c) ∧ Box wx (w.heap.size + 1) (.int .i64 b.k) (.int .i64 b.c) ∧ Box wx (w.heap.size + 1 + 1) (.int .i64 c.k) (.int .i64 c.c) ∧ Box wx (w.heap.size + 1 + 1 + 1) (.int .i64 d.k) (.int .i64 d.c) ∧ Box wx (bX) (.int .i64 a.k) (.int .i64 a.c) ∧ Box wx (bY) (.int .i64 b.k) (.int .i64 b.c) ∧ Below w.heap.size w wx)
  case first =>
    clear F0 F1 F2 F3 F4 F5 F6 F7 F8 F9 F10 F11
    have TT := HA.out.drew; clear HA; have HA := Lib.hid TT; clear TT
    have TT := HB.out.drew; clear HB; have HB := Lib.hid TT; clear TT
    have TT := HC.out.drew; clear HC; have HC := Lib.hid TT; clear TT
    have TT := HD.out.drew; clear HD; have HD := Lib.hid TT; clear TT
    have TT := HX.out.drew; clear HX; have HX := Lib.hid TT; clear TT
    have TT := HY.out.drew; clear HY; have HY := Lib.hid TT; clear TT
    have TT := HBN.out.drew; clear HBN; have HBN := Lib.hid TT; clear TT
    obtain ⟨cX0, cX1, -, -⟩ := id HX.out
    obtain ⟨cC0, cC1, -, -⟩ := id HC.out
    have zX0 : (y3.alloc (.cells #[.int .i64 0, .int .i64 0] 25)).cell? ⟨bX, 0, none⟩ = some (.int .i64 a.k) := (HX.out.alloc (.cells #[.int .i64 0, .int .i64 0] 25)).c0
    have zX1 : (y3.alloc (.cells #[.int .i64 0, .int .i64 0] 25)).cell? ⟨bX, 1, none⟩ = some (.int .i64 a.c) := (HX.out.alloc (.cells #[.int .i64 0, .int .i64 0] 25)).c1
    have zC0 : (y3.alloc (.cells #[.int .i64 0, .int .i64 0] 25)).cell? ⟨w.heap.size + 1 + 1, 0, none⟩ = some (.int .i64 c.k) := (HC.out.alloc (.cells #[.int .i64 0, .int .i64 0] 25)).c0
    have zC1 : (y3.alloc (.cells #[.int .i64 0, .int .i64 0] 25)).cell? ⟨w.heap.size + 1 + 1, 1, none⟩ = some (.int .i64 c.c) := (HC.out.alloc (.cells #[.int .i64 0, .int .i64 0] 25)).c1
    go_region_with (first
      | (go_at_call 10; with_reducible refine (HO2.out _).mono ?_; clear HO2 cX0 cX1 zX0 zX1 cC0 cC1 zC0 zC1; rintro e v1 ⟨rfl, hb⟩; (first | ((have TT := HN.out.below hb HN.out.lt; clear HN; have HN := Lib.hid TT; clear TT); have TT := HA.out.below hb HA.out.lt; clear HA; have HA := Lib.hid TT; clear TT; have TT := HB.out.below hb HB.out.lt; clear HB; have HB := Lib.hid TT; clear TT; have TT := HC.out.below hb HC.out.lt; clear HC; have HC := Lib.hid TT; clear TT; have TT := HD.out.below hb HD.out.lt; clear HD; have HD := Lib.hid TT; clear TT; have TT := HX.out.below hb HX.out.lt; clear HX; have HX := Lib.hid TT; clear TT; have TT := HY.out.below hb HY.out.lt; clear HY; have HY := Lib.hid TT; clear TT; have TT := HBN.out.trans (hb.mono HBN.out.size); clear HBN; have HBN := Lib.hid TT; clear TT hb) | (have TT := HA.out.below hb HA.out.lt; clear HA; have HA := Lib.hid TT; clear TT; have TT := HB.out.below hb HB.out.lt; clear HB; have HB := Lib.hid TT; clear TT; have TT := HC.out.below hb HC.out.lt; clear HC; have HC := Lib.hid TT; clear TT; have TT := HD.out.below hb HD.out.lt; clear HD; have HD := Lib.hid TT; clear TT; have TT := HX.out.below hb HX.out.lt; clear HX; have HX := Lib.hid TT; clear TT; have TT := HY.out.below hb HY.out.lt; clear HY; have HY := Lib.hid TT; clear TT; have TT := HBN.out.trans (hb.mono HBN.out.size); clear HBN; have HBN := Lib.hid TT; clear TT hb) | (have NEA := Lib.hid (Nat.ne_of_lt HA.out.lt); have TT := (HA.out.alloc (.cells #[.int .i64 0, .int .i64 0] 25)).below hb (HA.out.alloc (.cells #[.int .i64 0, .int .i64 0] 25)).lt; clear HA; have HA := Lib.hid TT; clear TT; have NEB := Lib.hid (Nat.ne_of_lt HB.out.lt); have TT := (HB.out.alloc (.cells #[.int .i64 0, .int .i64 0] 25)).below hb (HB.out.alloc (.cells #[.int .i64 0, .int .i64 0] 25)).lt; clear HB; have HB := Lib.hid TT; clear TT; have NEC := Lib.hid (Nat.ne_of_lt HC.out.lt); have TT := (HC.out.alloc (.cells #[.int .i64 0, .int .i64 0] 25)).below hb (HC.out.alloc (.cells #[.int .i64 0, .int .i64 0] 25)).lt; clear HC; have HC := Lib.hid TT; clear TT; have NED := Lib.hid (Nat.ne_of_lt HD.out.lt); have TT := (HD.out.alloc (.cells #[.int .i64 0, .int .i64 0] 25)).below hb (HD.out.alloc (.cells #[.int .i64 0, .int .i64 0] 25)).lt; clear HD; have HD := Lib.hid TT; clear TT; have NEX := Lib.hid (Nat.ne_of_lt HX.out.lt); have TT := (HX.out.alloc (.cells #[.int .i64 0, .int .i64 0] 25)).below hb (HX.out.alloc (.cells #[.int .i64 0, .int .i64 0] 25)).lt; clear HX; have HX := Lib.hid TT; clear TT; have NEY := Lib.hid (Nat.ne_of_lt HY.out.lt); have TT := (HY.out.alloc (.cells #[.int .i64 0, .int .i64 0] 25)).below hb (HY.out.alloc (.cells #[.int .i64 0, .int .i64 0] 25)).lt; clear HY; have HY := Lib.hid TT; clear TT; have HN := Lib.hid (show Box v1 y3.heap.size (.int .i64 0) (.int .i64 0) from (Box.new y3.drew (.int .i64 0) (.int .i64 0) 25).below hb (Box.new y3.drew (.int .i64 0) (.int .i64 0) 25).lt); have HNL := Lib.hid HBN.out.size; have TT := (HBN.out.trans (((Below.refl y3.drew.heap.size y3.drew).alloc (Nat.le_refl _) (.cells #[.int .i64 0, .int .i64 0] 25)).mono HBN.out.size)).trans (hb.mono (HBN.out.trans (((Below.refl y3.drew.heap.size y3.drew).alloc (Nat.le_refl _) (.cells #[.int .i64 0, .int .i64 0] 25)).mono HBN.out.size)).size); clear HBN; have HBN := Lib.hid TT; clear TT hb)); obtain ⟨cX0, cX1, -, -⟩ := id HX.out; obtain ⟨cC0, cC1, -, -⟩ := id HC.out; have zX0 := (HX.out.alloc (.cells #[.int .i64 0, .int .i64 0] 25)).c0; have zX1 := (HX.out.alloc (.cells #[.int .i64 0, .int .i64 0] 25)).c1; have zC0 := (HC.out.alloc (.cells #[.int .i64 0, .int .i64 0] 25)).c0; have zC1 := (HC.out.alloc (.cells #[.int .i64 0, .int .i64 0] 25)).c1)
      | (go_at_call 14; with_reducible refine (HJ1.out _).mono ?_; clear HJ1 cX0 cX1 zX0 zX1 cC0 cC1 zC0 zC1; rintro e v2 ⟨rfl, hb⟩; (first | ((have TT := HN.out.below hb HN.out.lt; clear HN; have HN := Lib.hid TT; clear TT); have TT := HA.out.below hb HA.out.lt; clear HA; have HA := Lib.hid TT; clear TT; have TT := HB.out.below hb HB.out.lt; clear HB; have HB := Lib.hid TT; clear TT; have TT := HC.out.below hb HC.out.lt; clear HC; have HC := Lib.hid TT; clear TT; have TT := HD.out.below hb HD.out.lt; clear HD; have HD := Lib.hid TT; clear TT; have TT := HX.out.below hb HX.out.lt; clear HX; have HX := Lib.hid TT; clear TT; have TT := HY.out.below hb HY.out.lt; clear HY; have HY := Lib.hid TT; clear TT; have TT := HBN.out.trans (hb.mono HBN.out.size); clear HBN; have HBN := Lib.hid TT; clear TT hb) | (have TT := HA.out.below hb HA.out.lt; clear HA; have HA := Lib.hid TT; clear TT; have TT := HB.out.below hb HB.out.lt; clear HB; have HB := Lib.hid TT; clear TT; have TT := HC.out.below hb HC.out.lt; clear HC; have HC := Lib.hid TT; clear TT; have TT := HD.out.below hb HD.out.lt; clear HD; have HD := Lib.hid TT; clear TT; have TT := HX.out.below hb HX.out.lt; clear HX; have HX := Lib.hid TT; clear TT; have TT := HY.out.below hb HY.out.lt; clear HY; have HY := Lib.hid TT; clear TT; have TT := HBN.out.trans (hb.mono HBN.out.size); clear HBN; have HBN := Lib.hid TT; clear TT hb) | (have NEA := Lib.hid (Nat.ne_of_lt HA.out.lt); have TT := (HA.out.alloc (.cells #[.int .i64 0, .int .i64 0] 25)).below hb (HA.out.alloc (.cells #[.int .i64 0, .int .i64 0] 25)).lt; clear HA; have HA := Lib.hid TT; clear TT; have NEB := Lib.hid (Nat.ne_of_lt HB.out.lt); have TT := (HB.out.alloc (.cells #[.int .i64 0, .int .i64 0] 25)).below hb (HB.out.alloc (.cells #[.int .i64 0, .int .i64 0] 25)).lt; clear HB; have HB := Lib.hid TT; clear TT; have NEC := Lib.hid (Nat.ne_of_lt HC.out.lt); have TT := (HC.out.alloc (.cells #[.int .i64 0, .int .i64 0] 25)).below hb (HC.out.alloc (.cells #[.int .i64 0, .int .i64 0] 25)).lt; clear HC; have HC := Lib.hid TT; clear TT; have NED := Lib.hid (Nat.ne_of_lt HD.out.lt); have TT := (HD.out.alloc (.cells #[.int .i64 0, .int .i64 0] 25)).below hb (HD.out.alloc (.cells #[.int .i64 0, .int .i64 0] 25)).lt; clear HD; have HD := Lib.hid TT; clear TT; have NEX := Lib.hid (Nat.ne_of_lt HX.out.lt); have TT := (HX.out.alloc (.cells #[.int .i64 0, .int .i64 0] 25)).below hb (HX.out.alloc (.cells #[.int .i64 0, .int .i64 0] 25)).lt; clear HX; have HX := Lib.hid TT; clear TT; have NEY := Lib.hid (Nat.ne_of_lt HY.out.lt); have TT := (HY.out.alloc (.cells #[.int .i64 0, .int .i64 0] 25)).below hb (HY.out.alloc (.cells #[.int .i64 0, .int .i64 0] 25)).lt; clear HY; have HY := Lib.hid TT; clear TT; have HN := Lib.hid (show Box v2 v1.heap.size (.int .i64 0) (.int .i64 0) from (Box.new v1 (.int .i64 0) (.int .i64 0) 25).below hb (Box.new v1 (.int .i64 0) (.int .i64 0) 25).lt); have HNL := Lib.hid HBN.out.size; have TT := (HBN.out.trans (((Below.refl v1.heap.size v1).alloc (Nat.le_refl _) (.cells #[.int .i64 0, .int .i64 0] 25)).mono HBN.out.size)).trans (hb.mono (HBN.out.trans (((Below.refl v1.heap.size v1).alloc (Nat.le_refl _) (.cells #[.int .i64 0, .int .i64 0] 25)).mono HBN.out.size)).size); clear HBN; have HBN := Lib.hid TT; clear TT hb)); (try (obtain ⟨n0, n1, n2, n3⟩ := id HN.out))))
    all_goals
      go_wp2_with fail
      go_meet
      first | exact ⟨_, rfl, HN.out.put _ _, HA.out.other NEA.out _ _, HB.out.other NEB.out _ _, HC.out.other NEC.out _ _, HD.out.other NED.out _ _, HX.out.other NEX.out _ _, HY.out.other NEY.out _ _, below_put2 HBN.out HNL.out _ _⟩ | exact ⟨_, rfl, Box.new _ _ _ _, HA.out.alloc _, HB.out.alloc _, HC.out.alloc _, HD.out.alloc _, HX.out.alloc _, HY.out.alloc _, HBN.out.alloc HBN.out.size _⟩
  case rest =>
    obtain ⟨bZ, rfl, BZ, BA, BB, BC, BD, BX, BY, hB⟩ := hcut
    clear HBN HA HB HC HD HX HY
    have HA := Lib.hid BA
    have HB := Lib.hid BB
    have HC := Lib.hid BC
    have HD := Lib.hid BD
    have HX := Lib.hid BX
    have HY := Lib.hid BY
    have HZ := Lib.hid BZ
    have HBN := Lib.hid hB
    clear hB BA BB BC BD BX BY BZ
    go_upto_region 5 with fail
    generalize hwc1 : wc = wc1 at *
    go_cut [13] (fun s wx => ∃ bb, s = .pointer (some ⟨bb, 0, none⟩) ∧ Box wx bb (.int .i64 u.k) (.int .i64 u.c) ∧ Box wx (w.heap.size) (.int .i64 a.k) (.int .i64 a.c) ∧ Box wx (w.heap.size + 1) (.int .i64 b.k) (.int .i64 b.c) ∧ Box wx (w.heap.size + 1 + 1) (.int .i64 c.k) (.int .i64 c.c) ∧ Box wx (w.heap.size + 1 + 1 + 1) (.int .i64 d.k) (.int .i64 d.c) ∧ Box wx (bX) (.int .i64 a.k) (.int .i64 a.c) ∧ Box wx (bY) (.int .i64 b.k) (.int .i64 b.c) ∧ Box wx (bZ) (.int .i64 z.k) (.int .i64 z.c) ∧ Below w.heap.size w wx)
    case first =>
      clear F0 F1 F2 F3 F4 F5 F6 F7 F8 F9 F10 F11
      have TT := HA.out.drew; clear HA; have HA := Lib.hid TT; clear TT
      have TT := HB.out.drew; clear HB; have HB := Lib.hid TT; clear TT
      have TT := HC.out.drew; clear HC; have HC := Lib.hid TT; clear TT
      have TT := HD.out.drew; clear HD; have HD := Lib.hid TT; clear TT
      have TT := HX.out.drew; clear HX; have HX := Lib.hid TT; clear TT
      have TT := HY.out.drew; clear HY; have HY := Lib.hid TT; clear TT
      have TT := HZ.out.drew; clear HZ; have HZ := Lib.hid TT; clear TT
      have TT := HBN.out.drew; clear HBN; have HBN := Lib.hid TT; clear TT
      obtain ⟨cY0, cY1, -, -⟩ := id HY.out
      obtain ⟨cD0, cD1, -, -⟩ := id HD.out
      have zY0 : (wc1.alloc (.cells #[.int .i64 0, .int .i64 0] 25)).cell? ⟨bY, 0, none⟩ = some (.int .i64 b.k) := (HY.out.alloc (.cells #[.int .i64 0, .int .i64 0] 25)).c0
      have zY1 : (wc1.alloc (.cells #[.int .i64 0, .int .i64 0] 25)).cell? ⟨bY, 1, none⟩ = some (.int .i64 b.c) := (HY.out.alloc (.cells #[.int .i64 0, .int .i64 0] 25)).c1
      have zD0 : (wc1.alloc (.cells #[.int .i64 0, .int .i64 0] 25)).cell? ⟨w.heap.size + 1 + 1 + 1, 0, none⟩ = some (.int .i64 d.k) := (HD.out.alloc (.cells #[.int .i64 0, .int .i64 0] 25)).c0
      have zD1 : (wc1.alloc (.cells #[.int .i64 0, .int .i64 0] 25)).cell? ⟨w.heap.size + 1 + 1 + 1, 1, none⟩ = some (.int .i64 d.c) := (HD.out.alloc (.cells #[.int .i64 0, .int .i64 0] 25)).c1
      go_region_with (first
        | (go_at_call 10; with_reducible refine (HO3.out _).mono ?_; clear HO3 cY0 cY1 zY0 zY1 cD0 cD1 zD0 zD1; rintro e v1 ⟨rfl, hb⟩; (first | ((have TT := HN.out.below hb HN.out.lt; clear HN; have HN := Lib.hid TT; clear TT); have TT := HA.out.below hb HA.out.lt; clear HA; have HA := Lib.hid TT; clear TT; have TT := HB.out.below hb HB.out.lt; clear HB; have HB := Lib.hid TT; clear TT; have TT := HC.out.below hb HC.out.lt; clear HC; have HC := Lib.hid TT; clear TT; have TT := HD.out.below hb HD.out.lt; clear HD; have HD := Lib.hid TT; clear TT; have TT := HX.out.below hb HX.out.lt; clear HX; have HX := Lib.hid TT; clear TT; have TT := HY.out.below hb HY.out.lt; clear HY; have HY := Lib.hid TT; clear TT; have TT := HZ.out.below hb HZ.out.lt; clear HZ; have HZ := Lib.hid TT; clear TT; have TT := HBN.out.trans (hb.mono HBN.out.size); clear HBN; have HBN := Lib.hid TT; clear TT hb) | (have TT := HA.out.below hb HA.out.lt; clear HA; have HA := Lib.hid TT; clear TT; have TT := HB.out.below hb HB.out.lt; clear HB; have HB := Lib.hid TT; clear TT; have TT := HC.out.below hb HC.out.lt; clear HC; have HC := Lib.hid TT; clear TT; have TT := HD.out.below hb HD.out.lt; clear HD; have HD := Lib.hid TT; clear TT; have TT := HX.out.below hb HX.out.lt; clear HX; have HX := Lib.hid TT; clear TT; have TT := HY.out.below hb HY.out.lt; clear HY; have HY := Lib.hid TT; clear TT; have TT := HZ.out.below hb HZ.out.lt; clear HZ; have HZ := Lib.hid TT; clear TT; have TT := HBN.out.trans (hb.mono HBN.out.size); clear HBN; have HBN := Lib.hid TT; clear TT hb) | (have NEA := Lib.hid (Nat.ne_of_lt HA.out.lt); have TT := (HA.out.alloc (.cells #[.int .i64 0, .int .i64 0] 25)).below hb (HA.out.alloc (.cells #[.int .i64 0, .int .i64 0] 25)).lt; clear HA; have HA := Lib.hid TT; clear TT; have NEB := Lib.hid (Nat.ne_of_lt HB.out.lt); have TT := (HB.out.alloc (.cells #[.int .i64 0, .int .i64 0] 25)).below hb (HB.out.alloc (.cells #[.int .i64 0, .int .i64 0] 25)).lt; clear HB; have HB := Lib.hid TT; clear TT; have NEC := Lib.hid (Nat.ne_of_lt HC.out.lt); have TT := (HC.out.alloc (.cells #[.int .i64 0, .int .i64 0] 25)).below hb (HC.out.alloc (.cells #[.int .i64 0, .int .i64 0] 25)).lt; clear HC; have HC := Lib.hid TT; clear TT; have NED := Lib.hid (Nat.ne_of_lt HD.out.lt); have TT := (HD.out.alloc (.cells #[.int .i64 0, .int .i64 0] 25)).below hb (HD.out.alloc (.cells #[.int .i64 0, .int .i64 0] 25)).lt; clear HD; have HD := Lib.hid TT; clear TT; have NEX := Lib.hid (Nat.ne_of_lt HX.out.lt); have TT := (HX.out.alloc (.cells #[.int .i64 0, .int .i64 0] 25)).below hb (HX.out.alloc (.cells #[.int .i64 0, .int .i64 0] 25)).lt; clear HX; have HX := Lib.hid TT; clear TT; have NEY := Lib.hid (Nat.ne_of_lt HY.out.lt); have TT := (HY.out.alloc (.cells #[.int .i64 0, .int .i64 0] 25)).below hb (HY.out.alloc (.cells #[.int .i64 0, .int .i64 0] 25)).lt; clear HY; have HY := Lib.hid TT; clear TT; have NEZ := Lib.hid (Nat.ne_of_lt HZ.out.lt); have TT := (HZ.out.alloc (.cells #[.int .i64 0, .int .i64 0] 25)).below hb (HZ.out.alloc (.cells #[.int .i64 0, .int .i64 0] 25)).lt; clear HZ; have HZ := Lib.hid TT; clear TT; have HN := Lib.hid (show Box v1 wc1.heap.size (.int .i64 0) (.int .i64 0) from (Box.new wc1.drew (.int .i64 0) (.int .i64 0) 25).below hb (Box.new wc1.drew (.int .i64 0) (.int .i64 0) 25).lt); have HNL := Lib.hid HBN.out.size; have TT := (HBN.out.trans (((Below.refl wc1.drew.heap.size wc1.drew).alloc (Nat.le_refl _) (.cells #[.int .i64 0, .int .i64 0] 25)).mono HBN.out.size)).trans (hb.mono (HBN.out.trans (((Below.refl wc1.drew.heap.size wc1.drew).alloc (Nat.le_refl _) (.cells #[.int .i64 0, .int .i64 0] 25)).mono HBN.out.size)).size); clear HBN; have HBN := Lib.hid TT; clear TT hb)); obtain ⟨cY0, cY1, -, -⟩ := id HY.out; obtain ⟨cD0, cD1, -, -⟩ := id HD.out; have zY0 := (HY.out.alloc (.cells #[.int .i64 0, .int .i64 0] 25)).c0; have zY1 := (HY.out.alloc (.cells #[.int .i64 0, .int .i64 0] 25)).c1; have zD0 := (HD.out.alloc (.cells #[.int .i64 0, .int .i64 0] 25)).c0; have zD1 := (HD.out.alloc (.cells #[.int .i64 0, .int .i64 0] 25)).c1)
        | (go_at_call 14; with_reducible refine (HJ2.out _).mono ?_; clear HJ2 cY0 cY1 zY0 zY1 cD0 cD1 zD0 zD1; rintro e v2 ⟨rfl, hb⟩; (first | ((have TT := HN.out.below hb HN.out.lt; clear HN; have HN := Lib.hid TT; clear TT); have TT := HA.out.below hb HA.out.lt; clear HA; have HA := Lib.hid TT; clear TT; have TT := HB.out.below hb HB.out.lt; clear HB; have HB := Lib.hid TT; clear TT; have TT := HC.out.below hb HC.out.lt; clear HC; have HC := Lib.hid TT; clear TT; have TT := HD.out.below hb HD.out.lt; clear HD; have HD := Lib.hid TT; clear TT; have TT := HX.out.below hb HX.out.lt; clear HX; have HX := Lib.hid TT; clear TT; have TT := HY.out.below hb HY.out.lt; clear HY; have HY := Lib.hid TT; clear TT; have TT := HZ.out.below hb HZ.out.lt; clear HZ; have HZ := Lib.hid TT; clear TT; have TT := HBN.out.trans (hb.mono HBN.out.size); clear HBN; have HBN := Lib.hid TT; clear TT hb) | (have TT := HA.out.below hb HA.out.lt; clear HA; have HA := Lib.hid TT; clear TT; have TT := HB.out.below hb HB.out.lt; clear HB; have HB := Lib.hid TT; clear TT; have TT := HC.out.below hb HC.out.lt; clear HC; have HC := Lib.hid TT; clear TT; have TT := HD.out.below hb HD.out.lt; clear HD; have HD := Lib.hid TT; clear TT; have TT := HX.out.below hb HX.out.lt; clear HX; have HX := Lib.hid TT; clear TT; have TT := HY.out.below hb HY.out.lt; clear HY; have HY := Lib.hid TT; clear TT; have TT := HZ.out.below hb HZ.out.lt; clear HZ; have HZ := Lib.hid TT; clear TT; have TT := HBN.out.trans (hb.mono HBN.out.size); clear HBN; have HBN := Lib.hid TT; clear TT hb) | (have NEA := Lib.hid (Nat.ne_of_lt HA.out.lt); have TT := (HA.out.alloc (.cells #[.int .i64 0, .int .i64 0] 25)).below hb (HA.out.alloc (.cells #[.int .i64 0, .int .i64 0] 25)).lt; clear HA; have HA := Lib.hid TT; clear TT; have NEB := Lib.hid (Nat.ne_of_lt HB.out.lt); have TT := (HB.out.alloc (.cells #[.int .i64 0, .int .i64 0] 25)).below hb (HB.out.alloc (.cells #[.int .i64 0, .int .i64 0] 25)).lt; clear HB; have HB := Lib.hid TT; clear TT; have NEC := Lib.hid (Nat.ne_of_lt HC.out.lt); have TT := (HC.out.alloc (.cells #[.int .i64 0, .int .i64 0] 25)).below hb (HC.out.alloc (.cells #[.int .i64 0, .int .i64 0] 25)).lt; clear HC; have HC := Lib.hid TT; clear TT; have NED := Lib.hid (Nat.ne_of_lt HD.out.lt); have TT := (HD.out.alloc (.cells #[.int .i64 0, .int .i64 0] 25)).below hb (HD.out.alloc (.cells #[.int .i64 0, .int .i64 0] 25)).lt; clear HD; have HD := Lib.hid TT; clear TT; have NEX := Lib.hid (Nat.ne_of_lt HX.out.lt); have TT := (HX.out.alloc (.cells #[.int .i64 0, .int .i64 0] 25)).below hb (HX.out.alloc (.cells #[.int .i64 0, .int .i64 0] 25)).lt; clear HX; have HX := Lib.hid TT; clear TT; have NEY := Lib.hid (Nat.ne_of_lt HY.out.lt); have TT := (HY.out.alloc (.cells #[.int .i64 0, .int .i64 0] 25)).below hb (HY.out.alloc (.cells #[.int .i64 0, .int .i64 0] 25)).lt; clear HY; have HY := Lib.hid TT; clear TT; have NEZ := Lib.hid (Nat.ne_of_lt HZ.out.lt); have TT := (HZ.out.alloc (.cells #[.int .i64 0, .int .i64 0] 25)).below hb (HZ.out.alloc (.cells #[.int .i64 0, .int .i64 0] 25)).lt; clear HZ; have HZ := Lib.hid TT; clear TT; have HN := Lib.hid (show Box v2 v1.heap.size (.int .i64 0) (.int .i64 0) from (Box.new v1 (.int .i64 0) (.int .i64 0) 25).below hb (Box.new v1 (.int .i64 0) (.int .i64 0) 25).lt); have HNL := Lib.hid HBN.out.size; have TT := (HBN.out.trans (((Below.refl v1.heap.size v1).alloc (Nat.le_refl _) (.cells #[.int .i64 0, .int .i64 0] 25)).mono HBN.out.size)).trans (hb.mono (HBN.out.trans (((Below.refl v1.heap.size v1).alloc (Nat.le_refl _) (.cells #[.int .i64 0, .int .i64 0] 25)).mono HBN.out.size)).size); clear HBN; have HBN := Lib.hid TT; clear TT hb)); (try (obtain ⟨n0, n1, n2, n3⟩ := id HN.out))))
      all_goals
        go_wp2_with fail
        go_meet
        first | exact ⟨_, rfl, HN.out.put _ _, HA.out.other NEA.out _ _, HB.out.other NEB.out _ _, HC.out.other NEC.out _ _, HD.out.other NED.out _ _, HX.out.other NEX.out _ _, HY.out.other NEY.out _ _, HZ.out.other NEZ.out _ _, below_put2 HBN.out HNL.out _ _⟩ | exact ⟨_, rfl, Box.new _ _ _ _, HA.out.alloc _, HB.out.alloc _, HC.out.alloc _, HD.out.alloc _, HX.out.alloc _, HY.out.alloc _, HZ.out.alloc _, HBN.out.alloc HBN.out.size _⟩
    case rest =>
      obtain ⟨bU, rfl, BU, BA, BB, BC, BD, BX, BY, BZ, hB⟩ := hcut
      clear HBN HA HB HC HD HX HY HZ
      have HA := Lib.hid BA
      have HB := Lib.hid BB
      have HC := Lib.hid BC
      have HD := Lib.hid BD
      have HX := Lib.hid BX
      have HY := Lib.hid BY
      have HZ := Lib.hid BZ
      have HU := Lib.hid BU
      have HBN := Lib.hid hB
      clear hB BA BB BC BD BX BY BZ BU
      go_wp2_with fail
      have kX0 := cell_regrown HX.out.c0
      have kX1 := cell_regrown HX.out.c1
      have kY0 := cell_regrown HY.out.c0
      have kY1 := cell_regrown HY.out.c1
      have kZ0 := cell_regrown HZ.out.c0
      have kZ1 := cell_regrown HZ.out.c1
      have kU0 := cell_regrown HU.out.c0
      have kU1 := cell_regrown HU.out.c1
      have q0 := fun d os => Calls.regrown_of (F0.out (grow (redrawn wc d) os))
      have q1 := fun d os => Calls.regrown_of (F1.out (grow (redrawn wc d) os))
      have q2 := fun d os => Calls.regrown_of (F2.out (grow (redrawn wc d) os))
      have q3 := fun d os => Calls.regrown_of (F3.out (grow (redrawn wc d) os))
      have q4 := fun d os => Calls.regrown_of (F4.out (grow (redrawn wc d) os))
      have q5 := fun d os => Calls.regrown_of (F5.out (grow (redrawn wc d) os))
      have q6 := fun d os => Calls.regrown_of (F6.out (grow (redrawn wc d) os))
      have q7 := fun d os => Calls.regrown_of (F7.out (grow (redrawn wc d) os))
      have q8 := fun d os => Calls.regrown_of (F8.out (grow (redrawn wc d) os))
      have q9 := fun d os => Calls.regrown_of (F9.out (grow (redrawn wc d) os))
      have q10 := fun d os => Calls.regrown_of (F10.out (grow (redrawn wc d) os))
      have q11 := fun d os => Calls.regrown_of (F11.out (grow (redrawn wc d) os))
      refine wp_region_quiet_below (by kernel_rfl) (by kernel_rfl) ?_
      repeat (first | go_big_quiet_step (first | with_reducible exact q0 _ _ | with_reducible exact q1 _ _ | with_reducible exact q2 _ _ | with_reducible exact q3 _ _ | with_reducible exact q4 _ _ | with_reducible exact q5 _ _ | with_reducible exact q6 _ _ | with_reducible exact q7 _ _ | with_reducible exact q8 _ _ | with_reducible exact q9 _ _ | with_reducible exact q10 _ _ | with_reducible exact q11 _ _) | quiet_step (first | with_reducible exact q0 _ _ | with_reducible exact q1 _ _ | with_reducible exact q2 _ _ | with_reducible exact q3 _ _ | with_reducible exact q4 _ _ | with_reducible exact q5 _ _ | with_reducible exact q6 _ _ | with_reducible exact q7 _ _ | with_reducible exact q8 _ _ | with_reducible exact q9 _ _ | with_reducible exact q10 _ _ | with_reducible exact q11 _ _))
      refine wpQuiet_nil ?_
      intro _ hw'
      obtain ⟨⟨dq, osq⟩, hw''⟩ := hw'
      subst hw''
      have hb := below_regrown wc dq osq
      clear kX0 kX1 kY0 kY1 kZ0 kZ1 kU0 kU1 q0 q1 q2 q3 q4 q5 q6 q7 q8 q9 q10 q11
      have TT := HA.out.below hb HA.out.lt; clear HA; have HA := Lib.hid TT; clear TT
      have TT := HB.out.below hb HB.out.lt; clear HB; have HB := Lib.hid TT; clear TT
      have TT := HC.out.below hb HC.out.lt; clear HC; have HC := Lib.hid TT; clear TT
      have TT := HD.out.below hb HD.out.lt; clear HD; have HD := Lib.hid TT; clear TT
      have TT := HX.out.below hb HX.out.lt; clear HX; have HX := Lib.hid TT; clear TT
      have TT := HY.out.below hb HY.out.lt; clear HY; have HY := Lib.hid TT; clear TT
      have TT := HZ.out.below hb HZ.out.lt; clear HZ; have HZ := Lib.hid TT; clear TT
      have TT := HU.out.below hb HU.out.lt; clear HU; have HU := Lib.hid TT; clear TT
      have TT := HBN.out.trans (hb.mono HBN.out.size); clear HBN; have HBN := Lib.hid TT; clear TT hb
      generalize grow (redrawn wc dq) osq = W1q at *
      go_wp2_with fail
      go_ret
      exact ⟨rfl, HBN.out⟩
end Go.Proofs.Ytehfhconhcefbaa
