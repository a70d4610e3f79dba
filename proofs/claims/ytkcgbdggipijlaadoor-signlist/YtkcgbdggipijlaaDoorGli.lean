import Derived.Test.YtkcgbdggipijlaaDoorSigF
import Derived.Test.YtkcgbdggipijlaaDoorSigN
namespace Go.Proofs.YtkcgbdggipijlaaDoor
open Go Go.RowKit Go.Sort

set_option maxRecDepth 100000 in
set_option maxHeartbeats 8000000 in
theorem list_law (a : Int) (w : World) (hT : Tabs w) :
    Calls Tryd.prog 6 #[.int .i64 a] w fun e w' => e = .returned (.bool true) ∧ Below w.heap.size w w' := by
  have J0 : Hid (∀ W, Tabs W → Calls Tryd.prog 14 #[.int .i64 a, .int .i64 0] W fun e w' => e = .returned (.int .i64 (sS a : Nat)) ∧ Below W.heap.size W w') := fun W hT => by have h := gJoin_any a 0 W; rw [show sS 0 = 0 from rfl, Nat.or_zero] at h; exact h
  have N0 : Hid (∀ W, Tabs W → Calls Tryd.prog 23 #[.int .i64 a] W fun e w' => e = .returned (.int .i64 (negN (sS a) : Nat)) ∧ Below W.heap.size W w') := fun W hT => gNeg_any a W hT
  have N1 : Hid (∀ W, Tabs W → Calls Tryd.prog 23 #[.int .i64 (negN (sS a) : Nat)] W fun e w' => e = .returned (.int .i64 (sS a : Nat)) ∧ Below W.heap.size W w') := fun W hT => by have h := gNeg_any (negN (sS a) : Nat) W hT; rw [sS_of (negN_lt (sS_lt a)), neg_neg (sS_lt a)] at h; exact h
  have A0 : Hid (∀ W, Tabs W → Calls Tryd.prog 25 #[.int .i64 0, .int .i64 a] W fun e w' => e = .returned (.int .i64 0) ∧ Below W.heap.size W w') := fun W hT => by have h := gAdd_any 0 a W hT; rw [show sS 0 = 0 from rfl, add_zeroN (sS_lt a)] at h; exact h
  have M0 : Hid (∀ W, Tabs W → Calls Tryd.prog 29 #[.int .i64 a, .int .i64 0] W fun e w' => e = .returned (.int .i64 0) ∧ Below W.heap.size W w') := fun W hT => by have h := gMul_any a 0 W hT; rw [show sS 0 = 0 from rfl, mul_zeroN (sS_lt a)] at h; exact h
  have A1 : Hid (∀ W, Tabs W → Calls Tryd.prog 25 #[.int .i64 a, .int .i64 2] W fun e w' => e = .returned (.int .i64 (sS a : Nat)) ∧ Below W.heap.size W w') := fun W hT => by have h := gAdd_any a 2 W hT; rw [show sS 2 = 2 from rfl, add_two (sS_lt a)] at h; exact h
  have H0 : Hid (∀ W, Tabs W → Calls Tryd.prog 21 #[.int .i64 a] W fun e w' => e = .returned (.int .i64 ((lst (sS a)).length : Nat)) ∧ Below W.heap.size W w') := fun W hT => gHeight_any a W
  have HL : Hid (∀ W, Calls Tryd.prog 19 #[.int .i64 a] W fun e w' => ∃ u, e = .returned u ∧ w'.ownsRow W.heap.size 3 1 u (lst (sS a)).length ((lst (sS a)).map (Value.int .i64)) ∧ Below W.heap.size W w') := fun W => gList_any a W
  have HM : Hid (∀ z ∈ lst (sS a), z = -1 ∨ z = 0 ∨ z = 1) := fun z h => lst_mem h
  have HU := Lib.hid (lst_up (sS a))
  have HE := Lib.hid (orL_lst (sS_lt a))
  have h3 := lst_len (sS a)
  generalize lst (sS a) = l at *
  generalize negN (sS a) = nx at *
  generalize sS a = x at *
  obtain ⟨T, hTl⟩ : ∃ T, l.length = T := ⟨_, rfl⟩
  rw [hTl] at HL H0 h3
  have HTl := Lib.hid hTl
  clear hTl
  have HT := Lib.hid hT
  have HBN : Hid (Below w.heap.size w w) := Below.refl _ _
  have HAW := Lib.hid gawake_any
  clear hT
  go_enter Tryd.func6, Tryd.ntmps6
  go_wp2_with fail
  refine (HAW.out _ HT.out).mono ?_
  rintro e w1 ⟨rfl, hb⟩
  have TT := HT.out.on hb; clear HT; have HT := Lib.hid TT; clear TT
  have TT := HBN.out.trans (hb.mono HBN.out.size); clear HBN; have HBN := Lib.hid TT; clear TT hb
  go_wp2_with fail
  refine (HL.out _).mono ?_
  clear HL HAW
  rintro e w2 ⟨u, rfl, hown, hb⟩
  obtain ⟨a1, c1, rfl, -, hIs⟩ := is_of_ints hown
  have HI := Lib.hid hIs
  clear hown hIs
  have TT := HT.out.on hb; clear HT; have HT := Lib.hid TT; clear TT
  have TT := HBN.out.trans (hb.mono HBN.out.size); clear HBN; have HBN := Lib.hid TT; clear TT hb
  go_wp2_with fail
  go_loopw [5, 6] (fun m i wr => ∃ q : Nat, q ≤ T ∧ i = .int .i64 q ∧ m = .int .i64 (orL (l.take q) : Nat) ∧ Hid (Below w2.heap.size w2 wr)) (fun _ i _ => T - (intOf i).toNat)
  case atStart => exact ⟨0, Nat.zero_le _, rfl, rfl, Below.refl _ _⟩
  case round =>
    obtain ⟨q, hq, rfl, rfl, hBw⟩ := hrel
    by_cases hlt : q < T
    · have hqk : q < l.length := by rw [HTl.out]; exact hlt
      obtain ⟨b, o, rfl, hbl, hcell⟩ := HI.out q hqk
      obtain ⟨z, hz⟩ : ∃ z, l[q]?.getD 0 = z := ⟨_, rfl⟩
      have hcz := (hBw.out.cell (p := ⟨b, o + q, none⟩) hbl).trans hcell
      rw [hz] at hcz
      have hzm : -1 ≤ z ∧ z ≤ 1 := by rcases HM.out z (get_mem hqk hz) with h | h | h <;> omega
      obtain ⟨hz1, hz2⟩ := hzm
      have HX := Lib.hid (take_next hqk hz)
      have HE2 : Hid (orL (l.take (q + 1)) = orL (l.take q) ||| sg z) := by rw [Hid, HX.out]; simp [orL]
      have hprev : 0 < q → ∃ y, y < z ∧ wr.cell? ⟨b, o + (q - 1), none⟩ = some (.int .i64 y) := by
        intro h0
        have hq1 : q - 1 < l.length := by omega
        obtain ⟨b', o', e', hbl', hcell'⟩ := HI.out (q - 1) hq1
        cases e'
        refine ⟨l[q - 1]?.getD 0, ?_, (hBw.out.cell (p := ⟨b, o + (q - 1), none⟩) hbl).trans hcell'⟩
        rw [← hz]
        simp only [hq1, hqk, List.getElem?_eq_getElem, Option.getD_some]
        exact List.pairwise_iff_getElem.1 HU.out (q - 1) q hq1 hqk (by omega)
      have HO := Lib.hid (fun W => gOf_any z W)
      have hm8 := orL_lt (l.take q)
      have hg8 := sg_lt z
      generalize orL (l.take q) = m0 at *
      generalize sg z = gz at *
      have HJ : Hid (∀ W, Calls Tryd.prog 14 #[.int .i64 (m0 : Int), .int .i64 (gz : Int)] W fun e w' => e = .returned (.int .i64 (m0 ||| gz : Nat)) ∧ Below W.heap.size W w') := fun W => by
        have h := gJoin_any (m0 : Int) (gz : Int) W
        rw [sS_of hm8, sS_of hg8] at h
        exact h
      have hd1 : decide (z < -1) = false := by rw [decide_eq_false_iff_not]; omega
      have hd2 : decide (1 < z) = false := by rw [decide_eq_false_iff_not]; omega
      have hqi : (q : Int) < (T : Int) := by omega
      clear hcell hz hqk hm8 hg8
      have fin : ∀ w4 : World, Below w2.heap.size w2 w4 → ∀ m, m = m0 ||| gz → ∃ r : Nat, r ≤ T ∧ (Value.int .i64 ((q : Int) + 1)) = .int .i64 r ∧ (Value.int .i64 (m : Nat)) = .int .i64 (orL (l.take r) : Nat) ∧ Hid (Below w2.heap.size w2 w4) := by
        intro w4 h4 m hm
        exact ⟨q + 1, by omega, by simp, by rw [HE2.out, hm], h4⟩
      have FIN := Lib.hid fin
      clear fin
      obtain rfl | rfl | rfl : q = 0 ∨ q = 1 ∨ q = 2 := by omega
      · replace hcz : wr.cell? ⟨b, o, none⟩ = some (.int .i64 z) := hcz
        clear hprev
        go_wp2_with fail
        go_quiet (fail)
        go_wp2_with (first
          | (go_at_call 12; refine (HO.out _).mono ?_; rintro e w3 ⟨rfl, hb⟩; have HB3 := Lib.hid ((below_drewN hBw.out _).trans (hb.mono (below_drewN hBw.out _).size)); clear hb)
          | (go_at_call 14; refine (HJ.out _).mono ?_; rintro e w4 ⟨rfl, hb⟩; have HB4 := Lib.hid (HB3.out.trans (hb.mono HB3.out.size)); clear hb))
        go_roundw
        case rel => exact ⟨1, by omega, by go_num, by rw [HE2.out], HB4⟩
        case measure => simp [intOf]; omega
      · obtain ⟨y, hy, hcy⟩ := hprev (by omega)
        replace hcy : wr.cell? ⟨b, o, none⟩ = some (.int .i64 y) := hcy
        have hd3 : decide (z ≤ y) = false := by rw [decide_eq_false_iff_not]; omega
        clear hprev
        go_wp2_with fail
        go_quiet (fail)
        go_wp2_with (first
          | (go_at_call 12; refine (HO.out _).mono ?_; rintro e w3 ⟨rfl, hb⟩; have HB3 := Lib.hid ((below_drewN hBw.out _).trans (hb.mono (below_drewN hBw.out _).size)); clear hb)
          | (go_at_call 14; refine (HJ.out _).mono ?_; rintro e w4 ⟨rfl, hb⟩; have HB4 := Lib.hid (HB3.out.trans (hb.mono HB3.out.size)); clear hb))
        go_roundw
        case rel => exact ⟨2, by omega, by go_num, by rw [HE2.out], HB4⟩
        case measure => simp [intOf]; omega
      · obtain ⟨y, hy, hcy⟩ := hprev (by omega)
        replace hcy : wr.cell? ⟨b, o + 1, none⟩ = some (.int .i64 y) := hcy
        have hd3 : decide (z ≤ y) = false := by rw [decide_eq_false_iff_not]; omega
        clear hprev
        go_wp2_with fail
        go_quiet (fail)
        go_wp2_with (first
          | (go_at_call 12; refine (HO.out _).mono ?_; rintro e w3 ⟨rfl, hb⟩; have HB3 := Lib.hid ((below_drewN hBw.out _).trans (hb.mono (below_drewN hBw.out _).size)); clear hb)
          | (go_at_call 14; refine (HJ.out _).mono ?_; rintro e w4 ⟨rfl, hb⟩; have HB4 := Lib.hid (HB3.out.trans (hb.mono HB3.out.size)); clear hb))
        go_roundw
        case rel => exact ⟨3, by omega, by go_num, by rw [HE2.out], HB4⟩
        case measure => simp [intOf]; omega
    · obtain rfl : q = T := by omega
      have hl : l.take q = l := List.take_of_length_le (by rw [HTl.out]; exact Nat.le_refl _)
      rw [hl, HE.out]
      have HT := Lib.hid (HT.out.on (hBw.out.mono (Nat.le_refl _)))
      have HBN := Lib.hid (HBN.out.trans (hBw.out.mono HBN.out.size))
      clear hl HI
      go_wp2_with (first
        | (go_at_call 14; (first | with_reducible refine (J0.out _ HT.out).mono ?_); rintro e wn ⟨rfl, hbn⟩; have hbt := HT.out.on hbn; clear HT; have HT := Lib.hid hbt; clear hbt; have hbx := HBN.out.trans (hbn.mono HBN.out.size); clear HBN hbn; have HBN := Lib.hid hbx; clear hbx)
        | (go_at_call 23; (first | with_reducible refine (N0.out _ HT.out).mono ?_ | with_reducible refine (N1.out _ HT.out).mono ?_); rintro e wn ⟨rfl, hbn⟩; have hbt := HT.out.on hbn; clear HT; have HT := Lib.hid hbt; clear hbt; have hbx := HBN.out.trans (hbn.mono HBN.out.size); clear HBN hbn; have HBN := Lib.hid hbx; clear hbx)
        | (go_at_call 25; (first | with_reducible refine (A0.out _ HT.out).mono ?_ | with_reducible refine (A1.out _ HT.out).mono ?_); rintro e wn ⟨rfl, hbn⟩; have hbt := HT.out.on hbn; clear HT; have HT := Lib.hid hbt; clear hbt; have hbx := HBN.out.trans (hbn.mono HBN.out.size); clear HBN hbn; have HBN := Lib.hid hbx; clear hbx)
        | (go_at_call 29; (first | with_reducible refine (M0.out _ HT.out).mono ?_); rintro e wn ⟨rfl, hbn⟩; have hbt := HT.out.on hbn; clear HT; have HT := Lib.hid hbt; clear hbt; have hbx := HBN.out.trans (hbn.mono HBN.out.size); clear HBN hbn; have HBN := Lib.hid hbx; clear hbx)
        | (go_at_call 21; (first | with_reducible refine (H0.out _ HT.out).mono ?_); rintro e wn ⟨rfl, hbn⟩; have hbt := HT.out.on hbn; clear HT; have HT := Lib.hid hbt; clear hbt; have hbx := HBN.out.trans (hbn.mono HBN.out.size); clear HBN hbn; have HBN := Lib.hid hbx; clear hbx))
      go_ret
      exact ⟨rfl, HBN.out⟩
end Go.Proofs.YtkcgbdggipijlaaDoor
