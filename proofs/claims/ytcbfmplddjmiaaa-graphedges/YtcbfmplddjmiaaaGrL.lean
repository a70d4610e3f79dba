/- GraphEdges, walked. -/
import Derived.Test.YtcbfmplddjmiaaaGrL0
namespace Go.Proofs.Ytcbfmplddjmiaaa
open Go Go.RowKit Go.Sort

set_option maxRecDepth 100000 in
set_option maxHeartbeats 16000000 in
theorem graphEdges_any (av : Option Addr) (g : List (List Int)) (cap n : Nat) (a b c : Int) (w : World) (hG : GIs w.heap.size w av g) (hn : g.length = n) (hm : n ≤ maxLen) :
    Calls Try.prog 6 #[.slice av n cap, .int .i64 a, .int .i64 b, .int .i64 c] w fun e w' => e = .returned (.bool true) ∧ Below w.heap.size w w' := by
  have HG := Lib.hid hG
  have HN := Lib.hid hn
  have HM := Lib.hid hm
  clear hG hn hm
  have HA := Lib.hid (awake10_any w)
  have HFW := Lib.hid (fun W (h : Below w.heap.size w W) => Few_any av g cap n W (HG.out.on h) HN.out HM.out)
  go_enter Try.func6, Try.ntmps6
  go_upto_region 2 with (go_at_call 9; refine HA.out.mono ?_; rintro e w1 ⟨rfl, hb1⟩; have HB1 := Lib.hid hb1; clear hb1)
  by_cases hF : FewG g
  · have hF40 : n ≤ 40 := HN.out ▸ hF.1
    have HF := Lib.hid hF
    clear hF
    have HFT : Hid (∀ W (h : Below w.heap.size w W), Calls Try.prog 10 #[.slice av n cap] W fun e w' => e = .returned (.bool true) ∧ Below W.heap.size W w') := Lib.hid fun W h => (HFW.out W h).mono fun e w' ⟨bf, he, hbf, hb⟩ => ⟨by rw [he, hbf.2 HF.out], hb⟩
    by_cases h1 : a < 0
    · go_wp2_with (go_at_call 10; refine (HFT.out _ HB1.out).mono ?_; rintro e w2 ⟨rfl, hb2⟩; have HB2 := Lib.hid (HB1.out.trans (hb2.mono HB1.out.size)); clear hb2)
      go_ret
      exact ⟨rfl, HB2.out⟩
    · by_cases h2 : (n : Int) ≤ a
      · go_wp2_with (go_at_call 10; refine (HFT.out _ HB1.out).mono ?_; rintro e w2 ⟨rfl, hb2⟩; have HB2 := Lib.hid (HB1.out.trans (hb2.mono HB1.out.size)); clear hb2)
        go_ret
        exact ⟨rfl, HB2.out⟩
      · by_cases h3 : b < 0
        · go_wp2_with (go_at_call 10; refine (HFT.out _ HB1.out).mono ?_; rintro e w2 ⟨rfl, hb2⟩; have HB2 := Lib.hid (HB1.out.trans (hb2.mono HB1.out.size)); clear hb2)
          go_ret
          exact ⟨rfl, HB2.out⟩
        · by_cases h4 : (n : Int) ≤ b
          · go_wp2_with (go_at_call 10; refine (HFT.out _ HB1.out).mono ?_; rintro e w2 ⟨rfl, hb2⟩; have HB2 := Lib.hid (HB1.out.trans (hb2.mono HB1.out.size)); clear hb2)
            go_ret
            exact ⟨rfl, HB2.out⟩
          · by_cases h5 : c < 0
            · go_wp2_with (go_at_call 10; refine (HFT.out _ HB1.out).mono ?_; rintro e w2 ⟨rfl, hb2⟩; have HB2 := Lib.hid (HB1.out.trans (hb2.mono HB1.out.size)); clear hb2)
              go_ret
              exact ⟨rfl, HB2.out⟩
            · by_cases h6 : (n : Int) ≤ c
              · go_wp2_with (go_at_call 10; refine (HFT.out _ HB1.out).mono ?_; rintro e w2 ⟨rfl, hb2⟩; have HB2 := Lib.hid (HB1.out.trans (hb2.mono HB1.out.size)); clear hb2)
                go_ret
                exact ⟨rfl, HB2.out⟩
              · obtain ⟨x, rfl⟩ : ∃ x : Nat, a = (x : Int) := ⟨a.toNat, by omega⟩
                obtain ⟨y, rfl⟩ : ∃ y : Nat, b = (y : Int) := ⟨b.toNat, by omega⟩
                obtain ⟨z, rfl⟩ : ∃ z : Nat, c = (z : Int) := ⟨c.toNat, by omega⟩
                have hx : x < n := by omega
                have hy : y < n := by omega
                have hz : z < n := by omega
                have hxi : (x : Int) < (n : Int) := by omega
                have hyi : (y : Int) < (n : Int) := by omega
                have hzi : (z : Int) < (n : Int) := by omega
                have hnn : ((n : Int) != (n : Int)) = false := by simp
                have HWI := Lib.hid (fun W (h : Below w.heap.size w W) => With_g av g cap n (x : Int) (y : Int) W (HG.out.on h) HF.out HN.out (edge g) (fun _ _ _ _ => rfl))
                have HWO := Lib.hid (fun W (h : Below w.heap.size w W) => Without_g av g cap n (x : Int) (y : Int) W (HG.out.on h) HF.out HN.out (edge g) (fun _ _ _ _ => rfl))
                have HRE := Lib.hid (fun (s : Int) W (h : Below w.heap.size w W) => Reach_any av g cap n s W (HG.out.on h) HF.out HN.out)
                have HF1 := Lib.hid (few_rows (n := n) hF40 (withI (edge g) (x : Int) (y : Int)))
                have HF2 := Lib.hid (few_rows (n := n) hF40 (cutI (edge g) (x : Int) (y : Int)))
                have HE1 : Hid (∀ p q, p < n → q < n → edge (zss (rows n (withI (edge g) (x : Int) (y : Int)))) p q = withI (edge g) (x : Int) (y : Int) p q) := Lib.hid fun p q hp hq => edge_rows hp hq
                have HE2 : Hid (∀ p q, p < n → q < n → edge (zss (rows n (cutI (edge g) (x : Int) (y : Int)))) p q = cutI (edge g) (x : Int) (y : Int) p q) := Lib.hid fun p q hp hq => edge_rows hp hq
                have HRW := Lib.hid (fun i => reach_with (n := n) (E := edge g) (x := x) (y := y) (z := z) (i := i) hx hy)
                have HPW := Lib.hid (path_with (n := n) (E := edge g) (x := x) (y := y) hx hy)
                have HCW := Lib.hid (cut_with (edge g) (x : Int) (y : Int))
                have HWC := Lib.hid (with_cut (edge g) (x : Int) (y : Int))
                generalize edge g = E at *
                clear h1 h2 h3 h4 h5 h6
                have hx0 : ¬ (x : Int) < 0 := by omega
                have hy0 : ¬ (y : Int) < 0 := by omega
                have hz0 : ¬ (z : Int) < 0 := by omega
                have hxn : ¬ (n : Int) ≤ (x : Int) := by omega
                have hyn : ¬ (n : Int) ≤ (y : Int) := by omega
                have hzn : ¬ (n : Int) ≤ (z : Int) := by omega
                have d1 : decide ((x : Int) < 0) = false := decide_eq_false hx0
                have d2 : decide ((y : Int) < 0) = false := decide_eq_false hy0
                have d3 : decide ((z : Int) < 0) = false := decide_eq_false hz0
                have d4 : decide (n ≤ x) = false := decide_eq_false (by omega)
                have d5 : decide (n ≤ y) = false := decide_eq_false (by omega)
                have d6 : decide (n ≤ z) = false := decide_eq_false (by omega)
                go_upto_region 4 with (go_at_call 10; refine (HFT.out _ HB1.out).mono ?_; rintro e w2 ⟨rfl, hb2⟩; have HB2 := Lib.hid (HB1.out.trans (hb2.mono HB1.out.size)); clear hb2)

                clear d1 d2 d3 d4 d5 d6 hx0 hy0 hz0 hxn hyn hzn
                go_upto_region 14 with (first
                  | (go_at_call 22; refine (HWI.out _ HB2.out).mono ?_; rintro e w3 ⟨v3, rfl, hb3, ⟨wa, wc, rfl, hg3⟩⟩; have HG3 := Lib.hid hg3; have HB3 := Lib.hid (HB2.out.trans (hb3.mono HB2.out.size)); clear hb3 hg3)
                  | (go_at_call 24; refine (Without_g wa _ wc n (x : Int) (y : Int) _ HG3.out HF1.out (zss_length _) _ HE1.out).mono ?_; rintro e w4 ⟨v4, rfl, hb4, ⟨oa, oc, rfl, hg4⟩⟩; rw [HCW.out] at hg4; have HG4 := Lib.hid hg4; have HG3b := Lib.hid (HG3.out.on hb4); have HB4 := Lib.hid (HB3.out.trans (hb4.mono HB3.out.size)); clear hb4 hg4)
                  | (go_at_call_of 17 (Value.slice wa n wc); refine (Reach_any wa _ wc n (z : Int) _ HG3c.out HF1.out (zss_length _)).mono ?_; rintro e w6 ⟨yb, rfl, -, hyb, hb6⟩; rw [reachL_congr HE1.out] at hyb; have HYB := Lib.hid hyb; have HXB6 := Lib.hid (HXB.out.below hb6); have HG3d := Lib.hid (HG3c.out.on hb6); have HG4d := Lib.hid (HG4c.out.on hb6); have HB6 := Lib.hid (HB5.out.trans (hb6.mono HB5.out.size)); clear hyb hb6)
                  | (go_at_call_of 17 (Value.int .i64 (y : Int)); refine (HRE.out _ _ HB6.out).mono ?_; rintro e w7 ⟨zb, rfl, -, hzb, hb7⟩; have HZB := Lib.hid hzb; have HXB7 := Lib.hid (HXB6.out.below hb7); have HYB7 := Lib.hid (HYB.out.below hb7); have HG3e := Lib.hid (HG3d.out.on hb7); have HG4e := Lib.hid (HG4d.out.on hb7); have HB7 := Lib.hid (HB6.out.trans (hb7.mono HB6.out.size)); clear hzb hb7)
                  | (go_at_call 17; refine (HRE.out _ _ HB4.out).mono ?_; rintro e w5 ⟨xb, rfl, -, hxb, hb5⟩; have HXB := Lib.hid hxb; have HG3c := Lib.hid (HG3b.out.on hb5); have HG4c := Lib.hid (HG4.out.on hb5); have HB5 := Lib.hid (HB4.out.trans (hb5.mono HB4.out.size)); clear hxb hb5))
                go_loopw [15] (fun i wr => ∃ q : Nat, q ≤ n ∧ i = .int .i64 (q : Int) ∧ Hid (Below w7.heap.size w7 wr)) (fun i _ => n - (intOf i).toNat)
                case atStart => exact ⟨0, Nat.zero_le _, rfl, Lib.hid (Below.refl _ _)⟩
                case round =>
                  obtain ⟨q, hq, rfl, hB⟩ := hrel
                  obtain ⟨wq, rfl⟩ : ∃ wq, wq = wr := ⟨_, rfl⟩
                  by_cases hlt : q < n
                  · have hqi : (q : Int) < (n : Int) := by omega
                    have hcy := World.rowIs.cell HYB7.out (i := q) (by rw [reachL_length]; exact hlt)
                    rw [reachL_at hlt] at hcy
                    rw [HRW.out q] at hcy
                    have hcx := World.rowIs.cell HXB7.out (i := q) (by rw [reachL_length]; exact hlt)
                    rw [reachL_at hlt] at hcx
                    have hca := World.rowIs.cell HXB7.out (i := x) (by rw [reachL_length]; exact hx)
                    rw [reachL_at hx] at hca
                    have hcz := World.rowIs.cell HZB.out (i := q) (by rw [reachL_length]; exact hlt)
                    rw [reachL_at hlt] at hcz
                    generalize decide (q ∈ orderI n E (z : Int)) = xv at hcx hcy
                    generalize decide (x ∈ orderI n E (z : Int)) = xa at hca hcy
                    generalize decide (q ∈ orderI n E (y : Int)) = zv at hcz hcy
                    replace hcy := (hB.out.cell (p := ⟨yb, q, none⟩) (block_lt_of_cell hcy)).trans hcy
                    replace hcx := (hB.out.cell (p := ⟨xb, q, none⟩) (block_lt_of_cell hcx)).trans hcx
                    replace hca := (hB.out.cell (p := ⟨xb, x, none⟩) (block_lt_of_cell hca)).trans hca
                    replace hcz := (hB.out.cell (p := ⟨zb, q, none⟩) (block_lt_of_cell hcz)).trans hcz
                    go_upto_region 14 with fail
                    have m1 : ∀ d os, (grow (redrawn wq d) os).cell? ⟨yb, q, none⟩ = some (.bool (xv || xa && zv)) := fun d os => cell_regrown hcy d os
                    have m2 : ∀ d os, (grow (redrawn wq d) os).cell? ⟨xb, q, none⟩ = some (.bool (xv)) := fun d os => cell_regrown hcx d os
                    have m3 : ∀ d os, (grow (redrawn wq d) os).cell? ⟨xb, x, none⟩ = some (.bool (xa)) := fun d os => cell_regrown hca d os
                    have m4 : ∀ d os, (grow (redrawn wq d) os).cell? ⟨zb, q, none⟩ = some (.bool (zv)) := fun d os => cell_regrown hcz d os
                    cases xv
                    · cases xa
                      · simp only [Bool.false_or, Bool.false_and] at m1
                        clear HRW HXB7 HYB7 HZB
                        refine wp_region_quiet_below (by kernel_rfl) (by kernel_rfl) ?_
                        repeat (first | go_big_quiet_step (fail) | quiet_step (fail))
                        refine wpQuiet_nil ?_
                        intro _ hw'
                        obtain ⟨⟨dq, osq⟩, hw''⟩ := hw'
                        subst hw''
                        have hb3 := Lib.hid (hB.out.trans ((below_regrown wq dq osq).mono hB.out.size))
                        clear m1 m2 m3 m4 hcy hcx hca hcz
                        generalize grow (redrawn wq dq) osq = wz at *
                        go_wp2_with fail
                        go_roundw
                        case rel => exact ⟨q + 1, by omega, by go_num, hb3⟩
                        case measure => simp [intOf]; omega
                      · cases zv
                        · simp only [Bool.false_or, Bool.true_and] at m1
                          clear HRW HXB7 HYB7 HZB
                          refine wp_region_quiet_below (by kernel_rfl) (by kernel_rfl) ?_
                          repeat (first | go_big_quiet_step (fail) | quiet_step (fail))
                          refine wpQuiet_nil ?_
                          intro _ hw'
                          obtain ⟨⟨dq, osq⟩, hw''⟩ := hw'
                          subst hw''
                          have hb3 := Lib.hid (hB.out.trans ((below_regrown wq dq osq).mono hB.out.size))
                          clear m1 m2 m3 m4 hcy hcx hca hcz
                          generalize grow (redrawn wq dq) osq = wz at *
                          go_wp2_with fail
                          go_roundw
                          case rel => exact ⟨q + 1, by omega, by go_num, hb3⟩
                          case measure => simp [intOf]; omega
                        · simp only [Bool.false_or, Bool.true_and] at m1
                          clear HRW HXB7 HYB7 HZB
                          refine wp_region_quiet_below (by kernel_rfl) (by kernel_rfl) ?_
                          repeat (first | go_big_quiet_step (fail) | quiet_step (fail))
                          refine wpQuiet_nil ?_
                          intro _ hw'
                          obtain ⟨⟨dq, osq⟩, hw''⟩ := hw'
                          subst hw''
                          have hb3 := Lib.hid (hB.out.trans ((below_regrown wq dq osq).mono hB.out.size))
                          clear m1 m2 m3 m4 hcy hcx hca hcz
                          generalize grow (redrawn wq dq) osq = wz at *
                          go_wp2_with fail
                          go_roundw
                          case rel => exact ⟨q + 1, by omega, by go_num, hb3⟩
                          case measure => simp [intOf]; omega
                    · simp only [Bool.true_or] at m1
                      clear HRW HXB7 HYB7 HZB
                      refine wp_region_quiet_below (by kernel_rfl) (by kernel_rfl) ?_
                      repeat (first | go_big_quiet_step (fail) | quiet_step (fail))
                      refine wpQuiet_nil ?_
                      intro _ hw'
                      obtain ⟨⟨dq, osq⟩, hw''⟩ := hw'
                      subst hw''
                      have hb3 := Lib.hid (hB.out.trans ((below_regrown wq dq osq).mono hB.out.size))
                      clear m1 m2 m3 m4 hcy hcx hca hcz
                      generalize grow (redrawn wq dq) osq = wz at *
                      go_wp2_with fail
                      go_roundw
                      case rel => exact ⟨q + 1, by omega, by go_num, hb3⟩
                      case measure => simp [intOf]; omega
                  · obtain rfl : q = n := by omega
                    have HBE := Lib.hid (HB7.out.trans (hB.out.mono HB7.out.size))
                    have HG3f := Lib.hid (HG3e.out.on hB.out)
                    have HG4f := Lib.hid (HG4e.out.on hB.out)
                    have HPA := Lib.hid (Path_any wa _ wc q (x : Int) (y : Int) wq HG3f.out HF1.out (zss_length _))
                    rw [pathB_congr HE1.out, HPW.out] at HPA
                    have HX0 : Hid (Below wq.heap.size wq wq) := Lib.hid (Below.refl _ _)
                    clear HXB7 HYB7 HZB HRW
                    go_wp2_with (first
                      | (go_at_call 26; refine HPA.out.mono ?_; rintro e wa1 ⟨rfl, hbn⟩; have HX1 := Lib.hid hbn; clear hbn)
                      | (go_at_call 24; refine (HWO.out _ (HBE.out.trans (HX1.out.mono HBE.out.size))).mono ?_; rintro e wb1 ⟨vb1, rfl, hbn, ⟨ba, bc, rfl, gb1⟩⟩; have HGb := Lib.hid gb1; clear gb1; have HX2 := Lib.hid (HX1.out.trans (hbn.mono HX1.out.size)); clear hbn)
                      | (go_at_call_of 11 (Value.slice ba q bc); refine (Same_eq oa ba _ oc bc q _ (HG4f.out.on HX2.out) HGb.out HF2.out (zss_length _)).mono ?_; rintro e wc1 ⟨rfl, hbn⟩; have HX3 := Lib.hid (HX2.out.trans (hbn.mono HX2.out.size)); clear hbn)
                      | (go_at_call 22; refine (With_g oa _ oc q (x : Int) (y : Int) _ (HG4f.out.on HX3.out) HF2.out (zss_length _) _ HE2.out).mono ?_; rintro e wd1 ⟨vd1, rfl, hbn, ⟨da, dc, rfl, gd1⟩⟩; rw [HWC.out] at gd1; have HGd := Lib.hid gd1; clear gd1; have HX4 := Lib.hid (HX3.out.trans (hbn.mono HX3.out.size)); clear hbn)
                      | (go_at_call 11; refine (Same_eq da wa _ dc wc q _ HGd.out (HG3f.out.on HX4.out) HF1.out (zss_length _)).mono ?_; rintro e we1 ⟨rfl, hbn⟩; have HX5 := Lib.hid (HX4.out.trans (hbn.mono HX4.out.size)); clear hbn))
                    go_ret
                    exact ⟨rfl, HBE.out.trans (HX5.out.mono HBE.out.size)⟩
  · go_wp2_with (go_at_call 10; refine (HFW.out _ HB1.out).mono ?_; rintro e w2 ⟨bf, rfl, hbf, hb2⟩; obtain rfl : bf = false := (by cases bf; rfl; exact absurd (hbf.1 rfl) hF); have HB2 := Lib.hid (HB1.out.trans (hb2.mono HB1.out.size)); clear hbf hb2)
    go_ret
    exact ⟨rfl, HB2.out⟩
end Go.Proofs.Ytcbfmplddjmiaaa
