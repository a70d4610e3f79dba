/- GraphClean, walked. -/
import Derived.Test.YtcbfmplddjmiaaaGrU
namespace Go.Proofs.Ytcbfmplddjmiaaa
open Go Go.RowKit Go.Sort

set_option maxRecDepth 100000 in
set_option maxHeartbeats 16000000 in
theorem graphClean_any (av : Option Addr) (g : List (List Int)) (cap n : Nat) (a b : Int) (w : World) (hG : GIs w.heap.size w av g) (hn : g.length = n) (hm : n ≤ maxLen) :
    Calls Try.prog 7 #[.slice av n cap, .int .i64 a, .int .i64 b] w fun e w' => e = .returned (.bool true) ∧ Below w.heap.size w w' := by
  have HG := Lib.hid hG
  have HN := Lib.hid hn
  have HM := Lib.hid hm
  clear hG hn hm
  have HA := Lib.hid (awake10_any w)
  have HFW := Lib.hid (fun W (h : Below w.heap.size w W) => Few_any av g cap n W (HG.out.on h) HN.out HM.out)
  go_enter Try.func7, Try.ntmps7
  go_upto_region 2 with (go_at_call 9; refine HA.out.mono ?_; rintro e w1 ⟨rfl, hb1⟩; have HB1 := Lib.hid hb1; clear hb1)
  by_cases hF : FewG g
  · have hF40 : n ≤ 40 := HN.out ▸ hF.1
    have HF := Lib.hid hF
    clear hF
    have HCL := Lib.hid (fun W (h : Below w.heap.size w W) => Clean_any av g cap W (HG.out.on h) HF.out n HN.out)
    have HTU := Lib.hid (fun W (h : Below w.heap.size w W) => Turn_g av g cap n W (HG.out.on h) HF.out HN.out (fun x y => edge g y x) (fun _ _ _ _ => rfl))
    have HPA := Lib.hid (fun W (h : Below w.heap.size w W) => Path_any av g cap n a b W (HG.out.on h) HF.out HN.out)
    have HRE := Lib.hid (fun W (h : Below w.heap.size w W) => Reach_any av g cap n a W (HG.out.on h) HF.out HN.out)
    have HOR := Lib.hid (fun W (h : Below w.heap.size w W) => Order_any av g cap n a W (HG.out.on h) HF.out HN.out _ rfl)
    have HFC := Lib.hid (few_rows (n := n) hF40 (edge g))
    have HFT := Lib.hid (few_rows (n := n) hF40 (fun x y => edge g y x))
    have HEC : Hid (∀ x y, x < n → y < n → edge (zss (rows n (edge g))) x y = edge g x y) := Lib.hid fun x y hx hy => edge_rows hx hy
    generalize edge g = E at *
    go_upto_region 6 with (first
      | (go_at_call 10; refine (HFW.out _ HB1.out).mono ?_; rintro e w2 ⟨bf, rfl, hbf, hb2⟩; obtain rfl : bf = true := hbf.2 HF.out; have HB2 := Lib.hid (HB1.out.trans (hb2.mono HB1.out.size)); clear hbf hb2)
      | (go_at_call 12; refine (HCL.out _ HB2.out).mono ?_; rintro e w3 ⟨gb, R, rfl, hgo, hb3⟩; have HO := Lib.hid hgo; have HB3 := Lib.hid (HB2.out.trans (hb3.mono HB2.out.size)); clear hb3 hgo))
    have HGC0 : GIs w3.heap.size w3 (some ⟨gb, 0, none⟩) (zss (rows n E)) := by obtain ⟨_, _, e, h⟩ := isG_of HO.out; cases e; exact h
    have HGC := Lib.hid HGC0
    clear HGC0
    go_loopw [9] (fun i wr => ∃ q : Nat, q ≤ n ∧ i = .int .i64 (q : Int) ∧ Hid (Below w3.heap.size w3 wr)) (fun i _ => n - (intOf i).toNat)
    case atStart => exact ⟨0, Nat.zero_le _, rfl, Below.refl _ _⟩
    case round =>
      obtain ⟨q, hq, rfl, hB⟩ := hrel
      obtain ⟨w4, rfl⟩ : ∃ w4, w4 = wr := ⟨_, rfl⟩
      by_cases hlt : q < n
      · have hqi : (q : Int) < (n : Int) := by omega
        obtain ⟨ra, rc, hR, -, -, hI, -⟩ := is_own (HO.out.row q hlt)
        have hcx := HO.out.top.cell hlt
        rw [hR] at hcx
        have HI := Lib.hid hI
        obtain ⟨K, hK⟩ : ∃ K, (zs (rowE n (E q))).length = K := ⟨_, rfl⟩
        rw [hK] at hcx
        have HCX := Lib.hid hcx
        have HK := Lib.hid hK
        have hK2 : (rowE n (E q)).length = K := by rw [← hK, zs_length]
        have HK2 := Lib.hid hK2
        have hK40 : K ≤ 40 := by have := rowE_le n (E q); omega
        have HRS := Lib.hid (rowE_rising n (E q))
        have HLN := Lib.hid (fun (j : Nat) (hj : j < (rowE n (E q)).length) => (mem_rowE.1 (List.getElem_mem hj)).1)
        clear hR hI hcx hK hK2
        go_upto_region 9 with fail
        go_loopw [10] (fun i wr => ∃ k : Nat, k ≤ K ∧ i = .int .i64 (k : Int) ∧ Hid (Below w3.heap.size w3 wr)) (fun i _ => K - (intOf i).toNat)
        case atStart => exact ⟨0, Nat.zero_le _, rfl, hB⟩
        case round =>
          obtain ⟨k, hk, rfl, hB2⟩ := hrel
          obtain ⟨w5, rfl⟩ : ∃ w5, w5 = wr := ⟨_, rfl⟩
          have hcx := (hB2.out.cell (p := ⟨gb, q, none⟩) HO.out.top.lt).trans HCX.out
          by_cases hlt2 : k < K
          · have hki : (k : Int) < (K : Int) := by omega
            have hkr : k < (rowE n (E q)).length := by rw [HK2.out]; exact hlt2
            obtain ⟨b1, o1, rfl, hb1, e1⟩ := HI.out k (by rw [HK.out]; exact hlt2)
            have hcs := (hB2.out.cell (p := ⟨b1, o1 + k, none⟩) hb1).trans e1
            obtain ⟨y, hy⟩ : ∃ y, (rowE n (E q))[k]?.getD 0 = y := ⟨_, rfl⟩
            rw [zs_get, hy] at hcs
            have hye : (rowE n (E q))[k] = y := by rw [← hy, List.getElem?_eq_getElem hkr]; rfl
            have hyn : y < n := by rw [← hye]; exact HLN.out k hkr
            have hy0 : ¬ (y : Int) < 0 := by omega
            have hyg : ¬ n ≤ y := by omega
            cases k with
            | zero =>
              rw [Nat.add_zero] at hcs
              clear e1 hy hye hkr
              go_upto_region 11 with fail
              have m1 : ∀ d os, (grow (redrawn w5 d) os).cell? ⟨gb, q, none⟩ = some (.slice (some ⟨b1, o1, none⟩) K rc) := fun d os => cell_regrown hcx d os
              have m2 : ∀ d os, (grow (redrawn w5 d) os).cell? ⟨b1, o1, none⟩ = some (.int .i64 (y : Int)) := fun d os => cell_regrown hcs d os
              refine wp_region_quiet_below (by kernel_rfl) (by kernel_rfl) ?_
              repeat (first | go_big_quiet_step (fail) | quiet_step (fail))
              refine wpQuiet_nil ?_
              intro _ hw'
              obtain ⟨⟨dq, osq⟩, hw''⟩ := hw'
              subst hw''
              have hb3 := Lib.hid (hB2.out.trans ((below_regrown w5 dq osq).mono hB2.out.size))
              clear m1 m2 hcx hcs
              generalize grow (redrawn w5 dq) osq = wq at *
              go_wp2_with fail
              go_roundw
              case rel => exact ⟨1, by omega, by go_num, hb3⟩
              case measure => simp [intOf]; omega
            | succ k =>
              obtain ⟨b2, o2, ee, hb2, e2⟩ := HI.out k (by rw [HK.out]; omega)
              cases ee
              have hcp := (hB2.out.cell (p := ⟨b1, o1 + k, none⟩) hb2).trans e2
              obtain ⟨z, hz⟩ : ∃ z, (rowE n (E q))[k]?.getD 0 = z := ⟨_, rfl⟩
              rw [zs_get, hz] at hcp
              have hze : (rowE n (E q))[k] = z := by rw [← hz, List.getElem?_eq_getElem (by omega)]; rfl
              have hzy : z < y := by rw [← hze, ← hye]; exact List.pairwise_iff_getElem.1 HRS.out k (k + 1) (by omega) hkr (by omega)
              have hyz : ¬ y ≤ z := by omega
              have hk0 : (0 : Int) < (k : Int) + 1 := by omega
              have hkk : (k : Int) < (K : Int) := by omega
              have hwk : wrap64 (k : Int) = (k : Int) := IntWalk.wrap64_in _ (by omega)
              clear e1 hy hye hkr e2 hz hze hzy
              go_upto_region 11 with fail
              have m1 : ∀ d os, (grow (redrawn w5 d) os).cell? ⟨gb, q, none⟩ = some (.slice (some ⟨b1, o1, none⟩) K rc) := fun d os => cell_regrown hcx d os
              have m2 : ∀ d os, (grow (redrawn w5 d) os).cell? ⟨b1, o1 + (k + 1), none⟩ = some (.int .i64 (y : Int)) := fun d os => cell_regrown hcs d os
              have m3 : ∀ d os, (grow (redrawn w5 d) os).cell? ⟨b1, o1 + k, none⟩ = some (.int .i64 (z : Int)) := fun d os => cell_regrown hcp d os
              refine wp_region_quiet_below (by kernel_rfl) (by kernel_rfl) ?_
              repeat (first | go_big_quiet_step (fail) | quiet_step (fail))
              refine wpQuiet_nil ?_
              intro _ hw'
              obtain ⟨⟨dq, osq⟩, hw''⟩ := hw'
              subst hw''
              have hb3 := Lib.hid (hB2.out.trans ((below_regrown w5 dq osq).mono hB2.out.size))
              clear m1 m2 m3 hcx hcs hcp
              generalize grow (redrawn w5 dq) osq = wq at *
              go_wp2_with fail
              go_roundw
              case rel => exact ⟨k + 1 + 1, by omega, by go_num, hb3⟩
              case measure => simp [intOf]; omega
          · obtain rfl : k = K := by omega
            go_wp2_with fail
            go_roundw
            case rel => exact ⟨q + 1, by omega, by go_num, hB2⟩
            case measure => simp [intOf]; omega
      · obtain rfl : q = n := by omega
        have HB4 := Lib.hid (HB3.out.trans (hB.out.mono HB3.out.size))
        have HGC4 := Lib.hid (HGC.out.on hB.out)
        have hqq : ((q : Int) == (q : Int)) = true := by simp
        have HCC := Lib.hid (fun W (h : Below w4.heap.size w4 W) => Clean_g (some ⟨gb, 0, none⟩) (zss (rows q E)) q q W (HGC4.out.on h) HFC.out (zss_length _) E HEC.out)
        have HTC := Lib.hid (fun W (h : Below w4.heap.size w4 W) => Turn_g (some ⟨gb, 0, none⟩) (zss (rows q E)) q q W (HGC4.out.on h) HFC.out (zss_length _) (fun x y => E y x) HEC.out)
        have HRC := Lib.hid (fun W (h : Below w4.heap.size w4 W) => Reach_any (some ⟨gb, 0, none⟩) (zss (rows q E)) q q a W (HGC4.out.on h) HFC.out (zss_length _))
        have HOC := Lib.hid (fun W (h : Below w4.heap.size w4 W) => Order_any (some ⟨gb, 0, none⟩) (zss (rows q E)) q q a W (HGC4.out.on h) HFC.out (zss_length _) (orderI q E a) (orderI_congr HEC.out a))
        have HPC := Lib.hid (fun W (h : Below w4.heap.size w4 W) => Path_any (some ⟨gb, 0, none⟩) (zss (rows q E)) q q a b W (HGC4.out.on h) HFC.out (zss_length _))
        rw [reachL_congr HEC.out] at HRC
        rw [pathB_congr HEC.out] at HPC
        have hol := orderI_length q E a
        have HIN : Hid (∀ W a1 a2 c1 c2, Is W.heap.size W a1 (zs (orderI q E a)) → Is W.heap.size W a2 (zs (orderI q E a)) → Calls Try.prog 19 #[.slice a1 (orderI q E a).length c1, .slice a2 (orderI q E a).length c2] W fun e w' => e = .returned (.bool true) ∧ Below W.heap.size W w') := Lib.hid fun W a1 a2 c1 c2 h1 h2 => by
          have h := Ints_ref a1 a2 (zs (orderI q E a)) (zs (orderI q E a)) c1 c2 W h1 h2 (by rw [zs_length]; omega)
          rw [zs_length, show decide (zs (orderI q E a) = zs (orderI q E a)) = true by simp] at h
          exact h
        generalize orderI q E a = lo at *
        generalize pathB q E a b = pb at *
        generalize lo.length = Lo at *
        have hpp : (pb == pb) = true := by cases pb <;> rfl
        have X0 : Hid (Below w4.heap.size w4 w4) := Lib.hid (Below.refl _ _)
        go_wp2_with (first
          | (go_at_call 12; refine (HCC.out _ X0.out).mono ?_; rintro e wa ⟨va, rfl, hbn, ⟨aa, ca, rfl, ga⟩⟩; have HGa := Lib.hid ga; clear ga; have X1 := Lib.hid (X0.out.trans (hbn.mono X0.out.size)); clear hbn)
          | (go_at_call_of 11 (Value.slice (some ⟨gb, 0, none⟩) q q); refine (Same_eq aa _ _ ca q q _ HGa.out (HGC4.out.on X1.out) HFC.out (zss_length _)).mono ?_; rintro e wb ⟨rfl, hbn⟩; have X2 := Lib.hid (X1.out.trans (hbn.mono X1.out.size)); clear hbn)
          | (go_at_call_of 20 (Value.slice (some ⟨gb, 0, none⟩) q q); refine (HOC.out _ X2.out).mono ?_; rintro e wc ⟨uc, rfl, hou, hbn⟩; obtain ⟨oc1, cc1, rfl, -, -, hI, -⟩ := is_own hou; have HI1 := Lib.hid hI; clear hI hou; have X3 := Lib.hid (X2.out.trans (hbn.mono X2.out.size)); clear hbn)
          | (go_at_call_of 20 (Value.slice av q cap); refine (HOR.out _ (HB4.out.trans (X3.out.mono HB4.out.size))).mono ?_; rintro e wd ⟨ud, rfl, hou, hbn⟩; obtain ⟨oc2, cc2, rfl, -, -, hI, -⟩ := is_own hou; have HI2 := Lib.hid hI; have HI1b := Lib.hid (HI1.out.on hbn); clear hI hou; have X4 := Lib.hid (X3.out.trans (hbn.mono X3.out.size)); clear hbn)
          | (go_at_call 19; refine (HIN.out _ oc1 oc2 cc1 cc2 HI1b.out HI2.out).mono ?_; rintro e we ⟨rfl, hbn⟩; have X5 := Lib.hid (X4.out.trans (hbn.mono X4.out.size)); clear hbn)
          | (go_at_call_of 17 (Value.slice (some ⟨gb, 0, none⟩) q q); refine (HRC.out _ X5.out).mono ?_; rintro e wf ⟨bf1, rfl, -, hbi, hbn⟩; have HBI1 := Lib.hid hbi; clear hbi; have X6 := Lib.hid (X5.out.trans (hbn.mono X5.out.size)); clear hbn)
          | (go_at_call_of 17 (Value.slice av q cap); refine (HRE.out _ (HB4.out.trans (X6.out.mono HB4.out.size))).mono ?_; rintro e wg ⟨bf2, rfl, -, hbi, hbn⟩; have HBI2 := Lib.hid hbi; have HBI1b := Lib.hid (HBI1.out.below hbn); clear hbi; have X7 := Lib.hid (X6.out.trans (hbn.mono X6.out.size)); clear hbn)
          | (go_at_call 16; refine (Bools_eq bf1 bf2 _ q q q _ HBI1b.out HBI2.out (reachL_length _ _ _) hF40).mono ?_; rintro e wh ⟨rfl, hbn⟩; have X8 := Lib.hid (X7.out.trans (hbn.mono X7.out.size)); clear hbn)
          | (go_at_call_of 26 (Value.slice (some ⟨gb, 0, none⟩) q q); refine (HPC.out _ X8.out).mono ?_; rintro e wi ⟨rfl, hbn⟩; have X9 := Lib.hid (X8.out.trans (hbn.mono X8.out.size)); clear hbn)
          | (go_at_call_of 26 (Value.slice av q cap); refine (HPA.out _ (HB4.out.trans (X9.out.mono HB4.out.size))).mono ?_; rintro e wj ⟨rfl, hbn⟩; have X10 := Lib.hid (X9.out.trans (hbn.mono X9.out.size)); clear hbn)
          | (go_at_call_of 14 (Value.slice (some ⟨gb, 0, none⟩) q q); refine (HTC.out _ X10.out).mono ?_; rintro e wk ⟨vk, rfl, hbn, ⟨ak, ck, rfl, gk⟩⟩; have HGk := Lib.hid gk; clear gk; have X11 := Lib.hid (X10.out.trans (hbn.mono X10.out.size)); clear hbn)
          | (go_at_call_of 14 (Value.slice av q cap); refine (HTU.out _ (HB4.out.trans (X11.out.mono HB4.out.size))).mono ?_; rintro e wl ⟨vl, rfl, hbn, ⟨al, cl, rfl, gl⟩⟩; have HGl := Lib.hid gl; have HGk2 := Lib.hid (HGk.out.on hbn); clear gl; have X12 := Lib.hid (X11.out.trans (hbn.mono X11.out.size)); clear hbn)
          | (go_at_call 11; refine (Same_eq ak al _ ck cl q _ HGk2.out HGl.out HFT.out (zss_length _)).mono ?_; rintro e wm ⟨rfl, hbn⟩; have X13 := Lib.hid (X12.out.trans (hbn.mono X12.out.size)); clear hbn))
        go_ret
        exact ⟨rfl, HB4.out.trans (X13.out.mono HB4.out.size)⟩
  · go_wp2_with (go_at_call 10; refine (HFW.out _ HB1.out).mono ?_; rintro e w2 ⟨bf, rfl, hbf, hb2⟩; obtain rfl : bf = false := (by cases bf; rfl; exact absurd (hbf.1 rfl) hF); have HB2 := Lib.hid (HB1.out.trans (hb2.mono HB1.out.size)); clear hbf hb2)
    go_ret
    exact ⟨rfl, HB2.out⟩
end Go.Proofs.Ytcbfmplddjmiaaa
