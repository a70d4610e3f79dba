import Derived.Test.YtmcbedlmgffckaaGreatDoorSiG
namespace Go.Proofs.YtmcbedlmgffckaaGreatDoor
open Go Go.RowKit Go.Sort

set_option maxRecDepth 100000 in
set_option maxHeartbeats 4000000 in
theorem pairs_add (a b : Int) (w : World) :
    Calls Tryz.prog 96 #[.int .i64 a, .int .i64 b, .bool false] w fun e w' => e = .returned (.int .i64 (addN (sS a) (sS b) : Nat)) ∧ Below w.heap.size w w' := by
  rw [← som_add (sS_lt a) (sS_lt b)]
  have HA : Hid (∀ W, Calls Tryz.prog 103 #[.int .i64 a] W fun e w' => ∃ u, e = .returned u ∧ w'.ownsRow W.heap.size 3 1 u (som (sS a)).length ((som (sS a)).map (Value.int .i64)) ∧ Below W.heap.size W w') := fun W => some_any a W
  have HB : Hid (∀ W, Calls Tryz.prog 103 #[.int .i64 b] W fun e w' => ∃ u, e = .returned u ∧ w'.ownsRow W.heap.size 3 1 u (som (sS b)).length ((som (sS b)).map (Value.int .i64)) ∧ Below W.heap.size W w') := fun W => some_any b W
  have HMa : Hid (∀ x ∈ som (sS a), -2 ≤ x ∧ x ≤ 2) := fun x h => som_mem h
  have HMb : Hid (∀ x ∈ som (sS b), -2 ≤ x ∧ x ≤ 2) := fun x h => som_mem h
  have HLa : Hid ((som (sS a)).length ≤ 5) := tol_le _ _ _
  have HLb : Hid ((som (sS b)).length ≤ 5) := tol_le _ _ _
  change Calls Tryz.prog _ _ w fun e w' => e = .returned (.int .i64 (cmbTo (fun x y => sg (x + y)) (som (sS a)) (som (sS b)) : Nat)) ∧ _
  generalize som (sS a) = k at *
  generalize som (sS b) = l at *
  obtain ⟨f, hfe⟩ : ∃ f : Int → Int → Nat, (fun x y => sg (x + y)) = f := ⟨_, rfl⟩
  rw [hfe]
  have hf : Hid (∀ x y, f x y < 8) := fun x y => by rw [← hfe]; exact sg_lt _
  have HF : Hid (∀ x y W, Calls Tryz.prog 65 #[.int .i64 (x + y)] W fun e w' => e = .returned (.int .i64 (f x y : Nat)) ∧ Below W.heap.size W w') := fun x y W => by rw [← hfe]; exact hOf_any _ W
  clear hfe
  obtain ⟨T, hTl⟩ : ∃ T, k.length = T := ⟨_, rfl⟩
  obtain ⟨U, hUl⟩ : ∃ U, l.length = U := ⟨_, rfl⟩
  rw [hTl] at HA
  rw [hUl] at HB
  have hT3 : T ≤ 5 := by rw [← hTl]; exact HLa.out
  have hU3 : U ≤ 5 := by rw [← hUl]; exact HLb.out
  have HTl := Lib.hid hTl
  have HUl := Lib.hid hUl
  clear hTl hUl HLa HLb
  go_enter Tryz.func96, Tryz.ntmps96
  go_wp2_with fail
  refine (HA.out _).mono ?_
  clear HA
  rintro e w1 ⟨u, rfl, hown, hb⟩
  obtain ⟨a1, c1, rfl, -, hIs⟩ := is_of_ints hown
  have HI1 := Lib.hid hIs
  have HB1 := Lib.hid hb
  clear hown hIs hb
  go_wp2_with fail
  refine (HB.out _).mono ?_
  clear HB
  rintro e w2 ⟨u, rfl, hown, hb⟩
  obtain ⟨a2, c2, rfl, -, hIs⟩ := is_of_ints hown
  have HI2 := Lib.hid hIs
  have HI1' := Lib.hid ((HI1.out.below hb).mono hb.size)
  have HB2 := Lib.hid (HB1.out.trans (hb.mono HB1.out.size))
  clear hown hIs hb HI1 HB1
  go_wp2_with fail
  go_loopw [7, 10] (fun m i wr => ∃ q : Nat, q ≤ T ∧ i = .int .i64 q ∧ m = .int .i64 (cmbTo f (k.take q) l : Nat) ∧ Hid (Below w2.heap.size w2 wr)) (fun _ i _ => T - (intOf i).toNat)
  case atStart => exact ⟨0, Nat.zero_le _, rfl, rfl, Below.refl _ _⟩
  case round =>
    obtain ⟨q, hq, rfl, rfl, hBw⟩ := hrel
    by_cases hlt : q < T
    · obtain ⟨b, o, rfl, hbl, hcell⟩ := HI1'.out q (by rw [HTl.out]; exact hlt)
      obtain ⟨x, hx⟩ : ∃ x, k[q]?.getD 0 = x := ⟨_, rfl⟩
      rw [hx] at hcell
      have HCX := Lib.hid hcell
      have hqk : q < k.length := by rw [HTl.out]; exact hlt
      have HX := Lib.hid (take_next hqk hx)
      have hxm := HMa.out x (get_mem hqk hx)
      have HM0 := Lib.hid (cmbTo_lt hf.out (k.take q) l)
      have HE : Hid (cmbTo f (k.take (q + 1)) l = row f x l (cmbTo f (k.take q) l)) := by rw [Hid, HX.out]; simp [cmbTo]
      generalize cmbTo f (k.take q) l = m0 at *
      have hqi : (q : Int) < (T : Int) := by omega
      clear hcell hx hqk
      go_wp2_with fail
      go_loopw [7, 11] (fun m i wr => ∃ r : Nat, r ≤ U ∧ i = .int .i64 r ∧ m = .int .i64 (row f x (l.take r) m0 : Nat) ∧ Hid (Below w2.heap.size w2 wr)) (fun _ i _ => U - (intOf i).toNat)
      case atStart => exact ⟨0, Nat.zero_le _, rfl, rfl, hBw⟩
      case round =>
        obtain ⟨r, hr, rfl, rfl, hBr⟩ := hrel
        by_cases hlr : r < U
        · obtain ⟨b2, o2, rfl, hbl2, hcell2⟩ := HI2.out r (by rw [HUl.out]; exact hlr)
          have hcy := (hBr.out.cell (p := ⟨b2, o2 + r, none⟩) hbl2).trans hcell2
          have hcx := (hBr.out.cell (p := ⟨b, o + q, none⟩) hbl).trans HCX.out
          obtain ⟨y, hy⟩ : ∃ y, l[r]?.getD 0 = y := ⟨_, rfl⟩
          rw [hy] at hcy
          have hrk : r < l.length := by rw [HUl.out]; exact hlr
          have HY := Lib.hid (take_next hrk hy)
          have hym := HMb.out y (get_mem hrk hy)
          have HM1 := Lib.hid (row_lt hf.out x (l.take r) m0 HM0.out)
          have HE2 : Hid (row f x (l.take (r + 1)) m0 = row f x (l.take r) m0 ||| f x y) := by rw [Hid, HY.out]; simp [row]
          have HC := Lib.hid (fun W => HF.out x y W)
          have HFL := Lib.hid (hf.out x y)
          have hsm : -4 ≤ x + y ∧ x + y ≤ 4 := by omega
          have hw1 : wrap64 (x + y) = x + y := IntWalk.wrap64_in _ (by omega)
          have hw2 : IntKind.i64.wrap (x + y) = x + y := by rw [IntKind.wrap_i64]; omega
          generalize row f x (l.take r) m0 = m1 at *
          generalize f x y = fv at *
          have hri : (r : Int) < (U : Int) := by omega
          have k1 := cell_regrown hcx
          have k2 := cell_regrown hcy
          have q1 := fun d os => Calls.regrown_of (HC.out (grow (redrawn wr d) os))
          have q2 := q1
          have q3 := q1
          rw [← hw1] at q2
          rw [← hw2] at q3
          clear hcell2 hy hrk hw1 hw2
          go_wp2_with fail
          refine wp_region_quiet_below (by kernel_rfl) (by kernel_rfl) ?_
          repeat (first | go_big_quiet_step (first | with_reducible exact q1 _ _ | with_reducible exact q2 _ _ | with_reducible exact q3 _ _) | quiet_step (first | with_reducible exact q1 _ _ | with_reducible exact q2 _ _ | with_reducible exact q3 _ _))
          refine wpQuiet_nil ?_
          intro _ hw'
          obtain ⟨⟨dq, osq⟩, hw''⟩ := hw'
          subst hw''
          have HB3 := Lib.hid (hBr.out.trans ((below_regrown wr dq osq).mono hBr.out.size))
          clear k1 k2 q1 q2 q3 hcx hcy
          go_wp2_with fail
          go_roundw
          case rel =>
            refine ⟨r + 1, by omega, by go_num, ?_, HB3⟩
            rw [HE2.out, bits_or HM1.out HFL.out]
          case measure => simp [intOf]; omega
        · obtain rfl : r = U := by omega
          go_wp2_with fail
          go_roundw
          case rel =>
            refine ⟨q + 1, by omega, by go_num, ?_, hBr⟩
            rw [HE.out, List.take_of_length_le (by rw [HUl.out]; exact Nat.le_refl _)]
          case measure => simp [intOf]; omega
    · obtain rfl : q = T := by omega
      go_wp2_with fail
      go_ret
      refine ⟨ret_int ?_, HB2.out.trans (hBw.out.mono HB2.out.size)⟩
      rw [List.take_of_length_le (by rw [HTl.out]; exact Nat.le_refl _)]

set_option maxRecDepth 100000 in
set_option maxHeartbeats 4000000 in
theorem pairs_mul (a b : Int) (w : World) :
    Calls Tryz.prog 96 #[.int .i64 a, .int .i64 b, .bool true] w fun e w' => e = .returned (.int .i64 (mulN (sS a) (sS b) : Nat)) ∧ Below w.heap.size w w' := by
  rw [← som_mul (sS_lt a) (sS_lt b)]
  have HA : Hid (∀ W, Calls Tryz.prog 103 #[.int .i64 a] W fun e w' => ∃ u, e = .returned u ∧ w'.ownsRow W.heap.size 3 1 u (som (sS a)).length ((som (sS a)).map (Value.int .i64)) ∧ Below W.heap.size W w') := fun W => some_any a W
  have HB : Hid (∀ W, Calls Tryz.prog 103 #[.int .i64 b] W fun e w' => ∃ u, e = .returned u ∧ w'.ownsRow W.heap.size 3 1 u (som (sS b)).length ((som (sS b)).map (Value.int .i64)) ∧ Below W.heap.size W w') := fun W => some_any b W
  have HMa : Hid (∀ x ∈ som (sS a), -2 ≤ x ∧ x ≤ 2) := fun x h => som_mem h
  have HMb : Hid (∀ x ∈ som (sS b), -2 ≤ x ∧ x ≤ 2) := fun x h => som_mem h
  have HLa : Hid ((som (sS a)).length ≤ 5) := tol_le _ _ _
  have HLb : Hid ((som (sS b)).length ≤ 5) := tol_le _ _ _
  change Calls Tryz.prog _ _ w fun e w' => e = .returned (.int .i64 (cmbTo (fun x y => sg (x * y)) (som (sS a)) (som (sS b)) : Nat)) ∧ _
  generalize som (sS a) = k at *
  generalize som (sS b) = l at *
  obtain ⟨f, hfe⟩ : ∃ f : Int → Int → Nat, (fun x y => sg (x * y)) = f := ⟨_, rfl⟩
  rw [hfe]
  have hf : Hid (∀ x y, f x y < 8) := fun x y => by rw [← hfe]; exact sg_lt _
  have HF : Hid (∀ x y W, Calls Tryz.prog 65 #[.int .i64 (x * y)] W fun e w' => e = .returned (.int .i64 (f x y : Nat)) ∧ Below W.heap.size W w') := fun x y W => by rw [← hfe]; exact hOf_any _ W
  clear hfe
  obtain ⟨T, hTl⟩ : ∃ T, k.length = T := ⟨_, rfl⟩
  obtain ⟨U, hUl⟩ : ∃ U, l.length = U := ⟨_, rfl⟩
  rw [hTl] at HA
  rw [hUl] at HB
  have hT3 : T ≤ 5 := by rw [← hTl]; exact HLa.out
  have hU3 : U ≤ 5 := by rw [← hUl]; exact HLb.out
  have HTl := Lib.hid hTl
  have HUl := Lib.hid hUl
  clear hTl hUl HLa HLb
  go_enter Tryz.func96, Tryz.ntmps96
  go_wp2_with fail
  refine (HA.out _).mono ?_
  clear HA
  rintro e w1 ⟨u, rfl, hown, hb⟩
  obtain ⟨a1, c1, rfl, -, hIs⟩ := is_of_ints hown
  have HI1 := Lib.hid hIs
  have HB1 := Lib.hid hb
  clear hown hIs hb
  go_wp2_with fail
  refine (HB.out _).mono ?_
  clear HB
  rintro e w2 ⟨u, rfl, hown, hb⟩
  obtain ⟨a2, c2, rfl, -, hIs⟩ := is_of_ints hown
  have HI2 := Lib.hid hIs
  have HI1' := Lib.hid ((HI1.out.below hb).mono hb.size)
  have HB2 := Lib.hid (HB1.out.trans (hb.mono HB1.out.size))
  clear hown hIs hb HI1 HB1
  go_wp2_with fail
  go_loopw [7, 10] (fun m i wr => ∃ q : Nat, q ≤ T ∧ i = .int .i64 q ∧ m = .int .i64 (cmbTo f (k.take q) l : Nat) ∧ Hid (Below w2.heap.size w2 wr)) (fun _ i _ => T - (intOf i).toNat)
  case atStart => exact ⟨0, Nat.zero_le _, rfl, rfl, Below.refl _ _⟩
  case round =>
    obtain ⟨q, hq, rfl, rfl, hBw⟩ := hrel
    by_cases hlt : q < T
    · obtain ⟨b, o, rfl, hbl, hcell⟩ := HI1'.out q (by rw [HTl.out]; exact hlt)
      obtain ⟨x, hx⟩ : ∃ x, k[q]?.getD 0 = x := ⟨_, rfl⟩
      rw [hx] at hcell
      have HCX := Lib.hid hcell
      have hqk : q < k.length := by rw [HTl.out]; exact hlt
      have HX := Lib.hid (take_next hqk hx)
      have hxm := HMa.out x (get_mem hqk hx)
      have HM0 := Lib.hid (cmbTo_lt hf.out (k.take q) l)
      have HE : Hid (cmbTo f (k.take (q + 1)) l = row f x l (cmbTo f (k.take q) l)) := by rw [Hid, HX.out]; simp [cmbTo]
      generalize cmbTo f (k.take q) l = m0 at *
      have hqi : (q : Int) < (T : Int) := by omega
      clear hcell hx hqk
      go_wp2_with fail
      go_loopw [7, 11] (fun m i wr => ∃ r : Nat, r ≤ U ∧ i = .int .i64 r ∧ m = .int .i64 (row f x (l.take r) m0 : Nat) ∧ Hid (Below w2.heap.size w2 wr)) (fun _ i _ => U - (intOf i).toNat)
      case atStart => exact ⟨0, Nat.zero_le _, rfl, rfl, hBw⟩
      case round =>
        obtain ⟨r, hr, rfl, rfl, hBr⟩ := hrel
        by_cases hlr : r < U
        · obtain ⟨b2, o2, rfl, hbl2, hcell2⟩ := HI2.out r (by rw [HUl.out]; exact hlr)
          have hcy := (hBr.out.cell (p := ⟨b2, o2 + r, none⟩) hbl2).trans hcell2
          have hcx := (hBr.out.cell (p := ⟨b, o + q, none⟩) hbl).trans HCX.out
          obtain ⟨y, hy⟩ : ∃ y, l[r]?.getD 0 = y := ⟨_, rfl⟩
          rw [hy] at hcy
          have hrk : r < l.length := by rw [HUl.out]; exact hlr
          have HY := Lib.hid (take_next hrk hy)
          have hym := HMb.out y (get_mem hrk hy)
          have HM1 := Lib.hid (row_lt hf.out x (l.take r) m0 HM0.out)
          have HE2 : Hid (row f x (l.take (r + 1)) m0 = row f x (l.take r) m0 ||| f x y) := by rw [Hid, HY.out]; simp [row]
          have HC := Lib.hid (fun W => HF.out x y W)
          have HFL := Lib.hid (hf.out x y)
          have hsm := mul_small hxm hym
          have hw1 : wrap64 (x * y) = x * y := IntWalk.wrap64_in _ (by omega)
          have hw2 : IntKind.i64.wrap (x * y) = x * y := by rw [IntKind.wrap_i64]; omega
          generalize row f x (l.take r) m0 = m1 at *
          generalize f x y = fv at *
          have hri : (r : Int) < (U : Int) := by omega
          have k1 := cell_regrown hcx
          have k2 := cell_regrown hcy
          have q1 := fun d os => Calls.regrown_of (HC.out (grow (redrawn wr d) os))
          have q2 := q1
          have q3 := q1
          rw [← hw1] at q2
          rw [← hw2] at q3
          clear hcell2 hy hrk hw1 hw2
          go_wp2_with fail
          refine wp_region_quiet_below (by kernel_rfl) (by kernel_rfl) ?_
          repeat (first | go_big_quiet_step (first | with_reducible exact q1 _ _ | with_reducible exact q2 _ _ | with_reducible exact q3 _ _) | quiet_step (first | with_reducible exact q1 _ _ | with_reducible exact q2 _ _ | with_reducible exact q3 _ _))
          refine wpQuiet_nil ?_
          intro _ hw'
          obtain ⟨⟨dq, osq⟩, hw''⟩ := hw'
          subst hw''
          have HB3 := Lib.hid (hBr.out.trans ((below_regrown wr dq osq).mono hBr.out.size))
          clear k1 k2 q1 q2 q3 hcx hcy
          go_wp2_with fail
          go_roundw
          case rel =>
            refine ⟨r + 1, by omega, by go_num, ?_, HB3⟩
            rw [HE2.out, bits_or HM1.out HFL.out]
          case measure => simp [intOf]; omega
        · obtain rfl : r = U := by omega
          go_wp2_with fail
          go_roundw
          case rel =>
            refine ⟨q + 1, by omega, by go_num, ?_, hBr⟩
            rw [HE.out, List.take_of_length_le (by rw [HUl.out]; exact Nat.le_refl _)]
          case measure => simp [intOf]; omega
    · obtain rfl : q = T := by omega
      go_wp2_with fail
      go_ret
      refine ⟨ret_int ?_, HB2.out.trans (hBw.out.mono HB2.out.size)⟩
      rw [List.take_of_length_le (by rw [HTl.out]; exact Nat.le_refl _)]

end Go.Proofs.YtmcbedlmgffckaaGreatDoor
