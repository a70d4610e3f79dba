import Derived.Test.YtjlofjoekpoepaaDoorS
import Derived.Test.YtjlofjoekpoepaaDoorMathD
namespace Go.Proofs.YtjlofjoekpoepaaDoor
open Go Go.RowKit Go.Sort

set_option maxRecDepth 100000 in
set_option maxHeartbeats 4000000 in
theorem one_law (n : Int) (a : Option Addr) (ws : List Nat) (cap : Nat) (i k : Int) (w : World) (hWd : Wd w.heap.size w a ws) (hWB : WB ws) (hT : Tab w) :
    Calls Tryd.prog 5 #[.agg #[.int .i64 n, .slice a ws.length cap], .int .i64 i, .int .i64 k] w fun e w' => e = .returned (.bool true) ∧ Below w.heap.size w w' := by
  have hW1 : Below w.heap.size w (w.alloc (.cells #[.int .i64 n, .slice a ws.length cap] 24)) := (Below.refl _ _).alloc (Nat.le_refl _) _
  have BA := Box.new w (.int .i64 n) (.slice a ws.length cap) 24
  have hsv : SV w (.agg #[.int .i64 n, .slice a ws.length cap]) n ws := ⟨a, cap, rfl, hWd⟩
  obtain ⟨L, hL⟩ : ∃ L, ws.length = L := ⟨_, rfl⟩
  rw [hL] at hW1 BA hsv ⊢
  generalize hW : w.alloc (.cells #[.int .i64 n, .slice a L cap] 24) = W1 at *
  have HAw := Lib.hid (awake_any W1 (hT.below hW1))
  have HW1 := Lib.hid hW1
  have HSV := Lib.hid hsv
  have HL := Lib.hid hL
  have HT := Lib.hid hT
  clear hsv hL hT hWd hW1
  go_enter Tryd.func5, Tryd.ntmps5
  go_wp2_with fail
  refine HAw.out.mono ?_
  clear HAw
  rintro e w1 ⟨rfl, hb1⟩
  have BA1 := BA.below hb1 BA.lt
  have hB1 := HW1.out.trans (hb1.mono HW1.out.size)
  have HB1 := Lib.hid hB1
  obtain ⟨x0, x1, x2, x3⟩ := id BA1
  clear hb1 hB1 hW BA HW1
  go_wp2_with fail
  refine (ours_any n a L cap w1).mono ?_
  rintro e w2 ⟨rfl, hb2⟩
  have BA2 := (BA1.below hb2 BA1.lt).alloc (.cells #[.int .i64 n, .slice a L cap] 28)
  have BO := Box.new w2 (.int .i64 n) (.slice a L cap) 28
  have hA := (Below.refl w2.heap.size w2).alloc (Nat.le_refl _) (.cells #[.int .i64 n, .slice a L cap] 28)
  have hB2 := HB1.out.trans (hb2.mono HB1.out.size)
  have hB3 := hB2.trans (hA.mono hB2.size)
  have HB3 := Lib.hid hB3
  have HBA2 := Lib.hid BA2
  have HBO := Lib.hid BO
  obtain ⟨b4, hb4⟩ : ∃ b4, w2.heap.size = b4 := ⟨_, rfl⟩
  have HB4 := Lib.hid hb4
  obtain ⟨p0, p1, _, _⟩ := id BA2
  clear hb2 hA hB2 hB3 BA1 BA2 BO HB1 x0 x1 x2 x3 hb4
  go_wp2_with fail
  clear p0 p1
  have BA3 := HBA2.out
  have BO3 := HBO.out
  have hB3 := HB3.out
  rw [HB4.out] at BO3
  rw [HB4.out]
  generalize w2.alloc (.cells #[.int .i64 n, .slice a L cap] 28) = W3 at *
  clear HBA2 HBO HB3 HB4
  by_cases h30 : L ≤ 30
  · have hd : decide ((L : Int) ≤ 30) = true := by simp; omega
    have hSane : ∀ W, Below w.heap.size w W → Calls Tryd.prog 14 #[.agg #[.int .i64 n, .slice a L cap]] W fun e w' => e = .returned (.bool (saneB n ws)) ∧ Below W.heap.size W w' := by
      intro W hW
      obtain ⟨a', cap', e', hwd⟩ := HSV.out.below hW
      have e2 : a = a' ∧ cap = cap' := by simpa [HL.out] using e'
      obtain ⟨rfl, rfl⟩ := e2
      have h := sane_any n a ws cap W hwd (by rw [HL.out]; exact h30)
      rw [HL.out] at h
      exact h
    refine (few_any n a L cap true hd W3).mono ?_
    rintro e w4 ⟨rfl, hb4⟩
    have hB4 := hB3.trans (hb4.mono hB3.size)
    have BA4 := BA3.below hb4 BA3.lt
    have BO4 := BO3.below hb4 BO3.lt
    have HS4 := Lib.hid (hSane w4 hB4)
    obtain ⟨y0, y1, _, _⟩ := id BO4
    have HB4 := Lib.hid hB4
    clear hb4 hB4 BA3 BO3 hB3 hSane hd
    go_wp2_with fail
    clear y0 y1
    cases hsn : saneB n ws with
    | false =>
      rw [hsn] at HS4
      refine HS4.out.mono ?_
      rintro e w5 ⟨rfl, hb5⟩
      have HB5 := Lib.hid (HB4.out.trans (hb5.mono HB4.out.size))
      clear hb5 HS4 BA4 BO4 HB4 hsn
      go_wp2
      go_ret
      exact ⟨rfl, HB5.out⟩
    | true =>
      rw [hsn] at HS4
      obtain ⟨hok, hnn⟩ := ok_of_sane hWB hsn
      obtain ⟨m, hm⟩ : ∃ m, n.toNat = m := ⟨_, rfl⟩
      rw [hm] at hok hnn
      have HSV' : Hid (SV w (.agg #[.int .i64 n, .slice a L cap]) (m : Int) ws) := by rw [hnn]; exact HSV
      have HNN := Lib.hid hnn
      have HOk := Lib.hid hok
      clear hsn hm hok hnn HSV
      refine HS4.out.mono ?_
      rintro e w5 ⟨rfl, hb5⟩
      have hB5 := HB4.out.trans (hb5.mono HB4.out.size)
      have BA5 := BA4.below hb5 BA4.lt
      have BO5 := BO4.below hb5 BO4.lt
      have hWith := With_ok _ m ws i w5 (HSV'.out.below hB5) HOk.out
      rw [HNN.out, HL.out] at hWith
      have HWi := Lib.hid hWith
      obtain ⟨y0, y1, _, _⟩ := id BO5
      have HB5 := Lib.hid hB5
      clear hb5 hB5 HS4 BA4 BO4 HB4 hWith
      go_wp2_with fail
      clear y0 y1
      refine HWi.out.mono ?_
      clear HWi
      rintro e w6 ⟨a6, cap6, rfl, hF6, hb6⟩
      have BA6 := (BA5.below hb6 BA5.lt).alloc (.cells #[.int .i64 n, .slice a6 L cap6] 28)
      have BO6 := (BO5.below hb6 BO5.lt).alloc (.cells #[.int .i64 n, .slice a6 L cap6] 28)
      have BP6 := Box.new w6 (.int .i64 n) (.slice a6 L cap6) 28
      have hA6 := (Below.refl w6.heap.size w6).alloc (Nat.le_refl _) (.cells #[.int .i64 n, .slice a6 L cap6] 28)
      have hB6 := HB5.out.trans (hb6.mono HB5.out.size)
      have hB7 := hB6.trans (hA6.mono hB6.size)
      have hF7 := hF6.below hA6
      have hSV7 : SV (w6.alloc (.cells #[.int .i64 n, .slice a6 L cap6] 28)) (.agg #[.int .i64 n, .slice a6 L cap6]) (m : Int) (putW m ws i) := by
        rw [HNN.out]; exact ⟨a6, cap6, by rw [putW_length, HL.out], hF7.wd⟩
      have hWo := Without_ok _ m (putW m ws i) i _ hSV7 (HOk.out.put i)
      rw [HNN.out, putW_length, HL.out] at hWo
      have HWo := Lib.hid hWo
      have HBA6 := Lib.hid BA6
      have HBO6 := Lib.hid BO6
      have HBP6 := Lib.hid BP6
      have HB7 := Lib.hid hB7
      have HSV7 := Lib.hid hSV7
      obtain ⟨z0, z1, _, _⟩ := id BP6
      clear BA5 BO5 HB5 hF6 hb6 BA6 BO6 BP6 hA6 hB6 hB7 hF7 hSV7 hWo
      go_wp2_with fail
      clear z0 z1
      refine HWo.out.mono ?_
      clear HWo
      rintro e w8 ⟨a8, cap8, rfl, hF8, hb8⟩
      obtain ⟨b9, hb9⟩ : ∃ b9, w6.heap.size = b9 := ⟨_, rfl⟩
      rw [hb9]
      rw [hb9] at HBP6
      have BA8 := (HBA6.out.below hb8 HBA6.out.lt).alloc (.cells #[.int .i64 n, .slice a8 L cap8] 28)
      have BO8 := (HBO6.out.below hb8 HBO6.out.lt).alloc (.cells #[.int .i64 n, .slice a8 L cap8] 28)
      have BP8 := (HBP6.out.below hb8 HBP6.out.lt).alloc (.cells #[.int .i64 n, .slice a8 L cap8] 28)
      have BD8 := Box.new w8 (.int .i64 n) (.slice a8 L cap8) 28
      have hA8 := (Below.refl w8.heap.size w8).alloc (Nat.le_refl _) (.cells #[.int .i64 n, .slice a8 L cap8] 28)
      have hB8 := HB7.out.trans (hb8.mono HB7.out.size)
      have hB9 := hB8.trans (hA8.mono hB8.size)
      have hF9 := hF8.below hA8
      have hSV9 : SV (w8.alloc (.cells #[.int .i64 n, .slice a8 L cap8] 28)) (.agg #[.int .i64 n, .slice a8 L cap8]) (m : Int) (dropW m (putW m ws i) i) := by
        rw [HNN.out]; exact ⟨a8, cap8, by rw [dropW_length, putW_length, HL.out], hF9.wd⟩
      have hSVp9 := (HSV7.out.below hb8).below hA8
      have HBA8 := Lib.hid BA8
      have HBO8 := Lib.hid BO8
      have HBP8 := Lib.hid BP8
      have HBD8 := Lib.hid BD8
      have HB9 := Lib.hid hB9
      have HSVd := Lib.hid hSV9
      have HSVp := Lib.hid hSVp9
      obtain ⟨p0, p1, _, _⟩ := id BA8
      clear HBA6 HBO6 HBP6 HB7 HSV7 hb8 hF8 BA8 BO8 BP8 BD8 hA8 hB8 hB9 hF9 hSV9 hSVp9 hb9
      obtain ⟨inn, hinn⟩ : ∃ inn, decide (0 ≤ i ∧ i < (m : Int)) = inn := ⟨_, rfl⟩
      have HIN := Lib.hid hinn
      clear hinn
      go_upto_region 7 with fail
      go_cut [11] (fun s11 wx => s11 = .bool inn ∧ Hid (w8.alloc (.cells #[.int .i64 n, .slice a8 L cap8] 28) = wx))
      case first =>
        by_cases h0 : 0 ≤ i
        · have d0 : decide (0 ≤ i) = true := by simpa using h0
          obtain ⟨d1v, d1⟩ : ∃ d1v, decide (i < n) = d1v := ⟨_, rfl⟩
          go_wp2
          all_goals
            go_meet
            refine ⟨?_, rfl⟩
            rw [← HIN.out, ← HNN.out] at *
            first | rfl | (congr 1; simp_all) | (simp_all)
        · have d0 : decide (0 ≤ i) = false := by simpa using h0
          go_wp2
          all_goals
            go_meet
            refine ⟨?_, rfl⟩
            have hf : inn = false := by
              rw [← HIN.out, decide_eq_false_iff_not]
              omega
            rw [hf]
      case rest =>
        obtain ⟨rfl, hwc⟩ := hcut
        have hwc' := hwc.out
        subst hwc'
        have BA9 := HBA8.out
        have BO9 := HBO8.out
        have BP9 := HBP8.out
        have BD9 := HBD8.out
        have hB9 := HB9.out
        have hSd := HSVd.out
        have hSp := HSVp.out
        obtain ⟨b10, hb10⟩ : ∃ b10, w8.heap.size = b10 := ⟨_, rfl⟩
        rw [hb10] at BD9 ⊢
        clear HBA8 HBO8 HBP8 HBD8 HB9 HSVd HSVp p0 p1 hb10 hwc
        generalize w8.alloc (.cells #[.int .i64 n, .slice a8 L cap8] 28) = W9 at *
        have hSo := HSV'.out.below hB9
        have hokp := HOk.out.put i
        have hokd := hokp.drop i
        have hTW := HT.out.below hB9
        have HSo := Lib.hid hSo
        have HSp := Lib.hid hSp
        have HSd := Lib.hid hSd
        have HOkp := Lib.hid hokp
        have HOkd := Lib.hid hokd
        have HTW := Lib.hid hTW
        have HB9 := Lib.hid hB9
        clear hSo hSp hSd hokp hokd hTW hB9
        have gHas : ∀ (v : Value) (vs : List Nat) (x : Int) (b : Bool), SV W9 v (m : Int) vs → Ok m vs → hasB m vs x = b → ∀ d os, Calls Tryd.prog 16 #[v, .int .i64 x] (grow (redrawn W9 d) os) fun e w'' => e = .returned (.bool b) ∧ ∃ p : Regrown, w'' = grow (redrawn W9 p.d) p.os :=
          fun v vs x b hv hok hb d os => Calls.regrown_of ((Has_ok v m vs x _ (hv.below (below_regrown W9 d os)) hok).mono fun _ _ ⟨he, hbb⟩ => ⟨by rw [he, hb], hbb⟩)
        have cPi := gHas _ _ i inn HSp.out HOkp.out (by rw [has_put_self HOk.out, HIN.out])
        have cDi := gHas _ _ i false HSd.out HOkd.out (has_drop_self HOkp.out i)
        obtain ⟨hk, hhk⟩ : ∃ hk, hasB m ws k = hk := ⟨_, rfl⟩
        have cOk := gHas _ _ k hk HSo.out HOk.out hhk
        have k0 := cell_regrown BO9.c0
        have k1 := cell_regrown BO9.c1
        have k2 := cell_regrown BP9.c0
        have k3 := cell_regrown BP9.c1
        have k4 := cell_regrown BD9.c0
        have k5 := cell_regrown BD9.c1
        go_upto_region 8 with fail
        go_cut [70] (fun s70 wx => s70 = .bool false ∧ Hid (Below W9.heap.size W9 wx))
        case first =>
          by_cases hik : i = k
          · have hbb : (i != k) = false := by simp [hik]
            have HIK := Lib.hid hik
            clear hik gHas cOk hhk
            refine wp_region_quiet_below (by kernel_rfl) (by kernel_rfl) ?_
            repeat (first | go_big_quiet_step (first | (with_reducible exact cPi _ _) | (with_reducible exact cDi _ _)) | quiet_step (first | (with_reducible exact cPi _ _) | (with_reducible exact cDi _ _)))
            refine wpQuiet_nil ?_
            intro _ hw'
            obtain ⟨⟨dq, osq⟩, hw''⟩ := hw'
            subst hw''
            go_wp2_with fail
            go_meet
            exact ⟨rfl, below_regrown W9 dq osq⟩
          · have hbb : (i != k) = true := by simpa using hik
            have cPk := gHas _ _ k hk HSp.out HOkp.out (by rw [has_put_other HOk.out hik, hhk])
            have cDk := gHas _ _ k hk HSd.out HOkd.out (by rw [has_drop_other HOkp.out hik, has_put_other HOk.out hik, hhk])
            have HIK := Lib.hid hik
            clear hik gHas hhk
            refine wp_region_quiet_below (by kernel_rfl) (by kernel_rfl) ?_
            repeat (first | go_big_quiet_step (first | (with_reducible exact cPi _ _) | (with_reducible exact cDi _ _) | (with_reducible exact cPk _ _) | (with_reducible exact cOk _ _) | (with_reducible exact cDk _ _)) | quiet_step (first | (with_reducible exact cPi _ _) | (with_reducible exact cDi _ _) | (with_reducible exact cPk _ _) | (with_reducible exact cOk _ _) | (with_reducible exact cDk _ _)))
            refine wpQuiet_nil ?_
            intro _ hw'
            obtain ⟨⟨dq, osq⟩, hw''⟩ := hw'
            subst hw''
            go_wp2_with fail
            go_meet
            exact ⟨rfl, below_regrown W9 dq osq⟩
        case rest =>
          obtain ⟨rfl, hBq⟩ := hcut
          clear k0 k1 k2 k3 k4 k5 gHas cPi cDi cOk hhk
          have HBc : Hid (Below W9.heap.size W9 wc) := hBq
          clear hBq
          obtain ⟨hi, hhi⟩ : ∃ hi, hasB m ws i = hi := ⟨_, rfl⟩
          have FH : Hid (∀ W, Below W9.heap.size W9 W → Calls Tryd.prog 16 #[.agg #[.int .i64 n, .slice a L cap], .int .i64 i] W fun e w' => e = .returned (.bool hi) ∧ Below W.heap.size W w') := fun W hW => by
            have h := Has_ok _ m ws i W (HSo.out.below hW) HOk.out
            rw [hhi] at h
            exact h
          have FSD0 : hi = false → Hid (∀ W, Below W9.heap.size W9 W → Calls Tryd.prog 39 #[.agg #[.int .i64 n, .slice a8 L cap8], .agg #[.int .i64 n, .slice a L cap]] W fun e w' => e = .returned (.bool true) ∧ Below W.heap.size W w') := fun hf W hW => by
            have h := Same_ok _ _ m m _ ws W (HSd.out.below hW) (HSo.out.below hW) HOkd.out HOk.out
            rw [drop_put_same HOk.out (by rw [hhi]; exact hf)] at h
            simpa using h
          have FSP0 : inn = false → Hid (∀ W, Below W9.heap.size W9 W → Calls Tryd.prog 39 #[.agg #[.int .i64 n, .slice a6 L cap6], .agg #[.int .i64 n, .slice a L cap]] W fun e w' => e = .returned (.bool true) ∧ Below W.heap.size W w') := fun hf W hW => by
            have h := Same_ok _ _ m m _ ws W (HSp.out.below hW) (HSo.out.below hW) HOkp.out HOk.out
            rw [putW_out (by have := HIN.out; rw [hf, decide_eq_false_iff_not] at this; exact this)] at h
            simpa using h
          have gSane : ∀ (a' : Option Addr) (cap' : Nat) (vs : List Nat), SV W9 (.agg #[.int .i64 n, .slice a' L cap']) (m : Int) vs → Ok m vs → ∀ W, Below W9.heap.size W9 W → Calls Tryd.prog 14 #[.agg #[.int .i64 n, .slice a' L cap']] W fun e w' => e = .returned (.bool true) ∧ Below W.heap.size W w' := by
            intro a' cap' vs hv hok W hW
            obtain ⟨a2, cap2, e2, hwd⟩ := hv.below hW
            have hvl : vs.length = L := by rw [hok.len, ← HOk.out.len]; exact HL.out
            have e3 : a' = a2 ∧ cap' = cap2 := by simpa [hvl, HNN.out] using e2
            obtain ⟨rfl, rfl⟩ := e3
            have h := Sane_ok m a' vs cap' W hwd hok
            rw [HNN.out, hvl] at h
            exact h
          have FAP : Hid (∀ W, Below W9.heap.size W9 W → Calls Tryd.prog 14 #[.agg #[.int .i64 n, .slice a6 L cap6]] W fun e w' => e = .returned (.bool true) ∧ Below W.heap.size W w') := gSane _ _ _ HSp.out HOkp.out
          have FAD : Hid (∀ W, Below W9.heap.size W9 W → Calls Tryd.prog 14 #[.agg #[.int .i64 n, .slice a8 L cap8]] W fun e w' => e = .returned (.bool true) ∧ Below W.heap.size W w') := gSane _ _ _ HSd.out HOkd.out
          have FLO : Hid (∀ W, Below W9.heap.size W9 W → Calls Tryd.prog 37 #[.agg #[.int .i64 n, .slice a L cap], .agg #[.int .i64 n, .slice a6 L cap6]] W fun e w' => e = .returned (.bool true) ∧ Below W.heap.size W w') := fun W hW => by
            have h := Leq_ok _ _ m m ws _ W (HSo.out.below hW) (HSp.out.below hW) HOk.out HOkp.out (HTW.out.below hW)
            rw [leq_put HOk.out i] at h
            exact h
          have FLD : Hid (∀ W, Below W9.heap.size W9 W → Calls Tryd.prog 37 #[.agg #[.int .i64 n, .slice a8 L cap8], .agg #[.int .i64 n, .slice a6 L cap6]] W fun e w' => e = .returned (.bool true) ∧ Below W.heap.size W w') := fun W hW => by
            have h := Leq_ok _ _ m m _ _ W (HSd.out.below hW) (HSp.out.below hW) HOkd.out HOkp.out (HTW.out.below hW)
            rw [leq_drop HOkp.out i] at h
            exact h
          obtain ⟨o0, o1, _, _⟩ := BO9.below HBc.out BO9.lt
          obtain ⟨p0, p1, _, _⟩ := BP9.below HBc.out BP9.lt
          obtain ⟨q0, q1, _, _⟩ := BD9.below HBc.out BD9.lt
          clear hhi gSane
          cases hi with
          | true =>
            clear FSD0
            cases inn with
            | true =>
              clear FSP0
              go_wp2_with (first | (go_at_call_of 16 (Value.slice a L cap); refine (FH.out _ HBc.out).mono ?_; clear FH; clear o0 o1 p0 p1 q0 q1; rintro e wn ⟨rfl, hbn⟩; have hbx := HBc.out.trans (hbn.mono HBc.out.size); clear HBc hbn; have HBc := Lib.hid hbx; obtain ⟨o0, o1, _, _⟩ := BO9.below hbx BO9.lt; obtain ⟨p0, p1, _, _⟩ := BP9.below hbx BP9.lt; obtain ⟨q0, q1, _, _⟩ := BD9.below hbx BD9.lt; clear hbx) | (go_at_call_of 14 (Value.slice a6 L cap6); refine (FAP.out _ HBc.out).mono ?_; clear FAP; clear o0 o1 p0 p1 q0 q1; rintro e wn ⟨rfl, hbn⟩; have hbx := HBc.out.trans (hbn.mono HBc.out.size); clear HBc hbn; have HBc := Lib.hid hbx; obtain ⟨o0, o1, _, _⟩ := BO9.below hbx BO9.lt; obtain ⟨p0, p1, _, _⟩ := BP9.below hbx BP9.lt; obtain ⟨q0, q1, _, _⟩ := BD9.below hbx BD9.lt; clear hbx) | (go_at_call_of 14 (Value.slice a8 L cap8); refine (FAD.out _ HBc.out).mono ?_; clear FAD; clear o0 o1 p0 p1 q0 q1; rintro e wn ⟨rfl, hbn⟩; have hbx := HBc.out.trans (hbn.mono HBc.out.size); clear HBc hbn; have HBc := Lib.hid hbx; obtain ⟨o0, o1, _, _⟩ := BO9.below hbx BO9.lt; obtain ⟨p0, p1, _, _⟩ := BP9.below hbx BP9.lt; obtain ⟨q0, q1, _, _⟩ := BD9.below hbx BD9.lt; clear hbx) | (go_at_call_of 37 (Value.slice a L cap); refine (FLO.out _ HBc.out).mono ?_; clear FLO; clear o0 o1 p0 p1 q0 q1; rintro e wn ⟨rfl, hbn⟩; have hbx := HBc.out.trans (hbn.mono HBc.out.size); clear HBc hbn; have HBc := Lib.hid hbx; obtain ⟨o0, o1, _, _⟩ := BO9.below hbx BO9.lt; obtain ⟨p0, p1, _, _⟩ := BP9.below hbx BP9.lt; obtain ⟨q0, q1, _, _⟩ := BD9.below hbx BD9.lt; clear hbx) | (go_at_call_of 37 (Value.slice a8 L cap8); refine (FLD.out _ HBc.out).mono ?_; clear FLD; clear o0 o1 p0 p1 q0 q1; rintro e wn ⟨rfl, hbn⟩; have hbx := HBc.out.trans (hbn.mono HBc.out.size); clear HBc hbn; have HBc := Lib.hid hbx; obtain ⟨o0, o1, _, _⟩ := BO9.below hbx BO9.lt; obtain ⟨p0, p1, _, _⟩ := BP9.below hbx BP9.lt; obtain ⟨q0, q1, _, _⟩ := BD9.below hbx BD9.lt; clear hbx))
              go_ret
              exact ⟨rfl, HB9.out.trans (HBc.out.mono HB9.out.size)⟩
            | false =>
              have FSP := FSP0 rfl
              clear FSP0
              go_wp2_with (first | (go_at_call_of 16 (Value.slice a L cap); refine (FH.out _ HBc.out).mono ?_; clear FH; clear o0 o1 p0 p1 q0 q1; rintro e wn ⟨rfl, hbn⟩; have hbx := HBc.out.trans (hbn.mono HBc.out.size); clear HBc hbn; have HBc := Lib.hid hbx; obtain ⟨o0, o1, _, _⟩ := BO9.below hbx BO9.lt; obtain ⟨p0, p1, _, _⟩ := BP9.below hbx BP9.lt; obtain ⟨q0, q1, _, _⟩ := BD9.below hbx BD9.lt; clear hbx) | (go_at_call_of 39 (Value.slice a6 L cap6); refine (FSP.out _ HBc.out).mono ?_; clear FSP; clear o0 o1 p0 p1 q0 q1; rintro e wn ⟨rfl, hbn⟩; have hbx := HBc.out.trans (hbn.mono HBc.out.size); clear HBc hbn; have HBc := Lib.hid hbx; obtain ⟨o0, o1, _, _⟩ := BO9.below hbx BO9.lt; obtain ⟨p0, p1, _, _⟩ := BP9.below hbx BP9.lt; obtain ⟨q0, q1, _, _⟩ := BD9.below hbx BD9.lt; clear hbx) | (go_at_call_of 14 (Value.slice a6 L cap6); refine (FAP.out _ HBc.out).mono ?_; clear FAP; clear o0 o1 p0 p1 q0 q1; rintro e wn ⟨rfl, hbn⟩; have hbx := HBc.out.trans (hbn.mono HBc.out.size); clear HBc hbn; have HBc := Lib.hid hbx; obtain ⟨o0, o1, _, _⟩ := BO9.below hbx BO9.lt; obtain ⟨p0, p1, _, _⟩ := BP9.below hbx BP9.lt; obtain ⟨q0, q1, _, _⟩ := BD9.below hbx BD9.lt; clear hbx) | (go_at_call_of 14 (Value.slice a8 L cap8); refine (FAD.out _ HBc.out).mono ?_; clear FAD; clear o0 o1 p0 p1 q0 q1; rintro e wn ⟨rfl, hbn⟩; have hbx := HBc.out.trans (hbn.mono HBc.out.size); clear HBc hbn; have HBc := Lib.hid hbx; obtain ⟨o0, o1, _, _⟩ := BO9.below hbx BO9.lt; obtain ⟨p0, p1, _, _⟩ := BP9.below hbx BP9.lt; obtain ⟨q0, q1, _, _⟩ := BD9.below hbx BD9.lt; clear hbx) | (go_at_call_of 37 (Value.slice a L cap); refine (FLO.out _ HBc.out).mono ?_; clear FLO; clear o0 o1 p0 p1 q0 q1; rintro e wn ⟨rfl, hbn⟩; have hbx := HBc.out.trans (hbn.mono HBc.out.size); clear HBc hbn; have HBc := Lib.hid hbx; obtain ⟨o0, o1, _, _⟩ := BO9.below hbx BO9.lt; obtain ⟨p0, p1, _, _⟩ := BP9.below hbx BP9.lt; obtain ⟨q0, q1, _, _⟩ := BD9.below hbx BD9.lt; clear hbx) | (go_at_call_of 37 (Value.slice a8 L cap8); refine (FLD.out _ HBc.out).mono ?_; clear FLD; clear o0 o1 p0 p1 q0 q1; rintro e wn ⟨rfl, hbn⟩; have hbx := HBc.out.trans (hbn.mono HBc.out.size); clear HBc hbn; have HBc := Lib.hid hbx; obtain ⟨o0, o1, _, _⟩ := BO9.below hbx BO9.lt; obtain ⟨p0, p1, _, _⟩ := BP9.below hbx BP9.lt; obtain ⟨q0, q1, _, _⟩ := BD9.below hbx BD9.lt; clear hbx))
              go_ret
              exact ⟨rfl, HB9.out.trans (HBc.out.mono HB9.out.size)⟩
          | false =>
            have FSD := FSD0 rfl
            clear FSD0
            cases inn with
            | true =>
              clear FSP0
              go_wp2_with (first | (go_at_call_of 16 (Value.slice a L cap); refine (FH.out _ HBc.out).mono ?_; clear FH; clear o0 o1 p0 p1 q0 q1; rintro e wn ⟨rfl, hbn⟩; have hbx := HBc.out.trans (hbn.mono HBc.out.size); clear HBc hbn; have HBc := Lib.hid hbx; obtain ⟨o0, o1, _, _⟩ := BO9.below hbx BO9.lt; obtain ⟨p0, p1, _, _⟩ := BP9.below hbx BP9.lt; obtain ⟨q0, q1, _, _⟩ := BD9.below hbx BD9.lt; clear hbx) | (go_at_call_of 39 (Value.slice a8 L cap8); refine (FSD.out _ HBc.out).mono ?_; clear FSD; clear o0 o1 p0 p1 q0 q1; rintro e wn ⟨rfl, hbn⟩; have hbx := HBc.out.trans (hbn.mono HBc.out.size); clear HBc hbn; have HBc := Lib.hid hbx; obtain ⟨o0, o1, _, _⟩ := BO9.below hbx BO9.lt; obtain ⟨p0, p1, _, _⟩ := BP9.below hbx BP9.lt; obtain ⟨q0, q1, _, _⟩ := BD9.below hbx BD9.lt; clear hbx) | (go_at_call_of 14 (Value.slice a6 L cap6); refine (FAP.out _ HBc.out).mono ?_; clear FAP; clear o0 o1 p0 p1 q0 q1; rintro e wn ⟨rfl, hbn⟩; have hbx := HBc.out.trans (hbn.mono HBc.out.size); clear HBc hbn; have HBc := Lib.hid hbx; obtain ⟨o0, o1, _, _⟩ := BO9.below hbx BO9.lt; obtain ⟨p0, p1, _, _⟩ := BP9.below hbx BP9.lt; obtain ⟨q0, q1, _, _⟩ := BD9.below hbx BD9.lt; clear hbx) | (go_at_call_of 14 (Value.slice a8 L cap8); refine (FAD.out _ HBc.out).mono ?_; clear FAD; clear o0 o1 p0 p1 q0 q1; rintro e wn ⟨rfl, hbn⟩; have hbx := HBc.out.trans (hbn.mono HBc.out.size); clear HBc hbn; have HBc := Lib.hid hbx; obtain ⟨o0, o1, _, _⟩ := BO9.below hbx BO9.lt; obtain ⟨p0, p1, _, _⟩ := BP9.below hbx BP9.lt; obtain ⟨q0, q1, _, _⟩ := BD9.below hbx BD9.lt; clear hbx) | (go_at_call_of 37 (Value.slice a L cap); refine (FLO.out _ HBc.out).mono ?_; clear FLO; clear o0 o1 p0 p1 q0 q1; rintro e wn ⟨rfl, hbn⟩; have hbx := HBc.out.trans (hbn.mono HBc.out.size); clear HBc hbn; have HBc := Lib.hid hbx; obtain ⟨o0, o1, _, _⟩ := BO9.below hbx BO9.lt; obtain ⟨p0, p1, _, _⟩ := BP9.below hbx BP9.lt; obtain ⟨q0, q1, _, _⟩ := BD9.below hbx BD9.lt; clear hbx) | (go_at_call_of 37 (Value.slice a8 L cap8); refine (FLD.out _ HBc.out).mono ?_; clear FLD; clear o0 o1 p0 p1 q0 q1; rintro e wn ⟨rfl, hbn⟩; have hbx := HBc.out.trans (hbn.mono HBc.out.size); clear HBc hbn; have HBc := Lib.hid hbx; obtain ⟨o0, o1, _, _⟩ := BO9.below hbx BO9.lt; obtain ⟨p0, p1, _, _⟩ := BP9.below hbx BP9.lt; obtain ⟨q0, q1, _, _⟩ := BD9.below hbx BD9.lt; clear hbx))
              go_ret
              exact ⟨rfl, HB9.out.trans (HBc.out.mono HB9.out.size)⟩
            | false =>
              have FSP := FSP0 rfl
              clear FSP0
              go_wp2_with (first | (go_at_call_of 16 (Value.slice a L cap); refine (FH.out _ HBc.out).mono ?_; clear FH; clear o0 o1 p0 p1 q0 q1; rintro e wn ⟨rfl, hbn⟩; have hbx := HBc.out.trans (hbn.mono HBc.out.size); clear HBc hbn; have HBc := Lib.hid hbx; obtain ⟨o0, o1, _, _⟩ := BO9.below hbx BO9.lt; obtain ⟨p0, p1, _, _⟩ := BP9.below hbx BP9.lt; obtain ⟨q0, q1, _, _⟩ := BD9.below hbx BD9.lt; clear hbx) | (go_at_call_of 39 (Value.slice a8 L cap8); refine (FSD.out _ HBc.out).mono ?_; clear FSD; clear o0 o1 p0 p1 q0 q1; rintro e wn ⟨rfl, hbn⟩; have hbx := HBc.out.trans (hbn.mono HBc.out.size); clear HBc hbn; have HBc := Lib.hid hbx; obtain ⟨o0, o1, _, _⟩ := BO9.below hbx BO9.lt; obtain ⟨p0, p1, _, _⟩ := BP9.below hbx BP9.lt; obtain ⟨q0, q1, _, _⟩ := BD9.below hbx BD9.lt; clear hbx) | (go_at_call_of 39 (Value.slice a6 L cap6); refine (FSP.out _ HBc.out).mono ?_; clear FSP; clear o0 o1 p0 p1 q0 q1; rintro e wn ⟨rfl, hbn⟩; have hbx := HBc.out.trans (hbn.mono HBc.out.size); clear HBc hbn; have HBc := Lib.hid hbx; obtain ⟨o0, o1, _, _⟩ := BO9.below hbx BO9.lt; obtain ⟨p0, p1, _, _⟩ := BP9.below hbx BP9.lt; obtain ⟨q0, q1, _, _⟩ := BD9.below hbx BD9.lt; clear hbx) | (go_at_call_of 14 (Value.slice a6 L cap6); refine (FAP.out _ HBc.out).mono ?_; clear FAP; clear o0 o1 p0 p1 q0 q1; rintro e wn ⟨rfl, hbn⟩; have hbx := HBc.out.trans (hbn.mono HBc.out.size); clear HBc hbn; have HBc := Lib.hid hbx; obtain ⟨o0, o1, _, _⟩ := BO9.below hbx BO9.lt; obtain ⟨p0, p1, _, _⟩ := BP9.below hbx BP9.lt; obtain ⟨q0, q1, _, _⟩ := BD9.below hbx BD9.lt; clear hbx) | (go_at_call_of 14 (Value.slice a8 L cap8); refine (FAD.out _ HBc.out).mono ?_; clear FAD; clear o0 o1 p0 p1 q0 q1; rintro e wn ⟨rfl, hbn⟩; have hbx := HBc.out.trans (hbn.mono HBc.out.size); clear HBc hbn; have HBc := Lib.hid hbx; obtain ⟨o0, o1, _, _⟩ := BO9.below hbx BO9.lt; obtain ⟨p0, p1, _, _⟩ := BP9.below hbx BP9.lt; obtain ⟨q0, q1, _, _⟩ := BD9.below hbx BD9.lt; clear hbx) | (go_at_call_of 37 (Value.slice a L cap); refine (FLO.out _ HBc.out).mono ?_; clear FLO; clear o0 o1 p0 p1 q0 q1; rintro e wn ⟨rfl, hbn⟩; have hbx := HBc.out.trans (hbn.mono HBc.out.size); clear HBc hbn; have HBc := Lib.hid hbx; obtain ⟨o0, o1, _, _⟩ := BO9.below hbx BO9.lt; obtain ⟨p0, p1, _, _⟩ := BP9.below hbx BP9.lt; obtain ⟨q0, q1, _, _⟩ := BD9.below hbx BD9.lt; clear hbx) | (go_at_call_of 37 (Value.slice a8 L cap8); refine (FLD.out _ HBc.out).mono ?_; clear FLD; clear o0 o1 p0 p1 q0 q1; rintro e wn ⟨rfl, hbn⟩; have hbx := HBc.out.trans (hbn.mono HBc.out.size); clear HBc hbn; have HBc := Lib.hid hbx; obtain ⟨o0, o1, _, _⟩ := BO9.below hbx BO9.lt; obtain ⟨p0, p1, _, _⟩ := BP9.below hbx BP9.lt; obtain ⟨q0, q1, _, _⟩ := BD9.below hbx BD9.lt; clear hbx))
              go_ret
              exact ⟨rfl, HB9.out.trans (HBc.out.mono HB9.out.size)⟩
  · have hd : decide ((L : Int) ≤ 30) = false := by simp; omega
    refine (few_any n a L cap false hd W3).mono ?_
    rintro e w4 ⟨rfl, hb4⟩
    have hB4 := hB3.trans (hb4.mono hB3.size)
    have HB4 := Lib.hid hB4
    clear hb4 hB4 BA3 BO3 hB3
    go_wp2
    go_ret
    exact ⟨rfl, HB4.out⟩
end Go.Proofs.YtjlofjoekpoepaaDoor
