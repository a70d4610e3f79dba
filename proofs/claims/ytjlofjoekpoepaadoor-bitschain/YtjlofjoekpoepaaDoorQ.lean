import Derived.Test.YtjlofjoekpoepaaDoorP
namespace Go.Proofs.YtjlofjoekpoepaaDoor
open Go Go.RowKit Go.Sort

theorem count_of_nil (c : Nat) : (nums (ofW c [])).length = 0 := by
  rw [nums_eq]
  have : (fun i => bitAt (ofW c []) i) = fun _ => false := by funext i; simp [ofW, bitAt_zeros]
  rw [this]
  simp

set_option maxRecDepth 100000 in
set_option maxHeartbeats 4000000 in
theorem chain_any (n : Int) (a : Option Addr) (l : List Int) (cap : Nat) (w : World) (hIs : Is w.heap.size w a l) (hlm : l.length ≤ maxLen) (hT : Tab w) :
    Calls Tryd.prog 8 #[.int .i64 n, .slice a l.length cap] w fun e w' => e = .returned (.bool true) ∧ Below w.heap.size w w' := by
  have HA := Lib.hid (awake_any w hT)
  obtain ⟨L, hL⟩ : ∃ L, l.length = L := ⟨_, rfl⟩
  rw [hL] at hlm ⊢
  have HL := Lib.hid hL
  have HIs := Lib.hid hIs
  have HT := Lib.hid hT
  unfold maxLen at hlm
  have hand := i64_and127 n
  obtain ⟨c, hc⟩ : ∃ c : Nat, n % 128 = (c : Int) := ⟨(n % 128).toNat, by omega⟩
  rw [hc] at hand
  have hc127 : c ≤ 127 := by omega
  clear hL hIs hT hc
  by_cases hbig : 200 < L
  · go_enter Tryd.func8, Tryd.ntmps8
    go_wp2_with fail
    refine HA.out.mono ?_
    rintro e w1 ⟨rfl, hb⟩
    have HB := Lib.hid hb
    clear hb
    go_wp2
    go_ret
    exact ⟨rfl, HB.out⟩
  · have hsm : L ≤ 200 := by omega
    have hok : ∀ m, Ok c (ofW c m) := fun m => ok_of (by omega) m
    have HOK := Lib.hid hok
    have hd200 : decide (200 < (L : Int)) = false := by simp; omega
    clear hbig hlm hok
    have hcl : Hid (clampN (c : Int) = c) := by
      show clampN (c : Int) = c
      unfold clampN
      rw [if_neg (by omega), if_neg (by omega)]
      simp
    go_enter Tryd.func8, Tryd.ntmps8
    go_wp2_with fail
    refine HA.out.mono ?_
    clear HA
    rintro e w1 ⟨rfl, hb1⟩
    have HB1 := Lib.hid hb1
    clear hb1
    go_wp2_with fail
    have hnew := new_any (c : Int) w1
    rw [hcl.out] at hnew
    refine hnew.mono ?_
    clear hnew
    rintro e w2 ⟨g, rfl, hF, hb2⟩
    have hb2' : Below w.heap.size w w2 := HB1.out.trans (hb2.mono HB1.out.size)
    have hwl : wcount c ≤ 16 := wcount_le (by omega)
    obtain ⟨K, hK⟩ : ∃ K, wcount c = K := ⟨_, rfl⟩
    rw [hK] at hF hwl ⊢
    have HK := Lib.hid hK
    have HF := Lib.hid hF
    have HB2 := Lib.hid hb2'
    clear hb2 hb2' hF hK
    go_wp2_with fail
    have BX := Box.new w2 (.int .i64 (c : Int)) (.slice (some ⟨g, 0, none⟩) K K) 28
    have hA := (Below.refl w2.heap.size w2).alloc (Nat.le_refl _) (.cells #[.int .i64 (c : Int), .slice (some ⟨g, 0, none⟩) K K] 28)
    have hB3 := HB2.out.trans (hA.mono HB2.out.size)
    have hW3 := (HF.out.below hA HF.out.lt).wd
    obtain ⟨b6, hb6⟩ : ∃ b6, w2.heap.size = b6 := ⟨_, rfl⟩
    have hb6' : w.heap.size ≤ b6 := by rw [← hb6]; exact HB2.out.size
    rw [hb6] at BX ⊢
    have e0 : List.replicate K 0 = ofW c [] := by simp [ofW, HK.out]
    rw [e0] at hW3
    generalize w2.alloc (.cells #[.int .i64 (c : Int), .slice (some ⟨g, 0, none⟩) K K] 28) = W3 at *
    clear hA hb6 e0 HB1 HF
    go_loopg [7, 8] L (fun gk s7 s8 wr => ∃ (q : Nat) (ar : Option Addr) (capr : Nat), gk = L - q ∧ q ≤ L ∧ s8 = .int .i64 q ∧ s7 = .int .i64 ((nums (ofW c (l.take q))).length : Nat) ∧ Hid (Box wr b6 (.int .i64 (c : Int)) (.slice ar K capr)) ∧ Hid (Wd wr.heap.size wr ar (ofW c (l.take q))) ∧ Hid (Below w.heap.size w wr))
    case atStart => exact ⟨0, _, K, rfl, Nat.zero_le _, rfl, by simp [count_of_nil], BX, hW3, hB3⟩
    case round =>
      clear BX hW3 hB3
      obtain ⟨q, ar, capr, hgk, hq, rfl, rfl, hBX, hWd, hB⟩ := hrel
      have HGK := Lib.hid hgk
      clear hgk
      have hok := HOK.out (l.take q)
      obtain ⟨ws, hws⟩ : ∃ ws, ofW c (l.take q) = ws := ⟨_, rfl⟩
      rw [hws] at hok hWd ⊢
      have hwsl : ws.length = K := by rw [hok.len]; exact HK.out
      have HWS := Lib.hid hws
      have hsv : SV wr (.agg #[.int .i64 (c : Int), .slice ar K capr]) (c : Int) ws := ⟨ar, capr, by rw [hwsl], hWd.out⟩
      have HSV := Lib.hid hsv
      have hTr := HT.out.below hB.out
      have HTr := Lib.hid hTr
      have HOk := Lib.hid hok
      have hcnt := count_le hok
      obtain ⟨kk, hkk⟩ : ∃ kk, (nums ws).length = kk := ⟨_, rfl⟩
      rw [hkk] at hcnt ⊢
      have HKK := Lib.hid hkk
      have HWL := Lib.hid hwsl
      clear hws hok hsv hTr hkk hwsl
      have hbl6 := hBX.out.lt
      by_cases hlt : q < L
      · obtain ⟨b, o, rfl, hbl, hcell⟩ := HIs.out q (by rw [HL.out]; exact hlt)
        have hcx := (hB.out.cell (p := ⟨b, o + q, none⟩) hbl).trans hcell
        have hblr : b < wr.heap.size := Nat.lt_of_lt_of_le hbl hB.out.size
        obtain ⟨x, hx⟩ : ∃ x, l[q]?.getD 0 = x := ⟨_, rfl⟩
        rw [hx] at hcx
        have HX : Hid (ofW c (l.take (q + 1)) = putW c ws x) := by
          have hi : q < l.length := by rw [HL.out]; exact hlt
          have e : l.take (q + 1) = l.take q ++ [l[q]] := List.take_succ_eq_append_getElem hi
          show ofW c (l.take (q + 1)) = putW c ws x
          rw [e, ofW_snoc, HWS.out, ← hx]
          simp [hi]
        have hqi : (q : Int) < (L : Int) := by omega
        have hqi0 : (0 : Int) ≤ (q : Int) := by omega
        have hS : Hid (∀ W, Below wr.heap.size wr W → W.cell? ⟨b6, 0, none⟩ = some (.int .i64 (c : Int)) ∧ W.cell? ⟨b6, 1, none⟩ = some (.slice ar K capr) ∧ W.cell? ⟨b, o + q, none⟩ = some (.int .i64 x) ∧ Below wr.heap.size wr W) := fun W h =>
          ⟨(h.cell (p := ⟨b6, 0, none⟩) hbl6).trans hBX.out.c0, (h.cell (p := ⟨b6, 1, none⟩) hbl6).trans hBX.out.c1, (h.cell (p := ⟨b, o + q, none⟩) hblr).trans hcx, h⟩
        clear hcell hx hcx
        go_upto_region 9 with fail
        go_cut [9] (fun s9 wx => ∃ (b9 : Nat) (a9 : Option Addr) (cap9 : Nat), s9 = .pointer (some ⟨b9, 0, none⟩) ∧ Hid (Box wx b9 (.int .i64 (c : Int)) (.slice a9 K cap9)) ∧ Hid (FreshV wr.heap.size wx a9 (putW c ws x)) ∧ Hid (wr.heap.size ≤ b9) ∧ Hid (Below wr.heap.size wr wx))
        case first =>
          go_region_held3 (fun w' => w'.cell? ⟨b6, 0, none⟩ = some (.int .i64 (c : Int)) ∧ w'.cell? ⟨b6, 1, none⟩ = some (.slice ar K capr) ∧ w'.cell? ⟨b, o + q, none⟩ = some (.int .i64 x) ∧ Below wr.heap.size wr w')
            (first | exact hS.out _ (Below.refl _ _).drew | exact hS.out _ ((Below.refl _ _).alloc (Nat.le_refl _) _).drew | exact hS.out _ HBW5.out | exact hS.out _ (HBW5.out.alloc HBW5.out.size _) | exact hS.out _ ((HBW5.out.setCell (p := ⟨wr.heap.size, 0, none⟩) (Nat.le_refl _) _).setCell (p := ⟨wr.heap.size, 1, none⟩) (Nat.le_refl _) _))
            (first | (go_at_call 20; refine (With_ok _ c ws x _ (HSV.out.below ?_) HOk.out).mono ?_; (first | exact (Below.refl _ _).drew | exact ((Below.refl _ _).alloc (Nat.le_refl _) _).drew); rintro e w5 ⟨a5, cap5, rfl, hwd5, hb5⟩; rw [HWL.out]; have HBW5 : Hid (Below wr.heap.size wr w5) := (by first | exact ((Below.refl wr.heap.size wr).drew).trans hb5 | exact (((Below.refl wr.heap.size wr).alloc (Nat.le_refl _) _).drew).trans (hb5.mono (by simp))); (try (obtain ⟨z0, z1, z2, z3⟩ := (Box.new wr (.int .i64 0) (.slice none 0 0) 28).drew.below hb5 (by simp))); have HWD5 := Lib.hid hwd5; clear hb5 hwd5))
          · go_wp2_with fail
            go_meet
            refine ⟨w5.heap.size, a5, cap5, rfl, Box.new _ _ _ _, ?_, HBW5.out.size, HBW5.out.alloc HBW5.out.size _⟩
            exact (HWD5.out.below ((Below.refl _ _).alloc (Nat.le_refl _) _)).base (by simp)
          · go_wp2_with fail
            go_meet
            refine ⟨wr.heap.size, a5, cap5, rfl, Box.put ⟨z0, z1, z2, z3⟩ _ _, ?_, Nat.le_refl _, below_put2 HBW5.out (Nat.le_refl _) _ _⟩
            rcases HWD5.out with h | ⟨g5, rfl, h⟩
            · exact .inl h
            · exact .inr ⟨g5, rfl, (h.block (heap_put2 _ _ _ _ _ (by have := h.1; simp at this; omega))).base (by simp)⟩
        case rest =>
          obtain ⟨b9, a9, cap9, rfl, hB9, hW9, hge9, hBc⟩ := hcut
          obtain ⟨wd, hwd⟩ : ∃ wd : World, wd = wc := ⟨_, rfl⟩
          subst hwd
          have B6c := hBX.out.below hBc.out hbl6
          have hcxc := (hS.out wd hBc.out).2.2.1
          have hB9o := hB9.out
          have hsc := HSV.out.below hBc.out
          have hpl : (putW c ws x).length = K := by rw [putW_length]; exact HWL.out
          have htc : SV wd (.agg #[.int .i64 (c : Int), .slice a9 K cap9]) (c : Int) (putW c ws x) := ⟨a9, cap9, by rw [hpl], hW9.out.wd⟩
          have hTc := HTr.out.below hBc.out
          have hokp := HOk.out.put x
          have hne9 : b6 ≠ b9 := by have := hge9.out; omega
          obtain ⟨sm, hsm'⟩ : ∃ sm, decide (c = c ∧ ws = putW c ws x) = sm := ⟨_, rfl⟩
          have cLeq : ∀ d os, Calls Tryd.prog 37 #[.agg #[.int .i64 (c : Int), .slice ar K capr], .agg #[.int .i64 (c : Int), .slice a9 K cap9]] (grow (redrawn wd d) os) fun e w'' => e = .returned (.bool true) ∧ ∃ p : Regrown, w'' = grow (redrawn wd p.d) p.os :=
            fun d os => Calls.regrown_of ((Leq_ok _ _ c c ws _ _ (hsc.below (below_regrown wd d os)) (htc.below (below_regrown wd d os)) HOk.out hokp (hTc.below (below_regrown wd d os))).mono fun _ _ ⟨he, hb⟩ => ⟨by rw [he, leq_put HOk.out x], hb⟩)
          have cSame : ∀ d os, Calls Tryd.prog 39 #[.agg #[.int .i64 (c : Int), .slice ar K capr], .agg #[.int .i64 (c : Int), .slice a9 K cap9]] (grow (redrawn wd d) os) fun e w'' => e = .returned (.bool sm) ∧ ∃ p : Regrown, w'' = grow (redrawn wd p.d) p.os :=
            fun d os => Calls.regrown_of ((Same_ok _ _ c c ws _ _ (hsc.below (below_regrown wd d os)) (htc.below (below_regrown wd d os)) HOk.out hokp).mono fun _ _ ⟨he, hb⟩ => ⟨by rw [he, hsm'], hb⟩)
          have hput := put_same_iff HOk.out x
          have HSM := Lib.hid hsm'
          have HPUT := Lib.hid hput
          have HSC := Lib.hid hsc
          have HTC := Lib.hid htc
          have HPL := Lib.hid hpl
          have HTcc := Lib.hid hTc
          clear hsm' hput hsc htc hpl hTc hokp
          obtain ⟨x0, x1, x2, x3⟩ := id B6c
          obtain ⟨y0, y1, y2, y3⟩ := id hB9o
          have k0 := cell_regrown x0
          have k1 := cell_regrown x1
          have k2 := cell_regrown y0
          have k3 := cell_regrown y1
          have k4 := cell_regrown hcxc
          obtain ⟨hh, hhv⟩ : ∃ hh, hasB c ws x = hh := ⟨_, rfl⟩
          have cHas : ∀ d os, Calls Tryd.prog 16 #[.agg #[.int .i64 (c : Int), .slice ar K capr], .int .i64 x] (grow (redrawn wd d) os) fun e w'' => e = .returned (.bool hh) ∧ ∃ p : Regrown, w'' = grow (redrawn wd p.d) p.os :=
            fun d os => Calls.regrown_of ((Has_ok _ c ws x _ (HSC.out.below (below_regrown wd d os)) HOk.out).mono fun _ _ ⟨he, hb⟩ => ⟨by rw [he, hhv], hb⟩)
          have HHV := Lib.hid hhv
          clear hhv
          go_upto_region 10 with fail
          go_cut [61] (fun s61 wx => s61 = .bool false ∧ Hid (Below wd.heap.size wd wx))
          case first =>
            clear x0 x1 x2 x3 y0 y1 y2 y3 B6c hB9o hcxc
            cases hh with
            | true =>
              have hsmt : sm = true := by rw [← HSM.out]; simpa using HPUT.out.2 (.inl HHV.out)
              subst hsmt
              refine wp_region_quiet_below (by kernel_rfl) (by kernel_rfl) ?_
              repeat (first | go_big_quiet_step (first | exact cLeq _ _ | exact cSame _ _ | exact cHas _ _) | quiet_step (first | exact cLeq _ _ | exact cSame _ _ | exact cHas _ _))
              refine wpQuiet_nil ?_
              intro _ hw'
              obtain ⟨⟨dq, osq⟩, hw''⟩ := hw'
              subst hw''
              go_wp2_with fail
              go_meet
              exact ⟨rfl, below_regrown wd dq osq⟩
            | false =>
              by_cases hx0 : x < 0
              · have hsmt : sm = true := by rw [← HSM.out]; simpa using HPUT.out.2 (.inr (.inl hx0))
                subst hsmt
                have d0 : decide (x < 0) = true := by simpa using hx0
                refine wp_region_quiet_below (by kernel_rfl) (by kernel_rfl) ?_
                repeat (first | go_big_quiet_step (first | exact cLeq _ _ | exact cSame _ _ | exact cHas _ _) | quiet_step (first | exact cLeq _ _ | exact cSame _ _ | exact cHas _ _))
                refine wpQuiet_nil ?_
                intro _ hw'
                obtain ⟨⟨dq, osq⟩, hw''⟩ := hw'
                subst hw''
                go_wp2_with fail
                go_meet
                exact ⟨rfl, below_regrown wd dq osq⟩
              · have d0 : decide (x < 0) = false := by simpa using hx0
                by_cases hxc : (c : Int) ≤ x
                · have hsmt : sm = true := by rw [← HSM.out]; simpa using HPUT.out.2 (.inr (.inr hxc))
                  subst hsmt
                  have d1 : decide ((c : Int) ≤ x) = true := by simpa using hxc
                  refine wp_region_quiet_below (by kernel_rfl) (by kernel_rfl) ?_
                  repeat (first | go_big_quiet_step (first | exact cLeq _ _ | exact cSame _ _ | exact cHas _ _) | quiet_step (first | exact cLeq _ _ | exact cSame _ _ | exact cHas _ _))
                  refine wpQuiet_nil ?_
                  intro _ hw'
                  obtain ⟨⟨dq, osq⟩, hw''⟩ := hw'
                  subst hw''
                  go_wp2_with fail
                  go_meet
                  exact ⟨rfl, below_regrown wd dq osq⟩
                · have hsmt : sm = false := by
                    rw [← HSM.out, decide_eq_false_iff_not]
                    intro h
                    rcases HPUT.out.1 h.2 with h | h | h
                    · rw [HHV.out] at h; cases h
                    · exact hx0 h
                    · exact hxc h
                  subst hsmt
                  have d1 : decide ((c : Int) ≤ x) = false := by simpa using hxc
                  refine wp_region_quiet_below (by kernel_rfl) (by kernel_rfl) ?_
                  repeat (first | go_big_quiet_step (first | exact cLeq _ _ | exact cSame _ _ | exact cHas _ _) | quiet_step (first | exact cLeq _ _ | exact cSame _ _ | exact cHas _ _))
                  refine wpQuiet_nil ?_
                  intro _ hw'
                  obtain ⟨⟨dq, osq⟩, hw''⟩ := hw'
                  subst hw''
                  go_wp2_with fail
                  go_meet
                  exact ⟨rfl, below_regrown wd dq osq⟩
          case rest =>
            obtain ⟨rfl, hBq⟩ := hcut
            clear k0 k1 k2 k3 k4 cLeq cSame cHas x0 x1 x2 x3 y0 y1 y2 y3
            have hss := HSC.out.below hBq.out
            have htt := HTC.out.below hBq.out
            have B6q := B6c.below hBq.out B6c.lt
            have B9q := hB9o.below hBq.out hB9o.lt
            have hwd9 := hW9.out.below hBq.out
            have hBall : Below w.heap.size w wc := (hB.out.trans (hBc.out.mono hB.out.size)).trans (hBq.out.mono (Nat.le_trans hB.out.size hBc.out.size))
            have HSm := Lib.hid (Same_ok _ _ c c ws _ wc hss htt HOk.out (HOk.out.put x))
            rw [HSM.out] at HSm
            obtain ⟨x0, x1, x2, x3⟩ := id B6q
            obtain ⟨y0, y1, y2, y3⟩ := id B9q
            have hkk1 : (kk : Int) + 1 ≤ 1025 := by omega
            have H6 := Lib.hid B6q
            have H9 := Lib.hid B9q
            have HW9q := Lib.hid hwd9
            have HBA := Lib.hid hBall
            clear hss htt B6q B9q hwd9 hBall B6c hB9o hcxc
            go_wp2_with fail
            refine HSm.out.mono ?_
            clear HSm x0 x1 x2 x3 y0 y1 y2 y3
            rintro e w6 ⟨rfl, hb6q⟩
            obtain ⟨x0, x1, x2, x3⟩ := H6.out.below hb6q H6.out.lt
            obtain ⟨y0, y1, y2, y3⟩ := H9.out.below hb6q H9.out.lt
            have HB6 := Lib.hid hb6q
            clear hb6q
            have hall6 := HBA.out.trans (HB6.out.mono HBA.out.size)
            have hP := below_put2 hall6 (b := b6) hb6' (.int .i64 (c : Int)) (.slice a9 K cap9)
            have hBXf := Box.put ⟨x0, x1, x2, x3⟩ (.int .i64 (c : Int)) (.slice a9 K cap9)
            have hWf : Wd ((w6.setCell ⟨b6, 0, none⟩ (.int .i64 (c : Int))).setCell ⟨b6, 1, none⟩ (.slice a9 K cap9)).heap.size ((w6.setCell ⟨b6, 0, none⟩ (.int .i64 (c : Int))).setCell ⟨b6, 1, none⟩ (.slice a9 K cap9)) a9 (ofW c (l.take (q + 1))) := by
              rw [HX.out]
              rcases HW9q.out.below HB6.out with h | ⟨g5, rfl, h⟩
              · rw [h]; exact Wd.nil _ _ _
              · exact (h.block (heap_put2 _ _ _ _ _ (by have := h.1; omega))).wd
            have HP := Lib.hid hP
            have HBXf := Lib.hid hBXf
            have HWf := Lib.hid hWf
            clear hall6 hP hBXf hWf
            cases sm with
            | true =>
              have hcnt' : Hid ((nums (ofW c (l.take (q + 1)))).length = kk) := by
                have h := HSM.out
                rw [decide_eq_true_eq] at h
                show (nums (ofW c (l.take (q + 1)))).length = kk
                rw [HX.out, ← h.2]
                exact HKK.out
              go_wp2
              go_roundg (L - (q + 1))
              case measure => have := HGK.out; omega
              case rel => exact ⟨q + 1, a9, cap9, rfl, by omega, by go_num, by rw [hcnt'.out], HBXf, HWf, HP⟩
            | false =>
              have hcnt' : Hid ((nums (ofW c (l.take (q + 1)))).length = kk + 1) := by
                have h := HSM.out
                rw [decide_eq_false_iff_not] at h
                show (nums (ofW c (l.take (q + 1)))).length = kk + 1
                have h0 : 0 ≤ x := by
                  apply Int.not_lt.1; intro hx; exact h ⟨by simp, HPUT.out.2 (.inr (.inl hx))⟩
                have h1 : x < c := by
                  apply Int.not_le.1; intro hx; exact h ⟨by simp, HPUT.out.2 (.inr (.inr hx))⟩
                have h2 : bitAt ws x.toNat = false := by
                  have e := HOk.out.hasB x.toNat
                  rw [Int.toNat_of_nonneg h0] at e
                  rw [← e]
                  cases hv : hasB c ws x with
                  | true => exact absurd ⟨by simp, HPUT.out.2 (.inl hv)⟩ h
                  | false => rfl
                rw [HX.out, count_put HOk.out h0 h1 h2, HKK.out]
              go_wp2
              go_roundg (L - (q + 1))
              case measure => have := HGK.out; omega
              case rel => exact ⟨q + 1, a9, cap9, rfl, by omega, by go_num, by rw [hcnt'.out]; go_num, HBXf, HWf, HP⟩
      · obtain rfl : q = L := by omega
        have hws' : ws = ofW c l := by
          have h := HWS.out
          rw [List.take_of_length_le (by rw [HL.out]; exact Nat.le_refl _)] at h
          exact h.symm
        have hOf : ∀ W, Below wr.heap.size wr W → Calls Tryd.prog 27 #[.int .i64 (c : Int), .slice a q cap] W fun e w' => ∃ g', e = .returned (.agg #[.int .i64 (c : Int), .slice (some ⟨g', 0, none⟩) K K]) ∧ Fresh W.heap.size w' g' ws ∧ Below W.heap.size W w' := by
          intro W hW
          have h := Of_any (c : Int) a l cap W ((HIs.out.below (hB.out.trans (hW.mono hB.out.size))).mono (Nat.le_trans hB.out.size hW.size)) (by rw [HL.out]; omega)
          rw [hcl.out, HK.out, HL.out, ← hws'] at h
          exact h
        have HOf := Lib.hid hOf
        have hS : Hid (∀ W, Below wr.heap.size wr W → W.cell? ⟨b6, 0, none⟩ = some (.int .i64 (c : Int)) ∧ W.cell? ⟨b6, 1, none⟩ = some (.slice ar K capr) ∧ Below wr.heap.size wr W) := fun W h =>
          ⟨(h.cell (p := ⟨b6, 0, none⟩) hbl6).trans hBX.out.c0, (h.cell (p := ⟨b6, 1, none⟩) hbl6).trans hBX.out.c1, h⟩
        have hSame : ∀ W (g' : Nat), Below wr.heap.size wr W → Fresh 0 W g' ws → Calls Tryd.prog 39 #[.agg #[.int .i64 (c : Int), .slice ar K capr], .agg #[.int .i64 (c : Int), .slice (some ⟨g', 0, none⟩) K K]] W fun e w' => e = .returned (.bool true) ∧ Below W.heap.size W w' := by
          intro W g' hW hF
          have h := Same_ok _ (.agg #[.int .i64 (c : Int), .slice (some ⟨g', 0, none⟩) K K]) c c ws ws W (HSV.out.below hW) ⟨_, K, by rw [HWL.out], hF.wd⟩ HOk.out HOk.out
          simpa using h
        have HSm := Lib.hid hSame
        have hle : decide ((kk : Int) ≤ (c : Int)) = true := by simp; omega
        have hkeq : ((kk : Int) == (kk : Int)) = true := by simp
        have HWS' := Lib.hid hws'
        clear hOf hSame hws'
        go_wp2_with fail
        go_region_held3 (fun w' => w'.cell? ⟨b6, 0, none⟩ = some (.int .i64 (c : Int)) ∧ w'.cell? ⟨b6, 1, none⟩ = some (.slice ar K capr) ∧ Below wr.heap.size wr w')
          (first | exact hS.out _ (Below.refl _ _).drew | exact hS.out _ HBW7.out | exact hS.out _ HBW6.out | exact hS.out _ HBW5.out)
          (first
            | (go_at_call 26; refine (Count_ok _ c ws _ (HSV.out.below (Below.refl _ _).drew) HOk.out (HTr.out.below (Below.refl _ _).drew)).mono ?_; rintro e w5 ⟨rfl, hb5⟩; rw [HKK.out]; have HBW5 : Hid (Below wr.heap.size wr w5) := ((Below.refl wr.heap.size wr).drew).trans hb5; clear hb5)
            | (go_at_call 27; refine (HOf.out _ HBW5.out).mono ?_; rintro e w6 ⟨g6, rfl, hF6, hb6⟩; have HBW6 : Hid (Below wr.heap.size wr w6) := HBW5.out.trans (hb6.mono HBW5.out.size); have HF6 := Lib.hid (hF6.base (Nat.zero_le _)); clear hb6 hF6)
            | (go_at_call 39; refine (HSm.out _ _ HBW6.out HF6.out).mono ?_; rintro e w7 ⟨rfl, hb7⟩; have HBW7 : Hid (Below wr.heap.size wr w7) := HBW6.out.trans (hb7.mono HBW6.out.size); clear hb7))
        all_goals
          go_wp2_with fail
          go_ret
          exact ⟨rfl, hB.out.trans (HBW7.out.mono hB.out.size)⟩
end Go.Proofs.YtjlofjoekpoepaaDoor
