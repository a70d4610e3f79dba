import Derived.Test.YtjlofjoekpoepaaDoorS
namespace Go.Proofs.YtjlofjoekpoepaaDoor
open Go Go.RowKit Go.Sort

set_option maxRecDepth 100000 in
set_option maxHeartbeats 4000000 in
theorem list_law (n : Int) (a : Option Addr) (ws : List Nat) (cap : Nat) (w : World) (hWd : Wd w.heap.size w a ws) (hWB : WB ws) (hT : Tab w) :
    Calls Tryd.prog 7 #[.agg #[.int .i64 n, .slice a ws.length cap]] w fun e w' => e = .returned (.bool true) ∧ Below w.heap.size w w' := by
  have hW1 : Below w.heap.size w (w.alloc (.cells #[.int .i64 n, .slice a ws.length cap] 24)) := (Below.refl _ _).alloc (Nat.le_refl _) _
  have BA := Box.new w (.int .i64 n) (.slice a ws.length cap) 24
  have hsv : SV w (.agg #[.int .i64 n, .slice a ws.length cap]) n ws := ⟨a, cap, rfl, hWd⟩
  obtain ⟨L, hL⟩ : ∃ L, ws.length = L := ⟨_, rfl⟩
  rw [hL] at hW1 BA hsv ⊢
  generalize hW : w.alloc (.cells #[.int .i64 n, .slice a L cap] 24) = W1 at *
  have HAw := Lib.hid (awake_any W1 (hT.below hW1))
  have HW1 := Lib.hid hW1
  have HSV := Lib.hid hsv
  have HL := Lib.hid hL
  have HT := Lib.hid hT
  clear hsv hL hT hWd hW1
  go_enter Tryd.func7, Tryd.ntmps7
  go_wp2_with fail
  refine HAw.out.mono ?_
  clear HAw
  rintro e w1 ⟨rfl, hb1⟩
  have BA1 := BA.below hb1 BA.lt
  have hB1 := HW1.out.trans (hb1.mono HW1.out.size)
  have HB1 := Lib.hid hB1
  obtain ⟨x0, x1, x2, x3⟩ := id BA1
  clear hb1 hB1 hW BA HW1
  go_wp2_with fail
  refine (ours_any n a L cap w1).mono ?_
  rintro e w2 ⟨rfl, hb2⟩
  have BA2 := (BA1.below hb2 BA1.lt).alloc (.cells #[.int .i64 n, .slice a L cap] 28)
  have BO := Box.new w2 (.int .i64 n) (.slice a L cap) 28
  have hA := (Below.refl w2.heap.size w2).alloc (Nat.le_refl _) (.cells #[.int .i64 n, .slice a L cap] 28)
  have hB2 := HB1.out.trans (hb2.mono HB1.out.size)
  have hB3 := hB2.trans (hA.mono hB2.size)
  have HB3 := Lib.hid hB3
  have HBA2 := Lib.hid BA2
  have HBO := Lib.hid BO
  obtain ⟨b4, hb4⟩ : ∃ b4, w2.heap.size = b4 := ⟨_, rfl⟩
  have HB4 := Lib.hid hb4
  obtain ⟨p0, p1, _, _⟩ := id BA2
  clear hb2 hA hB2 hB3 BA1 BA2 BO HB1 x0 x1 x2 x3 hb4
  go_wp2_with fail
  clear p0 p1
  have BA3 := HBA2.out
  have BO3 := HBO.out
  have hB3 := HB3.out
  rw [HB4.out] at BO3
  rw [HB4.out]
  generalize w2.alloc (.cells #[.int .i64 n, .slice a L cap] 28) = W3 at *
  clear HBA2 HBO HB3 HB4
  by_cases h30 : L ≤ 30
  · have hd : decide ((L : Int) ≤ 30) = true := by simp; omega
    have hSane : ∀ W, Below w.heap.size w W → Calls Tryd.prog 14 #[.agg #[.int .i64 n, .slice a L cap]] W fun e w' => e = .returned (.bool (saneB n ws)) ∧ Below W.heap.size W w' := by
      intro W hW
      obtain ⟨a', cap', e', hwd⟩ := HSV.out.below hW
      have e2 : a = a' ∧ cap = cap' := by simpa [HL.out] using e'
      obtain ⟨rfl, rfl⟩ := e2
      have h := sane_any n a ws cap W hwd (by rw [HL.out]; exact h30)
      rw [HL.out] at h
      exact h
    refine (few_any n a L cap true hd W3).mono ?_
    rintro e w4 ⟨rfl, hb4⟩
    have hB4 := hB3.trans (hb4.mono hB3.size)
    have BA4 := BA3.below hb4 BA3.lt
    have BO4 := BO3.below hb4 BO3.lt
    have HS4 := Lib.hid (hSane w4 hB4)
    obtain ⟨y0, y1, _, _⟩ := id BO4
    have HB4 := Lib.hid hB4
    clear hb4 hB4 BA3 BO3 hB3 hSane hd
    go_wp2_with fail
    clear y0 y1
    cases hsn : saneB n ws with
    | false =>
      rw [hsn] at HS4
      refine HS4.out.mono ?_
      rintro e w5 ⟨rfl, hb5⟩
      have HB5 := Lib.hid (HB4.out.trans (hb5.mono HB4.out.size))
      clear hb5 HS4 BA4 BO4 HB4 hsn
      go_wp2
      go_ret
      exact ⟨rfl, HB5.out⟩
    | true =>
      rw [hsn] at HS4
      obtain ⟨hok, hnn⟩ := ok_of_sane hWB hsn
      obtain ⟨m, hm⟩ : ∃ m, n.toNat = m := ⟨_, rfl⟩
      rw [hm] at hok hnn
      have HSV' : Hid (SV w (.agg #[.int .i64 n, .slice a L cap]) (m : Int) ws) := by rw [hnn]; exact HSV
      have HNN := Lib.hid hnn
      have HOk := Lib.hid hok
      clear hsn hm hok hnn HSV
      have hList : ∀ W, Below w.heap.size w W → Calls Tryd.prog 25 #[.agg #[.int .i64 n, .slice a L cap]] W fun e w' => ∃ u, e = .returned u ∧ w'.ownsRow W.heap.size 3 1 u (nums ws).length ((nums ws).map encI) ∧ Below W.heap.size W w' := by
        intro W hW
        have h := List_any _ (m : Int) ws W (HSV'.out.below hW) (by rw [HL.out]; exact h30) HOk.out.wb (HT.out.below hW)
        rw [(nrm_of_ok HOk.out).2] at h
        exact h
      refine HS4.out.mono ?_
      rintro e w5 ⟨rfl, hb5⟩
      have hB5 := HB4.out.trans (hb5.mono HB4.out.size)
      have BA5 := BA4.below hb5 BA4.lt
      have BO5 := BO4.below hb5 BO4.lt
      have HLi := Lib.hid (hList w5 hB5)
      obtain ⟨y0, y1, _, _⟩ := id BO5
      have HB5 := Lib.hid hB5
      clear hb5 hB5 HS4 BA4 BO4 HB4 hList
      go_wp2_with fail
      clear y0 y1
      refine HLi.out.mono ?_
      rintro e w6 ⟨u, rfl, hown, hb6⟩
      obtain ⟨al, capl, rfl, hIs⟩ := is_of_owns hown
      have hB6 := HB5.out.trans (hb6.mono HB5.out.size)
      have BA6 := BA5.below hb6 BA5.lt
      have BO6 := BO5.below hb6 BO5.lt
      obtain ⟨xs, hxs⟩ : ∃ xs, nums ws = xs := ⟨_, rfl⟩
      rw [hxs] at hIs ⊢
      have HXS := Lib.hid hxs
      have hcnt := count_le HOk.out
      rw [hxs] at hcnt
      have hm1024 := HOk.out.le
      have HIs := Lib.hid hIs
      have HB6 := Lib.hid hB6
      obtain ⟨X, hX⟩ : ∃ X, xs.length = X := ⟨_, rfl⟩
      rw [hX] at hcnt ⊢
      have HX := Lib.hid hX
      clear hb6 hB6 HLi BA5 BO5 HB5 hown hIs hxs hX
      go_wp2_with fail
      go_loopg [6] X (fun gk s6 wr => ∃ q : Nat, gk = X - q ∧ q ≤ X ∧ s6 = .int .i64 q ∧ Hid (Below w6.heap.size w6 wr))
      case atStart => exact ⟨0, rfl, Nat.zero_le _, rfl, Below.refl _ _⟩
      case round =>
        obtain ⟨q, hgk, hq, rfl, hBr⟩ := hrel
        have HGK := Lib.hid hgk
        clear hgk
        have BAr := BA6.below hBr.out BA6.lt
        have BOr := BO6.below hBr.out BO6.lt
        have hBwr : Below w.heap.size w wr := HB6.out.trans (hBr.out.mono HB6.out.size)
        have HBWr := Lib.hid hBwr
        have hIsr := (HIs.out.below hBr.out).mono hBr.out.size
        have HIsr := Lib.hid hIsr
        clear hBwr hIsr
        by_cases hlt : q < X
        · have hlx : q < xs.length := by rw [HX.out]; exact hlt
          obtain ⟨bl, ol, rfl, hbl, hcell⟩ := HIsr.out q (by rw [List.length_map]; exact hlx)
          obtain ⟨x, hx⟩ : ∃ x, xs[q]?.getD 0 = x := ⟨_, rfl⟩
          have hmapx : (xs.map fun (x : Nat) => (x : Int))[q]?.getD 0 = ((xs[q]?.getD 0 : Nat) : Int) := by simp [hlx]
          rw [hmapx, hx] at hcell
          have hmem : x ∈ nums ws := by rw [HXS.out, ← hx]; simp [hlx]
          have hhas : hasB m ws (x : Int) = true := by rw [HOk.out.hasB]; exact mem_nums.1 hmem
          have cHas : ∀ d os, Calls Tryd.prog 16 #[.agg #[.int .i64 n, .slice a L cap], .int .i64 (x : Int)] (grow (redrawn wr d) os) fun e w'' => e = .returned (.bool true) ∧ ∃ p : Regrown, w'' = grow (redrawn wr p.d) p.os :=
            fun d os => Calls.regrown_of ((Has_ok _ m ws (x : Int) _ ((HSV'.out.below HBWr.out).below (below_regrown wr d os)) HOk.out).mono fun _ _ ⟨he, hb⟩ => ⟨by rw [he, hhas], hb⟩)
          have k0 := cell_regrown BOr.c0
          have k1 := cell_regrown BOr.c1
          have k2 := cell_regrown hcell
          have hqi : (q : Int) < (X : Int) := by omega
          have hXX : (X : Int) ≤ 1024 := by omega
          by_cases hq0 : q = 0
          · have hpos : decide (0 < q) = false := by simp; omega
            clear hcell hmapx hx hmem hhas hlx hq0
            go_wp2_with fail
            refine wp_region_quiet_below (by kernel_rfl) (by kernel_rfl) ?_
            repeat (first | go_big_quiet_step (exact cHas _ _) | quiet_step (exact cHas _ _))
            refine wpQuiet_nil ?_
            intro _ hw'
            obtain ⟨⟨dq, osq⟩, hw''⟩ := hw'
            subst hw''
            clear k0 k1 k2 cHas hpos
            go_wp2
            go_roundg (X - (q + 1))
            case measure => have := HGK.out; omega
            case rel => exact ⟨q + 1, rfl, by omega, by go_num, hBr.out.trans ((below_regrown wr dq osq).mono hBr.out.size)⟩
          · have hlp : q - 1 < xs.length := by omega
            obtain ⟨bl', ol', e', _, hcell'⟩ := HIsr.out (q - 1) (by rw [List.length_map]; exact hlp)
            cases e'
            obtain ⟨y, hy⟩ : ∃ y, xs[q - 1]?.getD 0 = y := ⟨_, rfl⟩
            have hmapy : (xs.map fun (x : Nat) => (x : Int))[q - 1]?.getD 0 = ((xs[q - 1]?.getD 0 : Nat) : Int) := by simp [hlp]
            rw [hmapy, hy] at hcell'
            have hyx : y < x := by
              have hs := nums_sorted ws
              rw [HXS.out] at hs
              have := List.pairwise_iff_getElem.1 hs (q - 1) q hlp hlx (by omega)
              rw [← hx, ← hy]
              simpa [hlp, hlx] using this
            have hle : decide (x ≤ y) = false := by simp; omega
            have k3 := cell_regrown hcell'
            have hpos : decide (0 < q) = true := by simp; omega
            have g1 : IntKind.i64.wrap ((q : Int) - 1) = (q : Int) - 1 := by rw [IntKind.wrap_i64]; omega
            have g2 : (q : Int) - 1 < (X : Int) := by omega
            have g5 : (1 : Int) ≤ (q : Int) := by omega
            have g6 : (0 : Int) ≤ (q : Int) - 1 := by omega
            have g7 : ((q : Int) - 1).toNat = q - 1 := by omega
            clear hcell hcell' hmapx hmapy hx hy hmem hhas hlx hlp hyx hq0
            go_wp2_with fail
            refine wp_region_quiet_below (by kernel_rfl) (by kernel_rfl) ?_
            repeat (first | go_big_quiet_step (exact cHas _ _) | quiet_step (exact cHas _ _))
            refine wpQuiet_nil ?_
            intro _ hw'
            obtain ⟨⟨dq, osq⟩, hw''⟩ := hw'
            subst hw''
            clear k0 k1 k2 k3 cHas g1 g7 hpos
            go_wp2
            go_roundg (X - (q + 1))
            case measure => have := HGK.out; omega
            case rel => exact ⟨q + 1, rfl, by omega, by go_num, hBr.out.trans ((below_regrown wr dq osq).mono hBr.out.size)⟩
        · obtain rfl : q = X := by omega
          have hKm : wcount m = L := by rw [← HOk.out.len]; exact HL.out
          have hOf : ∀ W, Below wr.heap.size wr W → Calls Tryd.prog 27 #[.int .i64 n, .slice al q capl] W fun e w' => ∃ g', e = .returned (.agg #[.int .i64 n, .slice (some ⟨g', 0, none⟩) L L]) ∧ Fresh W.heap.size w' g' ws ∧ Below W.heap.size W w' := by
            intro W hW
            have h := Of_any n al (xs.map fun (x : Nat) => (x : Int)) capl W ((HIsr.out.below hW).mono hW.size) (by rw [List.length_map, HX.out]; omega)
            have hcl : clampN n = m := by
              rw [← HNN.out]
              unfold clampN
              rw [if_neg (by omega), if_neg (by omega)]
              simp
            rw [hcl, hKm, ← HXS.out, of_nums HOk.out, HNN.out, List.length_map, HXS.out, HX.out] at h
            exact h
          have hSame : ∀ W (g' : Nat), Below wr.heap.size wr W → Fresh 0 W g' ws → Calls Tryd.prog 39 #[.agg #[.int .i64 n, .slice (some ⟨g', 0, none⟩) L L], .agg #[.int .i64 n, .slice a L cap]] W fun e w' => e = .returned (.bool true) ∧ Below W.heap.size W w' := by
            intro W g' hW hF
            have h := Same_ok (.agg #[.int .i64 n, .slice (some ⟨g', 0, none⟩) L L]) _ m m ws ws W (by rw [HNN.out]; exact ⟨_, L, by rw [HL.out], hF.wd⟩) ((HSV'.out.below HBWr.out).below hW) HOk.out HOk.out
            simpa using h
          have hCnt : ∀ W, Below wr.heap.size wr W → Calls Tryd.prog 26 #[.agg #[.int .i64 n, .slice a L cap]] W fun e w' => e = .returned (.int .i64 (q : Int)) ∧ Below W.heap.size W w' := by
            intro W hW
            have h := Count_ok _ m ws W ((HSV'.out.below HBWr.out).below hW) HOk.out ((HT.out.below HBWr.out).below hW)
            rw [HXS.out, HX.out] at h
            exact h
          have hS : Hid (∀ W, Below wr.heap.size wr W → W.cell? ⟨w.heap.size, 0, none⟩ = some (.int .i64 n) ∧ W.cell? ⟨w.heap.size, 1, none⟩ = some (.slice a L cap) ∧ W.cell? ⟨b4, 0, none⟩ = some (.int .i64 n) ∧ W.cell? ⟨b4, 1, none⟩ = some (.slice a L cap) ∧ Below wr.heap.size wr W) := fun W h =>
            ⟨(h.cell (p := ⟨w.heap.size, 0, none⟩) BAr.lt).trans BAr.c0, (h.cell (p := ⟨w.heap.size, 1, none⟩) BAr.lt).trans BAr.c1, (h.cell (p := ⟨b4, 0, none⟩) BOr.lt).trans BOr.c0, (h.cell (p := ⟨b4, 1, none⟩) BOr.lt).trans BOr.c1, h⟩
          have HOf := Lib.hid hOf
          have HSm := Lib.hid hSame
          have HCn := Lib.hid hCnt
          have HBN : Hid (Below wr.heap.size wr wr.drew) := (Below.refl _ _).drew
          have hle : decide ((q : Int) ≤ n) = true := by have := HNN.out; simp; omega
          have hqq : ((q : Int) == (q : Int)) = true := by simp
          clear hOf hSame hCnt hKm
          go_wp2_with fail
          go_region_held3 (fun w' => w'.cell? ⟨w.heap.size, 0, none⟩ = some (.int .i64 n) ∧ w'.cell? ⟨w.heap.size, 1, none⟩ = some (.slice a L cap) ∧ w'.cell? ⟨b4, 0, none⟩ = some (.int .i64 n) ∧ w'.cell? ⟨b4, 1, none⟩ = some (.slice a L cap) ∧ Below wr.heap.size wr w')
            (first | exact hS.out _ HBN.out)
            (first
              | (go_at_call 26; refine (HCn.out _ HBN.out).mono ?_; rintro e wn ⟨rfl, hbn⟩; have hbx := HBN.out.trans (hbn.mono HBN.out.size); clear HBN hbn; have HBN := Lib.hid hbx; clear hbx)
              | (go_at_call 27; refine (HOf.out _ HBN.out).mono ?_; rintro e wn ⟨g6, rfl, hF6, hbn⟩; have hbx := HBN.out.trans (hbn.mono HBN.out.size); clear HBN hbn; have HBN := Lib.hid hbx; have HF6 := Lib.hid (hF6.base (Nat.zero_le _)); clear hbx hF6)
              | (go_at_call 39; refine (HSm.out _ _ HBN.out HF6.out).mono ?_; rintro e wn ⟨rfl, hbn⟩; have hbx := HBN.out.trans (hbn.mono HBN.out.size); clear HBN hbn; have HBN := Lib.hid hbx; clear hbx))
          all_goals
            go_wp2_with fail
            go_ret
            exact ⟨rfl, HBWr.out.trans (HBN.out.mono HBWr.out.size)⟩
  · have hd : decide ((L : Int) ≤ 30) = false := by simp; omega
    refine (few_any n a L cap false hd W3).mono ?_
    rintro e w4 ⟨rfl, hb4⟩
    have hB4 := hB3.trans (hb4.mono hB3.size)
    have HB4 := Lib.hid hB4
    clear hb4 hB4 BA3 BO3 hB3
    go_wp2
    go_ret
    exact ⟨rfl, HB4.out⟩
end Go.Proofs.YtjlofjoekpoepaaDoor
