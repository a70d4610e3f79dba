import Derived.Test.YtcmncclibhjepaaEnvD
namespace Go.Proofs.Ytcmncclibhjepaa
open Go Go.RowKit Go.Sort

theorem changedF_off (a : Option Addr) (n cap : Nat) (i : Int) (x y : Int) (w : World) :
    Calls Try.prog 50 #[.agg #[.bool false, .slice a n cap], .int .i64 i, .agg #[.int .i64 x, .int .i64 y], .func (.func 41) #[] #[]] w fun e w' =>
      e = .returned (.agg #[.bool false, .slice none 0 0]) ∧ Below w.heap.size w w' := by
  have HW := Lib.hid (below3 w (.cells #[.bool false, .slice a n cap] 30) (.cells #[.int .i64 x, .int .i64 y] 32) (.cells #[.bool false, .slice none 0 0] 30))
  go_enter Try.func50, Try.ntmps50
  go_wp2_with fail
  exact bodyPost_ret (v := .agg #[.bool false, .slice none 0 0]) (by simp [results, Try.results50, go_sem]) rfl ⟨rfl, HW.out⟩

set_option maxRecDepth 100000 in
set_option maxHeartbeats 8000000 in
theorem changedF_on (a : Option Addr) (l : List V) (cap : Nat) (i : Int) (x y : Int) (w : World) (h1 : FIs w.heap.size w a l) (hl1 : l.length ≤ 200)
    (f : Nat → V) (hf : ∀ j : Nat, (fun v => v.sn) (atG vbot true l (j : Int)) = f j) (n : Nat) (hn : l.length = n) :
    Calls Try.prog 50 #[.agg #[.bool true, .slice a l.length cap], .int .i64 i, .agg #[.int .i64 x, .int .i64 y], .func (.func 41) #[] #[]] w fun e w' =>
      ∃ g, e = .returned (.agg #[.bool true, .slice (some ⟨g, 0, none⟩) n n]) ∧ FreshF 32 w.heap.size w' g (putG (tabG f n) i (V.sn ⟨x, y⟩)) ∧ Below w.heap.size w w' := by
  have H1 := Lib.hid (fun W (h : Below w.heap.size w W) (j : Nat) => fat_any true a l cap (j : Int) W ((h1.below h).mono h.size))
  have HS : Hid (∀ W, Calls Try.prog 68 #[.agg #[.bool true, .slice a l.length cap]] W fun e w' => e = .returned (.int .i64 (n : Int)) ∧ Below W.heap.size W w') := fun W => by
    have := fsize_any true a l.length cap W
    rw [← hn]; exact this
  have HJ : Hid (∀ (j : Nat) W, Calls Try.prog 41 #[(atG vbot true l (j : Int)).val] W fun e w' => e = .returned (f j).val ∧ Below W.heap.size W w') := fun j W => by
    have := etop_any (atG vbot true l (j : Int)) W
    rw [← hf j]; exact this
  have HN : Hid (∀ W, Calls Try.prog 41 #[.agg #[.int .i64 x, .int .i64 y]] W fun e w' => e = .returned (V.sn ⟨x, y⟩).val ∧ Below W.heap.size W w') := fun W => etop_any ⟨x, y⟩ W
  rw [hn] at hl1 H1 HS ⊢
  have hmk := fun W => mk_runF n (by omega) W
  clear h1 hf hn
  have BE := ((Box.new w (.bool true) (.slice a n cap) 30).alloc (.cells #[.int .i64 x, .int .i64 y] 32)).alloc (.cells #[.bool false, .slice none 0 0] 30)
  have BV := (Box.new (w.alloc (.cells #[.bool true, .slice a n cap] 30)) (.int .i64 x) (.int .i64 y) 32).alloc (.cells #[.bool false, .slice none 0 0] 30)
  have BR := Box.new ((w.alloc (.cells #[.bool true, .slice a n cap] 30)).alloc (.cells #[.int .i64 x, .int .i64 y] 32)) (.bool false) (.slice none 0 0) 30
  have hW := below3 w (.cells #[.bool true, .slice a n cap] 30) (.cells #[.int .i64 x, .int .i64 y] 32) (.cells #[.bool false, .slice none 0 0] 30)
  have hsz : (((w.alloc (.cells #[.bool true, .slice a n cap] 30)).alloc (.cells #[.int .i64 x, .int .i64 y] 32)).alloc (.cells #[.bool false, .slice none 0 0] 30)).heap.size = w.heap.size + 3 := by simp
  simp only [World.size_alloc] at BV BR
  generalize hE : ((w.alloc (.cells #[.bool true, .slice a n cap] 30)).alloc (.cells #[.int .i64 x, .int .i64 y] 32)).alloc (.cells #[.bool false, .slice none 0 0] 30) = W at *
  have HV := Lib.hid BV
  clear BV
  have HW := Lib.hid hW
  have HZ := Lib.hid hsz
  have HE := Lib.hid BE
  have HR := Lib.hid BR
  obtain ⟨c0, c1, -, -⟩ := id BE
  clear hW hsz BE BR
  go_enter Try.func50, Try.ntmps50
  go_wp2_with (go_at_call 68; refine (HS.out _).mono ?_; clear HS c0 c1; rintro e w1 ⟨rfl, hb⟩; have HE0 := Lib.hid ((HE.out.below hb HE.out.lt).alloc (.cells (zerosF n) 32)); have HR0 := Lib.hid ((HR.out.below hb HR.out.lt).alloc (.cells (zerosF n) 32)); have HV0 := Lib.hid ((HV.out.below hb HV.out.lt).alloc (.cells (zerosF n) 32)); have HB0 := Lib.hid ((HW.out.trans (hb.mono HW.out.size)).alloc (HW.out.trans (hb.mono HW.out.size)).size (.cells (zerosF n) 32)); have HF0 := Lib.hid (freshF_zeros w.heap.size w1 n 32 (HW.out.trans (hb.mono HW.out.size)).size); have HSZ := Lib.hid hb.size; clear hb HE HR HW HV)
  have hge : w.heap.size + 3 ≤ w1.heap.size := by have := HSZ.out; have := HZ.out; omega
  generalize w1.alloc (.cells (zerosF n) 32) = W1 at *
  generalize w1.heap.size = g at *
  clear hmk hE HZ HSZ
  go_loopw [20] (fun i wr => ∃ j : Nat, j ≤ n ∧ i = .int .i64 j ∧ Hid (FreshF 32 w.heap.size wr g (midG f vbot n j)) ∧ Hid (Box wr w.heap.size (.bool true) (.slice a n cap)) ∧ Hid (Box wr (w.heap.size + 1) (.int .i64 x) (.int .i64 y)) ∧ Hid (Box wr (w.heap.size + 1 + 1) (.bool false) (.slice none 0 0)) ∧ Hid (Below w.heap.size w wr)) (fun i _ => n - (intOf i).toNat)
  case atStart => exact ⟨0, Nat.zero_le _, rfl, by rw [midG_zero]; exact HF0, HE0, HV0, HR0, HB0⟩
  case round =>
    clear HF0 HE0 HR0 HB0 HV0
    obtain ⟨j, hj, rfl, hF, hE, hV, hR, hBw⟩ := hrel
    by_cases hlt : j < n
    · have hji : (j : Int) < (n : Int) := by omega
      have hl : j < (midG f vbot n j).length := by rw [midG_length _ _ hj]; exact hlt
      have HL := Lib.hid hl
      have q1 := Lib.hid (fun W (h : Below wr.heap.size wr W) => H1.out W (hBw.out.trans (h.mono hBw.out.size)) j)
      have q3 := Lib.hid (HJ.out j)
      obtain ⟨fj, hfj⟩ : ∃ fj, f j = fj := ⟨_, rfl⟩
      rw [hfj] at q3
      have HFJ := Lib.hid hfj
      have HBN : Hid (Below wr.heap.size wr wr) := Below.refl _ _
      generalize atG vbot true l (j : Int) = v1 at *
      clear hfj hl H1 HJ HN
      obtain ⟨x1, y1⟩ := v1
      obtain ⟨x', y'⟩ := fj
      unfold V.val at q1 q3
      obtain ⟨c0, c1, -, -⟩ := id hE.out
      go_wp2_with (first
        | (go_at_call 42; refine (q1.out _ HBN.out).mono ?_; clear q1 c0 c1; rintro e wn ⟨rfl, hbn⟩; have hbx := HBN.out.trans (hbn.mono HBN.out.size); clear HBN hbn; have HBN := Lib.hid hbx; clear hbx)
        | (go_at_call 41; refine (q3.out _).mono ?_; clear q3; rintro e wn ⟨rfl, hbn⟩; have hbx := HBN.out.trans (hbn.mono HBN.out.size); clear HBN hbn; have HBN := Lib.hid hbx; clear hbx; have hFn := hF.out.below HBN.out hF.out.lt; obtain ⟨e0, e1⟩ := hFn.cellAt HL.out; have f0 := hFn.frozenAt (j * 2); have f1 := hFn.frozenAt (j * 2 + 1); clear hFn))
      go_roundw
      case rel =>
        have hFn := hF.out.below HBN.out hF.out.lt
        refine ⟨j + 1, by omega, by go_num, ?_, Lib.hid ((hE.out.below HBN.out hE.out.lt).far (by omega)), Lib.hid ((hV.out.below HBN.out hV.out.lt).far (by omega)), Lib.hid ((hR.out.below HBN.out hR.out.lt).far (by omega)), ?_⟩
        · have := hFn.set j x' y'
          have e := midG_set f vbot hlt
          rw [HFJ.out] at e
          rw [e] at this
          exact this
        · have hb := hBw.out.trans (HBN.out.mono hBw.out.size)
          exact (hb.setCell (p := ⟨g, j * 2, none⟩) (by show w.heap.size ≤ g; omega) _).setCell (p := ⟨g, j * 2 + 1, none⟩) (by show w.heap.size ≤ g; omega) _
      case measure => simp [intOf]; omega
    · obtain rfl : j = n := by omega
      rw [midG_full] at hF
      have HP : Hid (putG (tabG f j) i (V.sn ⟨x, y⟩) = if 0 ≤ i ∧ i < (j : Int) then (tabG f j).set i.toNat (V.sn ⟨x, y⟩) else tabG f j) := by
        show _ = _
        unfold putG; rw [tabG_length]
      clear H1 HJ
      by_cases hin : 0 ≤ i ∧ i < (j : Int)
      · have hP := HP.out
        rw [if_pos hin] at hP
        clear HP
        obtain ⟨q, rfl⟩ : ∃ q : Nat, i = (q : Int) := ⟨i.toNat, by omega⟩
        rw [Int.toNat_natCast] at hP
        have hq : q < j := by omega
        have hqi : (q : Int) < (j : Int) := by omega
        have HL : Hid (q < (tabG f j).length) := by show q < _; rw [tabG_length]; exact hq
        obtain ⟨u, hu⟩ : ∃ u, V.sn ⟨x, y⟩ = u := ⟨_, rfl⟩
        rw [hu] at HN
        have HP : Hid (_ = _) := hP
        have HU := Lib.hid hu
        have HBN : Hid (Below wr.heap.size wr wr) := Below.refl _ _
        clear hu hin hP
        obtain ⟨x', y'⟩ := u
        unfold V.val at HN
        obtain ⟨v0, v1, -, -⟩ := id hV.out
        go_wp2_with (go_at_call 41; refine (HN.out _).mono ?_; clear HN v0 v1; rintro e wn ⟨rfl, hbn⟩; have hbx := HBN.out.trans (hbn.mono HBN.out.size); clear HBN hbn; have HBN := Lib.hid hbx; clear hbx; have hFn := hF.out.below HBN.out hF.out.lt; obtain ⟨e0, e1⟩ := hFn.cellAt HL.out; have f0 := hFn.frozenAt (q * 2); have f1 := hFn.frozenAt (q * 2 + 1); clear hFn; obtain ⟨c0, c1, g0, g1⟩ := ((hR.out.below HBN.out hR.out.lt).far (g := g) (by omega) : Box ((wn.setCell ⟨g, q * 2, none⟩ (.int .i64 x')).setCell ⟨g, q * 2 + 1, none⟩ (.int .i64 y')) _ _ _))
        have hb := hBw.out.trans (HBN.out.mono hBw.out.size)
        have hb1 := (hb.setCell (p := ⟨g, q * 2, none⟩) (by show w.heap.size ≤ g; omega) (.int .i64 x')).setCell (p := ⟨g, q * 2 + 1, none⟩) (by show w.heap.size ≤ g; omega) (.int .i64 y')
        have hb2 := below_put2 hb1 (b := w.heap.size + 1 + 1) (by omega) (.bool true) (.slice (some ⟨g, 0, none⟩) j j)
        have hFn := (hF.out.below HBN.out hF.out.lt).set q x' y'
        exact bodyPost_ret (v := .agg #[.bool true, .slice (some ⟨g, 0, none⟩) j j]) (by simp [results, Try.results50, go_sem, c0, c1]) rfl ⟨g, rfl, by rw [HP.out, HU.out]; exact hFn.block (heap_put2 _ _ _ _ _ (by omega)), hb2⟩
      · have hP := HP.out
        rw [if_neg hin] at hP
        clear HP
        have HP : Hid (_ = _) := hP
        clear hP
        obtain ⟨c0, c1, f0, f1⟩ := id hR.out
        clear HN
        have hor : i < 0 ∨ (0 ≤ i ∧ (j : Int) ≤ i) := by omega
        have hb2 := Lib.hid (below_put2 hBw.out (b := w.heap.size + 1 + 1) (by omega) (.bool true) (.slice (some ⟨g, 0, none⟩) j j))
        clear hin
        rcases hor with h0 | ⟨h0, h1⟩
        all_goals
          go_wp2_with fail
          exact bodyPost_ret (v := .agg #[.bool true, .slice (some ⟨g, 0, none⟩) j j]) (by simp [results, Try.results50, go_sem, c0, c1]) rfl ⟨g, rfl, by rw [HP.out]; exact hF.out.block (heap_put2 _ _ _ _ _ (by omega)), hb2.out⟩

theorem changedS_off (a : Option Addr) (n cap : Nat) (i : Int) (v : Int) (w : World) :
    Calls Try.prog 61 #[.agg #[.bool false, .slice a n cap], .int .i64 i, .int .i64 v, .func (.func 53) #[] #[]] w fun e w' =>
      e = .returned (.agg #[.bool false, .slice none 0 0]) ∧ Below w.heap.size w w' := by
  have HW := Lib.hid (below2 w (.cells #[.bool false, .slice a n cap] 49) (.cells #[.bool false, .slice none 0 0] 49))
  go_enter Try.func61, Try.ntmps61
  go_wp2_with fail
  exact bodyPost_ret (v := .agg #[.bool false, .slice none 0 0]) (by simp [results, Try.results61, go_sem]) rfl ⟨rfl, HW.out⟩

set_option maxRecDepth 100000 in
set_option maxHeartbeats 8000000 in
theorem changedS_on (a : Option Addr) (l : List Int) (cap : Nat) (i : Int) (v : Int) (w : World) (h1 : Is w.heap.size w a l) (hl1 : l.length ≤ 200)
    (f : Nat → Int) (hf : ∀ j : Nat, (fun x => ((sS x : Nat) : Int)) (atG 0 true l (j : Int)) = f j) (n : Nat) (hn : l.length = n) :
    Calls Try.prog 61 #[.agg #[.bool true, .slice a l.length cap], .int .i64 i, .int .i64 v, .func (.func 53) #[] #[]] w fun e w' =>
      ∃ g, e = .returned (.agg #[.bool true, .slice (some ⟨g, 0, none⟩) n n]) ∧ FreshS 3 w.heap.size w' g (putG (tabG f n) i (((sS v : Nat) : Int))) ∧ Below w.heap.size w w' := by
  have H1 := Lib.hid (fun W (h : Below w.heap.size w W) (j : Nat) => sat_any true a l cap (j : Int) W ((h1.below h).mono h.size))
  have HS : Hid (∀ W, Calls Try.prog 71 #[.agg #[.bool true, .slice a l.length cap]] W fun e w' => e = .returned (.int .i64 (n : Int)) ∧ Below W.heap.size W w') := fun W => by
    have := ssize_any true a l.length cap W
    rw [← hn]; exact this
  have HJ : Hid (∀ (j : Nat) W, Calls Try.prog 53 #[(.int .i64 (atG 0 true l (j : Int)))] W fun e w' => e = .returned (.int .i64 (f j)) ∧ Below W.heap.size W w') := fun j W => by
    have := eall_any (atG 0 true l (j : Int)) W
    rw [← hf j]; exact this
  have HN : Hid (∀ W, Calls Try.prog 53 #[.int .i64 v] W fun e w' => e = .returned (.int .i64 (((sS v : Nat) : Int))) ∧ Below W.heap.size W w') := fun W => eall_any v W
  rw [hn] at hl1 H1 HS ⊢
  have hmk := fun W => mk_runS n (by omega) W
  clear h1 hf hn
  have BE := (Box.new w (.bool true) (.slice a n cap) 49).alloc (.cells #[.bool false, .slice none 0 0] 49)
  have BR := Box.new (w.alloc (.cells #[.bool true, .slice a n cap] 49)) (.bool false) (.slice none 0 0) 49
  have hW := below2 w (.cells #[.bool true, .slice a n cap] 49) (.cells #[.bool false, .slice none 0 0] 49)
  have hsz : ((w.alloc (.cells #[.bool true, .slice a n cap] 49)).alloc (.cells #[.bool false, .slice none 0 0] 49)).heap.size = w.heap.size + 2 := by simp
  simp only [World.size_alloc] at BR
  generalize hE : (w.alloc (.cells #[.bool true, .slice a n cap] 49)).alloc (.cells #[.bool false, .slice none 0 0] 49) = W at *
  have HW := Lib.hid hW
  have HZ := Lib.hid hsz
  have HE := Lib.hid BE
  have HR := Lib.hid BR
  obtain ⟨c0, c1, -, -⟩ := id BE
  clear hW hsz BE BR
  go_enter Try.func61, Try.ntmps61
  go_wp2_with (go_at_call 71; refine (HS.out _).mono ?_; clear HS c0 c1; rintro e w1 ⟨rfl, hb⟩; have HE0 := Lib.hid ((HE.out.below hb HE.out.lt).alloc (.cells (zerosS n) 3)); have HR0 := Lib.hid ((HR.out.below hb HR.out.lt).alloc (.cells (zerosS n) 3)); have HB0 := Lib.hid ((HW.out.trans (hb.mono HW.out.size)).alloc (HW.out.trans (hb.mono HW.out.size)).size (.cells (zerosS n) 3)); have HF0 := Lib.hid (freshS_zeros w.heap.size w1 n 3 (HW.out.trans (hb.mono HW.out.size)).size); have HSZ := Lib.hid hb.size; clear hb HE HR HW)
  have hge : w.heap.size + 2 ≤ w1.heap.size := by have := HSZ.out; have := HZ.out; omega
  generalize w1.alloc (.cells (zerosS n) 3) = W1 at *
  generalize w1.heap.size = g at *
  clear hmk hE HZ HSZ
  go_loopw [20] (fun i wr => ∃ j : Nat, j ≤ n ∧ i = .int .i64 j ∧ Hid (FreshS 3 w.heap.size wr g (midG f 0 n j)) ∧ Hid (Box wr w.heap.size (.bool true) (.slice a n cap)) ∧ Hid (Box wr (w.heap.size + 1) (.bool false) (.slice none 0 0)) ∧ Hid (Below w.heap.size w wr)) (fun i _ => n - (intOf i).toNat)
  case atStart => exact ⟨0, Nat.zero_le _, rfl, by rw [midG_zero]; exact HF0, HE0, HR0, HB0⟩
  case round =>
    clear HF0 HE0 HR0 HB0
    obtain ⟨j, hj, rfl, hF, hE, hR, hBw⟩ := hrel
    by_cases hlt : j < n
    · have hji : (j : Int) < (n : Int) := by omega
      have hl : j < (midG f 0 n j).length := by rw [midG_length _ _ hj]; exact hlt
      have HL := Lib.hid hl
      have q1 := Lib.hid (fun W (h : Below wr.heap.size wr W) => H1.out W (hBw.out.trans (h.mono hBw.out.size)) j)
      have q3 := Lib.hid (HJ.out j)
      obtain ⟨fj, hfj⟩ : ∃ fj, f j = fj := ⟨_, rfl⟩
      rw [hfj] at q3
      have HFJ := Lib.hid hfj
      have HBN : Hid (Below wr.heap.size wr wr) := Below.refl _ _
      generalize atG 0 true l (j : Int) = v1 at *
      clear hfj hl H1 HJ HN
      have hdes : True := trivial
      obtain ⟨c0, c1, -, -⟩ := id hE.out
      go_wp2_with (first
        | (go_at_call 54; refine (q1.out _ HBN.out).mono ?_; clear q1 c0 c1; rintro e wn ⟨rfl, hbn⟩; have hbx := HBN.out.trans (hbn.mono HBN.out.size); clear HBN hbn; have HBN := Lib.hid hbx; clear hbx)
        | (go_at_call 53; refine (q3.out _).mono ?_; clear q3; rintro e wn ⟨rfl, hbn⟩; have hbx := HBN.out.trans (hbn.mono HBN.out.size); clear HBN hbn; have HBN := Lib.hid hbx; clear hbx; have hFn := hF.out.below HBN.out hF.out.lt; have e0 := hFn.cellAt HL.out; have f0 := hFn.frozenAt j; clear hFn))
      go_roundw
      case rel =>
        have hFn := hF.out.below HBN.out hF.out.lt
        refine ⟨j + 1, by omega, by go_num, ?_, Lib.hid ((hE.out.below HBN.out hE.out.lt).far1 (by omega)), Lib.hid ((hR.out.below HBN.out hR.out.lt).far1 (by omega)), ?_⟩
        · have := hFn.set j fj
          have e := midG_set f 0 hlt
          rw [HFJ.out] at e
          rw [e] at this
          exact this
        · have hb := hBw.out.trans (HBN.out.mono hBw.out.size)
          exact hb.setCell (p := ⟨g, j, none⟩) (by show w.heap.size ≤ g; omega) _
      case measure => simp [intOf]; omega
    · obtain rfl : j = n := by omega
      rw [midG_full] at hF
      have HP : Hid (putG (tabG f j) i (((sS v : Nat) : Int)) = if 0 ≤ i ∧ i < (j : Int) then (tabG f j).set i.toNat (((sS v : Nat) : Int)) else tabG f j) := by
        show _ = _
        unfold putG; rw [tabG_length]
      clear H1 HJ
      by_cases hin : 0 ≤ i ∧ i < (j : Int)
      · have hP := HP.out
        rw [if_pos hin] at hP
        clear HP
        obtain ⟨q, rfl⟩ : ∃ q : Nat, i = (q : Int) := ⟨i.toNat, by omega⟩
        rw [Int.toNat_natCast] at hP
        have hq : q < j := by omega
        have hqi : (q : Int) < (j : Int) := by omega
        have HL : Hid (q < (tabG f j).length) := by show q < _; rw [tabG_length]; exact hq
        obtain ⟨u, hu⟩ : ∃ u, ((sS v : Nat) : Int) = u := ⟨_, rfl⟩
        rw [hu] at HN
        have HP : Hid (_ = _) := hP
        have HU := Lib.hid hu
        have HBN : Hid (Below wr.heap.size wr wr) := Below.refl _ _
        clear hu hin hP



        go_wp2_with (go_at_call 53; refine (HN.out _).mono ?_; clear HN; rintro e wn ⟨rfl, hbn⟩; have hbx := HBN.out.trans (hbn.mono HBN.out.size); clear HBN hbn; have HBN := Lib.hid hbx; clear hbx; have hFn := hF.out.below HBN.out hF.out.lt; have e0 := hFn.cellAt HL.out; have f0 := hFn.frozenAt q; clear hFn; obtain ⟨c0, c1, g0, g1⟩ := ((hR.out.below HBN.out hR.out.lt).far1 (g := g) (by omega) : Box (wn.setCell ⟨g, q, none⟩ (.int .i64 u)) _ _ _))
        have hb := hBw.out.trans (HBN.out.mono hBw.out.size)
        have hb1 := hb.setCell (p := ⟨g, q, none⟩) (by show w.heap.size ≤ g; omega) (.int .i64 u)
        have hb2 := below_put2 hb1 (b := w.heap.size + 1) (by omega) (.bool true) (.slice (some ⟨g, 0, none⟩) j j)
        have hFn := (hF.out.below HBN.out hF.out.lt).set q u
        exact bodyPost_ret (v := .agg #[.bool true, .slice (some ⟨g, 0, none⟩) j j]) (by simp [results, Try.results61, go_sem, c0, c1]) rfl ⟨g, rfl, by rw [HP.out, HU.out]; exact hFn.block (heap_put2 _ _ _ _ _ (by omega)), hb2⟩
      · have hP := HP.out
        rw [if_neg hin] at hP
        clear HP
        have HP : Hid (_ = _) := hP
        clear hP
        obtain ⟨c0, c1, f0, f1⟩ := id hR.out
        clear HN
        have hor : i < 0 ∨ (0 ≤ i ∧ (j : Int) ≤ i) := by omega
        have hb2 := Lib.hid (below_put2 hBw.out (b := w.heap.size + 1) (by omega) (.bool true) (.slice (some ⟨g, 0, none⟩) j j))
        clear hin
        rcases hor with h0 | ⟨h0, h1⟩
        all_goals
          go_wp2_with fail
          exact bodyPost_ret (v := .agg #[.bool true, .slice (some ⟨g, 0, none⟩) j j]) (by simp [results, Try.results61, go_sem, c0, c1]) rfl ⟨g, rfl, by rw [HP.out]; exact hF.out.block (heap_put2 _ _ _ _ _ (by omega)), hb2.out⟩

end Go.Proofs.Ytcmncclibhjepaa