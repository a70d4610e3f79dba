import Derived.Test.YtcmncclibhjepaaEnvC
namespace Go.Proofs.Ytcmncclibhjepaa
open Go Go.RowKit Go.Sort

theorem joinedF_off (a1 : Option Addr) (n1 cap1 : Nat) (a2 : Option Addr) (n2 cap2 : Nat) (w : World) :
    Calls Try.prog 47 #[.agg #[.bool false, .slice a1 n1 cap1], .agg #[.bool false, .slice a2 n2 cap2], .func (.func 38) #[] #[]] w fun e w' =>
      e = .returned (.agg #[.bool false, .slice none 0 0]) ∧ Below w.heap.size w w' := by
  have HW := Lib.hid (below3 w (.cells #[.bool false, .slice a1 n1 cap1] 30) (.cells #[.bool false, .slice a2 n2 cap2] 30) (.cells #[.bool false, .slice none 0 0] 30))
  go_enter Try.func47, Try.ntmps47
  go_wp2_with fail
  exact bodyPost_ret (v := .agg #[.bool false, .slice none 0 0]) (by simp [results, Try.results47, go_sem]) rfl ⟨rfl, HW.out⟩

set_option maxRecDepth 100000 in
set_option maxHeartbeats 8000000 in
theorem joinedF_on (on1 : Bool) (a1 : Option Addr) (l1 : List V) (cap1 : Nat) (on2 : Bool) (a2 : Option Addr) (l2 : List V) (cap2 : Nat) (w : World) (h1 : FIs w.heap.size w a1 l1) (h2 : FIs w.heap.size w a2 l2) (hl1 : l1.length ≤ 200) (hl2 : l2.length ≤ 200) (hon : (on1 || on2) = true)
    (f : Nat → V) (hf : ∀ j : Nat, join (atG vbot on1 l1 (j : Int)) (atG vbot on2 l2 (j : Int)) = f j) (m1 m2 m : Nat) (hm1 : szG on1 l1 = m1) (hm2 : szG on2 l2 = m2) (hmm : max m1 m2 = m) :
    Calls Try.prog 47 #[.agg #[.bool on1, .slice a1 l1.length cap1], .agg #[.bool on2, .slice a2 l2.length cap2], .func (.func 38) #[] #[]] w fun e w' =>
      ∃ g, e = .returned (.agg #[.bool true, .slice (some ⟨g, 0, none⟩) m m]) ∧ FreshF 32 w.heap.size w' g (tabG f m) ∧ Below w.heap.size w w' := by
  have H1 := Lib.hid (fun W (h : Below w.heap.size w W) (j : Nat) => fat_any on1 a1 l1 cap1 (j : Int) W ((h1.below h).mono h.size))
  have H2 := Lib.hid (fun W (h : Below w.heap.size w W) (j : Nat) => fat_any on2 a2 l2 cap2 (j : Int) W ((h2.below h).mono h.size))
  have HS1 : Hid (∀ W, Calls Try.prog 68 #[.agg #[.bool on1, .slice a1 l1.length cap1]] W fun e w' => e = .returned (.int .i64 (m1 : Int)) ∧ Below W.heap.size W w') := fun W => by
    have := fsize_any on1 a1 l1.length cap1 W
    rw [← hm1]; exact this
  have HS2 : Hid (∀ W, Calls Try.prog 68 #[.agg #[.bool on2, .slice a2 l2.length cap2]] W fun e w' => e = .returned (.int .i64 (m2 : Int)) ∧ Below W.heap.size W w') := fun W => by
    have := fsize_any on2 a2 l2.length cap2 W
    rw [← hm2]; exact this
  have HJ : Hid (∀ (j : Nat) W, Calls Try.prog 38 #[(atG vbot on1 l1 (j : Int)).val, (atG vbot on2 l2 (j : Int)).val] W fun e w' => e = .returned (f j).val ∧ Below W.heap.size W w') := fun j W => by
    have := Join_any (atG vbot on1 l1 (j : Int)) (atG vbot on2 l2 (j : Int)) W
    rw [← hf j]; exact this
  have hb1 : m1 ≤ 200 := by rw [← hm1]; unfold szG; split <;> omega
  have hb2 : m2 ≤ 200 := by rw [← hm2]; unfold szG; split <;> omega
  clear h1 h2 hl1 hl2 hf hm1 hm2
  generalize l1.length = n1 at *
  generalize l2.length = n2 at *
  have BA := ((Box.new w (.bool on1) (.slice a1 n1 cap1) 30).alloc (.cells #[.bool on2, .slice a2 n2 cap2] 30)).alloc (.cells #[.bool false, .slice none 0 0] 30)
  have BB := (Box.new (w.alloc (.cells #[.bool on1, .slice a1 n1 cap1] 30)) (.bool on2) (.slice a2 n2 cap2) 30).alloc (.cells #[.bool false, .slice none 0 0] 30)
  have BR := Box.new ((w.alloc (.cells #[.bool on1, .slice a1 n1 cap1] 30)).alloc (.cells #[.bool on2, .slice a2 n2 cap2] 30)) (.bool false) (.slice none 0 0) 30
  have hW := below3 w (.cells #[.bool on1, .slice a1 n1 cap1] 30) (.cells #[.bool on2, .slice a2 n2 cap2] 30) (.cells #[.bool false, .slice none 0 0] 30)
  have hsz : (((w.alloc (.cells #[.bool on1, .slice a1 n1 cap1] 30)).alloc (.cells #[.bool on2, .slice a2 n2 cap2] 30)).alloc (.cells #[.bool false, .slice none 0 0] 30)).heap.size = w.heap.size + 3 := by simp
  simp only [World.size_alloc] at BB BR
  generalize hE : ((w.alloc (.cells #[.bool on1, .slice a1 n1 cap1] 30)).alloc (.cells #[.bool on2, .slice a2 n2 cap2] 30)).alloc (.cells #[.bool false, .slice none 0 0] 30) = W at *
  have HW := Lib.hid hW
  have HZ := Lib.hid hsz
  have HA := Lib.hid BA
  have HB := Lib.hid BB
  have HR := Lib.hid BR
  have hk : m ≤ 200 := by omega
  have hmk := fun W => mk_runF m (by omega) W
  obtain ⟨c0, c1, -, -⟩ := id BA
  obtain ⟨d0, d1, -, -⟩ := id BB
  clear hW hsz BA BB BR
  have hmx : (max (m1 : Int) (m2 : Int)) = (m : Int) := by omega
  have HMX := Lib.hid hmx
  go_enter Try.func47, Try.ntmps47
  have hcases : (m1 < m2 ∧ m = m2) ∨ (¬ m1 < m2 ∧ m = m1) := by omega
  go_upto_region 1 with fail
  go_cut [16] (fun s16 wx => s16 = .bool false ∧ wx = W)
  case first =>
    clear H1 H2 HS1 HS2 HJ HA HB HR HW HZ HMX hmx hcases hmk
    cases on1 <;> cases on2 <;> (try (exact absurd hon (by decide)))
    all_goals
      go_wp2_with fail
      go_meet
      exact ⟨rfl, rfl⟩
  case rest =>
  obtain ⟨rfl, rfl⟩ := hcut
  clear c0 c1 d0 d1 hE
  go_upto_region 3 with fail
  go_cut [7] (fun s7 wx => ∃ g, s7 = .slice (some ⟨g, 0, none⟩) m m ∧ w.heap.size + 3 ≤ g ∧ FreshF 32 w.heap.size wx g (List.replicate m vbot) ∧ Box wx w.heap.size (.bool on1) (.slice a1 n1 cap1) ∧ Box wx (w.heap.size + 1) (.bool on2) (.slice a2 n2 cap2) ∧ Box wx (w.heap.size + 1 + 1) (.bool false) (.slice none 0 0) ∧ Below w.heap.size w wx)
  case first =>
    have hS : Hid (∀ w', Below wc.heap.size wc w' → w'.cell? ⟨w.heap.size, 0, none⟩ = some (.bool on1) ∧ w'.cell? ⟨w.heap.size, 1, none⟩ = some (.slice a1 n1 cap1) ∧ w'.cell? ⟨w.heap.size + 1, 0, none⟩ = some (.bool on2) ∧ w'.cell? ⟨w.heap.size + 1, 1, none⟩ = some (.slice a2 n2 cap2)) := fun w' h =>
      ⟨(HA.out.below h HA.out.lt).c0, (HA.out.below h HA.out.lt).c1, (HB.out.below h HB.out.lt).c0, (HB.out.below h HB.out.lt).c1⟩
    have HBN : Hid (Below wc.heap.size wc wc.drew) := (Below.refl _ _).drew
    clear H1 H2 HJ hmx
    have tok1 : True := trivial
    have tok2 : True := trivial
    rcases hcases with ⟨hlt, rfl⟩ | ⟨hlt, rfl⟩
    all_goals
      go_region_held3 (fun w' => w'.cell? ⟨w.heap.size, 0, none⟩ = some (.bool on1) ∧ w'.cell? ⟨w.heap.size, 1, none⟩ = some (.slice a1 n1 cap1) ∧ w'.cell? ⟨w.heap.size + 1, 0, none⟩ = some (.bool on2) ∧ w'.cell? ⟨w.heap.size + 1, 1, none⟩ = some (.slice a2 n2 cap2))
        (first | exact hS.out _ HBN.out | exact hS.out _ (HBN.out.alloc HBN.out.size _))
        (first
          | (have _t := tok1; go_at_call 68; refine (HS1.out _).mono ?_; clear _t tok1; rintro e wn ⟨rfl, hbn⟩; have hbx := HBN.out.trans (hbn.mono HBN.out.size); clear HBN hbn; have HBN := Lib.hid hbx; clear hbx)
          | (have _t := tok2; go_at_call 68; refine (HS2.out _).mono ?_; clear _t tok2; rintro e wn ⟨rfl, hbn⟩; have hbx := HBN.out.trans (hbn.mono HBN.out.size); clear HBN hbn; have HBN := Lib.hid hbx; clear hbx))
      all_goals
        go_wp2_with fail
        go_meet
        have hsz := HBN.out.size
        have hz := HZ.out
        refine ⟨wn.heap.size, rfl, by omega, freshF_zeros _ _ _ _ (by omega), (HA.out.below HBN.out HA.out.lt).alloc _, (HB.out.below HBN.out HB.out.lt).alloc _, (HR.out.below HBN.out HR.out.lt).alloc _, ?_⟩
        exact (HW.out.trans (HBN.out.mono HW.out.size)).alloc (by omega) _
  case rest =>
    obtain ⟨g, rfl, hge, hF0, hA0, hB0, hR0, hBw0⟩ := hcut
    have HF0 := Lib.hid hF0
    have HA0 := Lib.hid hA0
    have HB0 := Lib.hid hB0
    have HR0 := Lib.hid hR0
    have HBw0 := Lib.hid hBw0
    clear hF0 hA0 hB0 hR0 hBw0 HA HB HR HW HZ HS1 HS2 hmk hmx HMX hcases
    rename World => wd
    go_wp2_with fail
    go_loopw [26] (fun i wr => ∃ j : Nat, j ≤ m ∧ i = .int .i64 j ∧ Hid (FreshF 32 w.heap.size wr g (midG f vbot m j)) ∧ Hid (Box wr w.heap.size (.bool on1) (.slice a1 n1 cap1)) ∧ Hid (Box wr (w.heap.size + 1) (.bool on2) (.slice a2 n2 cap2)) ∧ Hid (Box wr (w.heap.size + 1 + 1) (.bool false) (.slice none 0 0)) ∧ Hid (Below w.heap.size w wr)) (fun i _ => m - (intOf i).toNat)
    case atStart => exact ⟨0, Nat.zero_le _, rfl, by rw [midG_zero]; exact HF0, HA0, HB0, HR0, HBw0⟩
    case round =>
      clear HF0 HA0 HB0 HR0 HBw0
      obtain ⟨j, hj, rfl, hF, hA, hB, hR, hBw⟩ := hrel
      by_cases hlt : j < m
      · have hji : (j : Int) < (m : Int) := by omega
        have hjn : (0 : Int) ≤ (j : Int) := by omega
        have hl : j < (midG f vbot m j).length := by rw [midG_length _ _ hj]; exact hlt
        have HL := Lib.hid hl
        have hS : Hid (∀ w', Below wr.heap.size wr w' → w'.cell? ⟨w.heap.size, 0, none⟩ = some (.bool on1) ∧ w'.cell? ⟨w.heap.size, 1, none⟩ = some (.slice a1 n1 cap1) ∧ w'.cell? ⟨w.heap.size + 1, 0, none⟩ = some (.bool on2) ∧ w'.cell? ⟨w.heap.size + 1, 1, none⟩ = some (.slice a2 n2 cap2)) := fun w' h =>
          ⟨(hA.out.below h hA.out.lt).c0, (hA.out.below h hA.out.lt).c1, (hB.out.below h hB.out.lt).c0, (hB.out.below h hB.out.lt).c1⟩
        have hS2 : Hid (∀ w', Below wr.heap.size wr w' → ∀ {u v : Value}, ((w'.setCell ⟨g, j * 2, none⟩ u).setCell ⟨g, j * 2 + 1, none⟩ v).cell? ⟨w.heap.size, 0, none⟩ = some (.bool on1) ∧ ((w'.setCell ⟨g, j * 2, none⟩ u).setCell ⟨g, j * 2 + 1, none⟩ v).cell? ⟨w.heap.size, 1, none⟩ = some (.slice a1 n1 cap1) ∧ ((w'.setCell ⟨g, j * 2, none⟩ u).setCell ⟨g, j * 2 + 1, none⟩ v).cell? ⟨w.heap.size + 1, 0, none⟩ = some (.bool on2) ∧ ((w'.setCell ⟨g, j * 2, none⟩ u).setCell ⟨g, j * 2 + 1, none⟩ v).cell? ⟨w.heap.size + 1, 1, none⟩ = some (.slice a2 n2 cap2)) := fun w' h _ _ => ⟨((hA.out.below h hA.out.lt).far (g := g) (by omega)).c0, ((hA.out.below h hA.out.lt).far (g := g) (by omega)).c1, ((hB.out.below h hB.out.lt).far (g := g) (by omega)).c0, ((hB.out.below h hB.out.lt).far (g := g) (by omega)).c1⟩
        have q1 : Hid (∀ W, Below wr.heap.size wr W → _) := fun W h => H1.out W (hBw.out.trans (h.mono hBw.out.size)) j
        have q2 : Hid (∀ W, Below wr.heap.size wr W → _) := fun W h => H2.out W (hBw.out.trans (h.mono hBw.out.size)) j
        have q3 := Lib.hid (HJ.out j)
        obtain ⟨fj, hfj⟩ : ∃ fj, f j = fj := ⟨_, rfl⟩
        rw [hfj] at q3
        have HFJ := Lib.hid hfj
        have HBN : Hid (Below wr.heap.size wr wr.drew) := (Below.refl _ _).drew
        generalize atG vbot on1 l1 (j : Int) = v1 at *
        generalize atG vbot on2 l2 (j : Int) = v2 at *
        clear hfj hl H1 H2 HJ
        obtain ⟨x1, y1⟩ := v1
        obtain ⟨x2, y2⟩ := v2
        obtain ⟨x, y⟩ := fj
        unfold V.val at q1 q2 q3
        go_wp2_with fail
        have tok1 : True := trivial
        have tok2 : True := trivial
        go_region_held3 (fun w' => w'.cell? ⟨w.heap.size, 0, none⟩ = some (.bool on1) ∧ w'.cell? ⟨w.heap.size, 1, none⟩ = some (.slice a1 n1 cap1) ∧ w'.cell? ⟨w.heap.size + 1, 0, none⟩ = some (.bool on2) ∧ w'.cell? ⟨w.heap.size + 1, 1, none⟩ = some (.slice a2 n2 cap2))
          (first | exact hS.out _ HBN.out | exact hS2.out _ HBN.out)
          (first
            | (have _t := tok1; go_at_call 42; refine (q1.out _ HBN.out).mono ?_; clear _t tok1; rintro e wn ⟨rfl, hbn⟩; have hbx := HBN.out.trans (hbn.mono HBN.out.size); clear HBN hbn; have HBN := Lib.hid hbx; clear hbx)
            | (have _t := tok2; go_at_call 42; refine (q2.out _ HBN.out).mono ?_; clear _t tok2; rintro e wn ⟨rfl, hbn⟩; have hbx := HBN.out.trans (hbn.mono HBN.out.size); clear HBN hbn; have HBN := Lib.hid hbx; clear hbx)
            | (go_at_call 38; refine (q3.out _).mono ?_; clear q1 q2 q3; rintro e wn ⟨rfl, hbn⟩; have hbx := HBN.out.trans (hbn.mono HBN.out.size); clear HBN hbn; have HBN := Lib.hid hbx; clear hbx; have hFn := hF.out.below HBN.out hF.out.lt; obtain ⟨e0, e1⟩ := hFn.cellAt HL.out; have f0 := hFn.frozenAt (j * 2); have f1 := hFn.frozenAt (j * 2 + 1); clear hFn))
        all_goals
          go_wp2_with fail
          go_roundw
          case rel =>
            have hFn := hF.out.below HBN.out hF.out.lt
            refine ⟨j + 1, by omega, by go_num, ?_, Lib.hid ((hA.out.below HBN.out hA.out.lt).far (by omega)), Lib.hid ((hB.out.below HBN.out hB.out.lt).far (by omega)), Lib.hid ((hR.out.below HBN.out hR.out.lt).far (by omega)), ?_⟩
            · have := hFn.set j x y
              have e := midG_set f vbot hlt
              rw [HFJ.out] at e
              rw [e] at this
              exact this
            · have hb := hBw.out.trans (HBN.out.mono hBw.out.size)
              exact (hb.setCell (p := ⟨g, j * 2, none⟩) (by show w.heap.size ≤ g; omega) _).setCell (p := ⟨g, j * 2 + 1, none⟩) (by show w.heap.size ≤ g; omega) _
          case measure => simp [intOf]; omega
      · obtain rfl : j = m := by omega
        rw [midG_full] at hF
        obtain ⟨c0, c1, f0, f1⟩ := id hR.out
        go_wp2_with fail
        have hb2 := below_put2 hBw.out (b := w.heap.size + 1 + 1) (by omega) (.bool true) (.slice (some ⟨g, 0, none⟩) j j)
        exact bodyPost_ret (v := .agg #[.bool true, .slice (some ⟨g, 0, none⟩) j j]) (by simp [results, Try.results47, go_sem, c0, c1]) rfl ⟨g, rfl, hF.out.block (heap_put2 _ _ _ _ _ (by omega)), hb2⟩

theorem joinedS_off (a1 : Option Addr) (n1 cap1 : Nat) (a2 : Option Addr) (n2 cap2 : Nat) (w : World) :
    Calls Try.prog 59 #[.agg #[.bool false, .slice a1 n1 cap1], .agg #[.bool false, .slice a2 n2 cap2], .func (.func 39) #[] #[]] w fun e w' =>
      e = .returned (.agg #[.bool false, .slice none 0 0]) ∧ Below w.heap.size w w' := by
  have HW := Lib.hid (below3 w (.cells #[.bool false, .slice a1 n1 cap1] 49) (.cells #[.bool false, .slice a2 n2 cap2] 49) (.cells #[.bool false, .slice none 0 0] 49))
  go_enter Try.func59, Try.ntmps59
  go_wp2_with fail
  exact bodyPost_ret (v := .agg #[.bool false, .slice none 0 0]) (by simp [results, Try.results59, go_sem]) rfl ⟨rfl, HW.out⟩

set_option maxRecDepth 100000 in
set_option maxHeartbeats 8000000 in
theorem joinedS_on (on1 : Bool) (a1 : Option Addr) (l1 : List Int) (cap1 : Nat) (on2 : Bool) (a2 : Option Addr) (l2 : List Int) (cap2 : Nat) (w : World) (h1 : Is w.heap.size w a1 l1) (h2 : Is w.heap.size w a2 l2) (hl1 : l1.length ≤ 200) (hl2 : l2.length ≤ 200) (hon : (on1 || on2) = true)
    (f : Nat → Int) (hf : ∀ j : Nat, (fun x y => ((sS x ||| sS y : Nat) : Int)) (atG 0 on1 l1 (j : Int)) (atG 0 on2 l2 (j : Int)) = f j) (m1 m2 m : Nat) (hm1 : szG on1 l1 = m1) (hm2 : szG on2 l2 = m2) (hmm : max m1 m2 = m) :
    Calls Try.prog 59 #[.agg #[.bool on1, .slice a1 l1.length cap1], .agg #[.bool on2, .slice a2 l2.length cap2], .func (.func 39) #[] #[]] w fun e w' =>
      ∃ g, e = .returned (.agg #[.bool true, .slice (some ⟨g, 0, none⟩) m m]) ∧ FreshS 3 w.heap.size w' g (tabG f m) ∧ Below w.heap.size w w' := by
  have H1 := Lib.hid (fun W (h : Below w.heap.size w W) (j : Nat) => sat_any on1 a1 l1 cap1 (j : Int) W ((h1.below h).mono h.size))
  have H2 := Lib.hid (fun W (h : Below w.heap.size w W) (j : Nat) => sat_any on2 a2 l2 cap2 (j : Int) W ((h2.below h).mono h.size))
  have HS1 : Hid (∀ W, Calls Try.prog 71 #[.agg #[.bool on1, .slice a1 l1.length cap1]] W fun e w' => e = .returned (.int .i64 (m1 : Int)) ∧ Below W.heap.size W w') := fun W => by
    have := ssize_any on1 a1 l1.length cap1 W
    rw [← hm1]; exact this
  have HS2 : Hid (∀ W, Calls Try.prog 71 #[.agg #[.bool on2, .slice a2 l2.length cap2]] W fun e w' => e = .returned (.int .i64 (m2 : Int)) ∧ Below W.heap.size W w') := fun W => by
    have := ssize_any on2 a2 l2.length cap2 W
    rw [← hm2]; exact this
  have HJ : Hid (∀ (j : Nat) W, Calls Try.prog 39 #[(.int .i64 (atG 0 on1 l1 (j : Int))), (.int .i64 (atG 0 on2 l2 (j : Int)))] W fun e w' => e = .returned (.int .i64 (f j)) ∧ Below W.heap.size W w') := fun j W => by
    have := gJoin_any (atG 0 on1 l1 (j : Int)) (atG 0 on2 l2 (j : Int)) W
    rw [← hf j]; exact this
  have hb1 : m1 ≤ 200 := by rw [← hm1]; unfold szG; split <;> omega
  have hb2 : m2 ≤ 200 := by rw [← hm2]; unfold szG; split <;> omega
  clear h1 h2 hl1 hl2 hf hm1 hm2
  generalize l1.length = n1 at *
  generalize l2.length = n2 at *
  have BA := ((Box.new w (.bool on1) (.slice a1 n1 cap1) 49).alloc (.cells #[.bool on2, .slice a2 n2 cap2] 49)).alloc (.cells #[.bool false, .slice none 0 0] 49)
  have BB := (Box.new (w.alloc (.cells #[.bool on1, .slice a1 n1 cap1] 49)) (.bool on2) (.slice a2 n2 cap2) 49).alloc (.cells #[.bool false, .slice none 0 0] 49)
  have BR := Box.new ((w.alloc (.cells #[.bool on1, .slice a1 n1 cap1] 49)).alloc (.cells #[.bool on2, .slice a2 n2 cap2] 49)) (.bool false) (.slice none 0 0) 49
  have hW := below3 w (.cells #[.bool on1, .slice a1 n1 cap1] 49) (.cells #[.bool on2, .slice a2 n2 cap2] 49) (.cells #[.bool false, .slice none 0 0] 49)
  have hsz : (((w.alloc (.cells #[.bool on1, .slice a1 n1 cap1] 49)).alloc (.cells #[.bool on2, .slice a2 n2 cap2] 49)).alloc (.cells #[.bool false, .slice none 0 0] 49)).heap.size = w.heap.size + 3 := by simp
  simp only [World.size_alloc] at BB BR
  generalize hE : ((w.alloc (.cells #[.bool on1, .slice a1 n1 cap1] 49)).alloc (.cells #[.bool on2, .slice a2 n2 cap2] 49)).alloc (.cells #[.bool false, .slice none 0 0] 49) = W at *
  have HW := Lib.hid hW
  have HZ := Lib.hid hsz
  have HA := Lib.hid BA
  have HB := Lib.hid BB
  have HR := Lib.hid BR
  have hk : m ≤ 200 := by omega
  have hmk := fun W => mk_runS m (by omega) W
  obtain ⟨c0, c1, -, -⟩ := id BA
  obtain ⟨d0, d1, -, -⟩ := id BB
  clear hW hsz BA BB BR
  have hmx : (max (m1 : Int) (m2 : Int)) = (m : Int) := by omega
  have HMX := Lib.hid hmx
  go_enter Try.func59, Try.ntmps59
  have hcases : (m1 < m2 ∧ m = m2) ∨ (¬ m1 < m2 ∧ m = m1) := by omega
  go_upto_region 1 with fail
  go_cut [16] (fun s16 wx => s16 = .bool false ∧ wx = W)
  case first =>
    clear H1 H2 HS1 HS2 HJ HA HB HR HW HZ HMX hmx hcases hmk
    cases on1 <;> cases on2 <;> (try (exact absurd hon (by decide)))
    all_goals
      go_wp2_with fail
      go_meet
      exact ⟨rfl, rfl⟩
  case rest =>
  obtain ⟨rfl, rfl⟩ := hcut
  clear c0 c1 d0 d1 hE
  go_upto_region 3 with fail
  go_cut [7] (fun s7 wx => ∃ g, s7 = .slice (some ⟨g, 0, none⟩) m m ∧ w.heap.size + 3 ≤ g ∧ FreshS 3 w.heap.size wx g (List.replicate m 0) ∧ Box wx w.heap.size (.bool on1) (.slice a1 n1 cap1) ∧ Box wx (w.heap.size + 1) (.bool on2) (.slice a2 n2 cap2) ∧ Box wx (w.heap.size + 1 + 1) (.bool false) (.slice none 0 0) ∧ Below w.heap.size w wx)
  case first =>
    have hS : Hid (∀ w', Below wc.heap.size wc w' → w'.cell? ⟨w.heap.size, 0, none⟩ = some (.bool on1) ∧ w'.cell? ⟨w.heap.size, 1, none⟩ = some (.slice a1 n1 cap1) ∧ w'.cell? ⟨w.heap.size + 1, 0, none⟩ = some (.bool on2) ∧ w'.cell? ⟨w.heap.size + 1, 1, none⟩ = some (.slice a2 n2 cap2)) := fun w' h =>
      ⟨(HA.out.below h HA.out.lt).c0, (HA.out.below h HA.out.lt).c1, (HB.out.below h HB.out.lt).c0, (HB.out.below h HB.out.lt).c1⟩
    have HBN : Hid (Below wc.heap.size wc wc.drew) := (Below.refl _ _).drew
    clear H1 H2 HJ hmx
    have tok1 : True := trivial
    have tok2 : True := trivial
    rcases hcases with ⟨hlt, rfl⟩ | ⟨hlt, rfl⟩
    all_goals
      go_region_held3 (fun w' => w'.cell? ⟨w.heap.size, 0, none⟩ = some (.bool on1) ∧ w'.cell? ⟨w.heap.size, 1, none⟩ = some (.slice a1 n1 cap1) ∧ w'.cell? ⟨w.heap.size + 1, 0, none⟩ = some (.bool on2) ∧ w'.cell? ⟨w.heap.size + 1, 1, none⟩ = some (.slice a2 n2 cap2))
        (first | exact hS.out _ HBN.out | exact hS.out _ (HBN.out.alloc HBN.out.size _))
        (first
          | (have _t := tok1; go_at_call 71; refine (HS1.out _).mono ?_; clear _t tok1; rintro e wn ⟨rfl, hbn⟩; have hbx := HBN.out.trans (hbn.mono HBN.out.size); clear HBN hbn; have HBN := Lib.hid hbx; clear hbx)
          | (have _t := tok2; go_at_call 71; refine (HS2.out _).mono ?_; clear _t tok2; rintro e wn ⟨rfl, hbn⟩; have hbx := HBN.out.trans (hbn.mono HBN.out.size); clear HBN hbn; have HBN := Lib.hid hbx; clear hbx))
      all_goals
        go_wp2_with fail
        go_meet
        have hsz := HBN.out.size
        have hz := HZ.out
        refine ⟨wn.heap.size, rfl, by omega, freshS_zeros _ _ _ _ (by omega), (HA.out.below HBN.out HA.out.lt).alloc _, (HB.out.below HBN.out HB.out.lt).alloc _, (HR.out.below HBN.out HR.out.lt).alloc _, ?_⟩
        exact (HW.out.trans (HBN.out.mono HW.out.size)).alloc (by omega) _
  case rest =>
    obtain ⟨g, rfl, hge, hF0, hA0, hB0, hR0, hBw0⟩ := hcut
    have HF0 := Lib.hid hF0
    have HA0 := Lib.hid hA0
    have HB0 := Lib.hid hB0
    have HR0 := Lib.hid hR0
    have HBw0 := Lib.hid hBw0
    clear hF0 hA0 hB0 hR0 hBw0 HA HB HR HW HZ HS1 HS2 hmk hmx HMX hcases
    rename World => wd
    go_wp2_with fail
    go_loopw [26] (fun i wr => ∃ j : Nat, j ≤ m ∧ i = .int .i64 j ∧ Hid (FreshS 3 w.heap.size wr g (midG f 0 m j)) ∧ Hid (Box wr w.heap.size (.bool on1) (.slice a1 n1 cap1)) ∧ Hid (Box wr (w.heap.size + 1) (.bool on2) (.slice a2 n2 cap2)) ∧ Hid (Box wr (w.heap.size + 1 + 1) (.bool false) (.slice none 0 0)) ∧ Hid (Below w.heap.size w wr)) (fun i _ => m - (intOf i).toNat)
    case atStart => exact ⟨0, Nat.zero_le _, rfl, by rw [midG_zero]; exact HF0, HA0, HB0, HR0, HBw0⟩
    case round =>
      clear HF0 HA0 HB0 HR0 HBw0
      obtain ⟨j, hj, rfl, hF, hA, hB, hR, hBw⟩ := hrel
      by_cases hlt : j < m
      · have hji : (j : Int) < (m : Int) := by omega
        have hjn : (0 : Int) ≤ (j : Int) := by omega
        have hl : j < (midG f 0 m j).length := by rw [midG_length _ _ hj]; exact hlt
        have HL := Lib.hid hl
        have hS : Hid (∀ w', Below wr.heap.size wr w' → w'.cell? ⟨w.heap.size, 0, none⟩ = some (.bool on1) ∧ w'.cell? ⟨w.heap.size, 1, none⟩ = some (.slice a1 n1 cap1) ∧ w'.cell? ⟨w.heap.size + 1, 0, none⟩ = some (.bool on2) ∧ w'.cell? ⟨w.heap.size + 1, 1, none⟩ = some (.slice a2 n2 cap2)) := fun w' h =>
          ⟨(hA.out.below h hA.out.lt).c0, (hA.out.below h hA.out.lt).c1, (hB.out.below h hB.out.lt).c0, (hB.out.below h hB.out.lt).c1⟩
        have hS2 : Hid (∀ w', Below wr.heap.size wr w' → ∀ {u : Value}, (w'.setCell ⟨g, j, none⟩ u).cell? ⟨w.heap.size, 0, none⟩ = some (.bool on1) ∧ (w'.setCell ⟨g, j, none⟩ u).cell? ⟨w.heap.size, 1, none⟩ = some (.slice a1 n1 cap1) ∧ (w'.setCell ⟨g, j, none⟩ u).cell? ⟨w.heap.size + 1, 0, none⟩ = some (.bool on2) ∧ (w'.setCell ⟨g, j, none⟩ u).cell? ⟨w.heap.size + 1, 1, none⟩ = some (.slice a2 n2 cap2)) := fun w' h _ => ⟨((hA.out.below h hA.out.lt).far1 (g := g) (by omega)).c0, ((hA.out.below h hA.out.lt).far1 (g := g) (by omega)).c1, ((hB.out.below h hB.out.lt).far1 (g := g) (by omega)).c0, ((hB.out.below h hB.out.lt).far1 (g := g) (by omega)).c1⟩
        have q1 : Hid (∀ W, Below wr.heap.size wr W → _) := fun W h => H1.out W (hBw.out.trans (h.mono hBw.out.size)) j
        have q2 : Hid (∀ W, Below wr.heap.size wr W → _) := fun W h => H2.out W (hBw.out.trans (h.mono hBw.out.size)) j
        have q3 := Lib.hid (HJ.out j)
        obtain ⟨fj, hfj⟩ : ∃ fj, f j = fj := ⟨_, rfl⟩
        rw [hfj] at q3
        have HFJ := Lib.hid hfj
        have HBN : Hid (Below wr.heap.size wr wr.drew) := (Below.refl _ _).drew
        generalize atG 0 on1 l1 (j : Int) = v1 at *
        generalize atG 0 on2 l2 (j : Int) = v2 at *
        clear hfj hl H1 H2 HJ
        have hdes : True := trivial
        go_wp2_with fail
        have tok1 : True := trivial
        have tok2 : True := trivial
        go_region_held3 (fun w' => w'.cell? ⟨w.heap.size, 0, none⟩ = some (.bool on1) ∧ w'.cell? ⟨w.heap.size, 1, none⟩ = some (.slice a1 n1 cap1) ∧ w'.cell? ⟨w.heap.size + 1, 0, none⟩ = some (.bool on2) ∧ w'.cell? ⟨w.heap.size + 1, 1, none⟩ = some (.slice a2 n2 cap2))
          (first | exact hS.out _ HBN.out | exact hS2.out _ HBN.out)
          (first
            | (have _t := tok1; go_at_call 54; refine (q1.out _ HBN.out).mono ?_; clear _t tok1; rintro e wn ⟨rfl, hbn⟩; have hbx := HBN.out.trans (hbn.mono HBN.out.size); clear HBN hbn; have HBN := Lib.hid hbx; clear hbx)
            | (have _t := tok2; go_at_call 54; refine (q2.out _ HBN.out).mono ?_; clear _t tok2; rintro e wn ⟨rfl, hbn⟩; have hbx := HBN.out.trans (hbn.mono HBN.out.size); clear HBN hbn; have HBN := Lib.hid hbx; clear hbx)
            | (go_at_call 39; refine (q3.out _).mono ?_; clear q1 q2 q3; rintro e wn ⟨rfl, hbn⟩; have hbx := HBN.out.trans (hbn.mono HBN.out.size); clear HBN hbn; have HBN := Lib.hid hbx; clear hbx; have hFn := hF.out.below HBN.out hF.out.lt; have e0 := hFn.cellAt HL.out; have f0 := hFn.frozenAt j; clear hFn))
        all_goals
          go_wp2_with fail
          go_roundw
          case rel =>
            have hFn := hF.out.below HBN.out hF.out.lt
            refine ⟨j + 1, by omega, by go_num, ?_, Lib.hid ((hA.out.below HBN.out hA.out.lt).far1 (by omega)), Lib.hid ((hB.out.below HBN.out hB.out.lt).far1 (by omega)), Lib.hid ((hR.out.below HBN.out hR.out.lt).far1 (by omega)), ?_⟩
            · have := hFn.set j fj
              have e := midG_set f 0 hlt
              rw [HFJ.out] at e
              rw [e] at this
              exact this
            · have hb := hBw.out.trans (HBN.out.mono hBw.out.size)
              exact hb.setCell (p := ⟨g, j, none⟩) (by show w.heap.size ≤ g; omega) _
          case measure => simp [intOf]; omega
      · obtain rfl : j = m := by omega
        rw [midG_full] at hF
        obtain ⟨c0, c1, f0, f1⟩ := id hR.out
        go_wp2_with fail
        have hb2 := below_put2 hBw.out (b := w.heap.size + 1 + 1) (by omega) (.bool true) (.slice (some ⟨g, 0, none⟩) j j)
        exact bodyPost_ret (v := .agg #[.bool true, .slice (some ⟨g, 0, none⟩) j j]) (by simp [results, Try.results59, go_sem, c0, c1]) rfl ⟨g, rfl, hF.out.block (heap_put2 _ _ _ _ _ (by omega)), hb2⟩

end Go.Proofs.Ytcmncclibhjepaa