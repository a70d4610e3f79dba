import Derived.Test.YtcmncclibhjepaaEnvH
namespace Go.Proofs.Ytcmncclibhjepaa
open Go Go.RowKit Go.Sort

theorem FlatsE_any (n : Int) (v : V) (w : World) (m : Nat) (l : List V) (hm : clG n 64 = m) (hl : tabG (fun _ => v.sn) m = l) :
    Calls Try.prog 21 #[.int .i64 n, v.val] w fun e w' => ∃ a cap, e = .returned (.agg #[.bool true, .slice a m cap]) ∧ FE w' a m l ∧ Below w.heap.size w w' := by
  subst hm hl
  exact (Flats_any n v w).mono fun e w' ⟨g, he, hF, hb⟩ => ⟨_, _, he, ⟨hF.fis, tabG_length _ _⟩, hb⟩
theorem SignsE_any (n v : Int) (w : World) (m : Nat) (l : List Int) (hm : clG n 64 = m) (hl : tabG (fun _ => ((sS v : Nat) : Int)) m = l) :
    Calls Try.prog 36 #[.int .i64 n, .int .i64 v] w fun e w' => ∃ a cap, e = .returned (.agg #[.bool true, .slice a m cap]) ∧ SE w' a m l ∧ Below w.heap.size w w' := by
  subst hm hl
  exact (Signs_any n v w).mono fun e w' ⟨g, he, hF, hb⟩ => ⟨_, _, he, ⟨hF.fis, tabG_length _ _⟩, hb⟩
theorem GetFE_any (on : Bool) (a : Option Addr) (n cap : Nat) (l : List V) (i : Int) (w : World) (h : FE w a n l) (r : V) (hr : (atG vbot on l i).sn = r) :
    Calls Try.prog 11 #[.agg #[.bool on, .slice a n cap], .int .i64 i] w fun e w' => e = .returned r.val ∧ Below w.heap.size w w' := by
  obtain ⟨h1, rfl⟩ := h
  subst hr
  exact GetF_any on a l cap i w h1
theorem GetSE_any (on : Bool) (a : Option Addr) (n cap : Nat) (l : List Int) (i : Int) (w : World) (h : SE w a n l) (r : Nat) (hr : sS (atG 0 on l i) = r) :
    Calls Try.prog 26 #[.agg #[.bool on, .slice a n cap], .int .i64 i] w fun e w' => e = .returned (.int .i64 (r : Int)) ∧ Below w.heap.size w w' := by
  obtain ⟨h1, rfl⟩ := h
  subst hr
  exact GetS_any on a l cap i w h1

set_option maxRecDepth 100000 in
set_option maxHeartbeats 8000000 in
theorem awake4_any (w : World) :
    Calls Try.prog 9 #[] w fun e w' => e = .returned (.bool true) ∧ Below w.heap.size w w' := by
  have c1 : Hid (∀ W, Calls Try.prog 40 #[.int .i64 1] W fun e w' => e = .returned (.agg #[.int .i64 1, .int .i64 1]) ∧ Below W.heap.size W w') := fun W => Of_any 1 W
  have c2 : Hid (∀ W, Calls Try.prog 40 #[.int .i64 2] W fun e w' => e = .returned (.agg #[.int .i64 1, .int .i64 2]) ∧ Below W.heap.size W w') := fun W => Of_any 2 W
  obtain ⟨la, hla⟩ : ∃ la : List V, [⟨1, 1⟩, ⟨1, 1⟩] = la := ⟨_, rfl⟩
  obtain ⟨lb, hlb⟩ : ∃ lb : List V, [⟨1, 2⟩, ⟨1, 1⟩] = lb := ⟨_, rfl⟩
  obtain ⟨lj, hlj⟩ : ∃ lj : List V, [⟨2, 0⟩, ⟨1, 1⟩] = lj := ⟨_, rfl⟩
  have c3 : Hid (∀ W, Calls Try.prog 21 #[.int .i64 2, .agg #[.int .i64 1, .int .i64 1]] W fun e w' => ∃ a cap, e = .returned (.agg #[.bool true, .slice a 2 cap]) ∧ FE w' a 2 la ∧ Below W.heap.size W w') := fun W => FlatsE_any 2 ⟨1, 1⟩ W 2 la (by decide) (by rw [← hla]; decide)
  have c4 : Hid (∀ W a cap, FE W a 2 la → Calls Try.prog 19 #[.agg #[.bool true, .slice a 2 cap], .int .i64 0, .agg #[.int .i64 1, .int .i64 2]] W fun e w' => ∃ a cap, e = .returned (.agg #[.bool true, .slice a 2 cap]) ∧ FE w' a 2 lb ∧ (∀ g, (∃ o : Nat, a = some ⟨g, o, none⟩) → W.heap.size ≤ g) ∧ Below W.heap.size W w') := fun W a cap h => SetF_fr true a 2 cap la 0 1 2 W h (by decide) lb 2 (by rw [← hla, ← hlb]; decide) (by rw [← hla]; decide)
  have c5 : Hid (∀ W a cap b cap', FE W a 2 la → FE W b 2 lb → Calls Try.prog 17 #[.agg #[.bool true, .slice a 2 cap], .agg #[.bool true, .slice b 2 cap']] W fun e w' => ∃ a cap, e = .returned (.agg #[.bool true, .slice a 2 cap]) ∧ FE w' a 2 lj ∧ Below W.heap.size W w') := fun W a cap b cap' h h' => JoinF_any true a 2 cap la true b 2 cap' lb W h h' (by decide) (by decide) true lj 2 rfl (by rw [← hla, ← hlb, ← hlj]; decide) (by rw [← hla, ← hlb]; decide)
  have c6 : Hid (∀ W a cap b cap', FE W a 2 la → FE W b 2 lj → Calls Try.prog 13 #[.agg #[.bool true, .slice a 2 cap], .agg #[.bool true, .slice b 2 cap']] W fun e w' => e = .returned (.bool true) ∧ Below W.heap.size W w') := fun W a cap b cap' h h' => LeqF_any true a 2 cap la true b 2 cap' lj W h h' (by decide) true (by rw [← hla, ← hlj]; decide)
  have c7 : Hid (∀ W, Calls Try.prog 36 #[.int .i64 1, .int .i64 3] W fun e w' => ∃ a cap, e = .returned (.agg #[.bool true, .slice a 1 cap]) ∧ SE w' a 1 [3] ∧ Below W.heap.size W w') := fun W => SignsE_any 1 3 W 1 [3] (by decide) (by decide)
  have c8 : Hid (∀ W a cap, SE W a 1 [3] → Calls Try.prog 26 #[.agg #[.bool true, .slice a 1 cap], .int .i64 0] W fun e w' => e = .returned (.int .i64 3) ∧ Below W.heap.size W w') := fun W a cap h => GetSE_any true a 1 cap [3] 0 W h 3 (by decide)
  have HLJ := Lib.hid hlj
  have HBN : Hid (Below w.heap.size w w) := Below.refl _ _
  clear hla hlb hlj
  go_enter Try.func9, Try.ntmps9
  go_wp2_with (first
    | (go_at_call 40; with_reducible refine (c1.out _).mono ?_; rintro e wn ⟨rfl, hbn⟩; have hbx := HBN.out.trans (hbn.mono HBN.out.size); clear HBN hbn; have HBN := Lib.hid hbx; clear hbx)
    | (go_at_call 21; with_reducible refine (c3.out _).mono ?_; rintro e wa ⟨a1, cap1, rfl, hF, hbn⟩; have hbx := HBN.out.trans (hbn.mono HBN.out.size); clear HBN hbn; have HBN := Lib.hid hbx; clear hbx; have HFA := Lib.hid hF; clear hF))
  have HA := Lib.hid (Box.new wa (.bool true) (.slice a1 2 cap1) 30)
  have hal := (Below.refl wa.heap.size wa).alloc (Nat.le_refl _) (.cells #[.bool true, .slice a1 2 cap1] 30)
  have HFA1 := Lib.hid (HFA.out.below hal)
  have HB1 := Lib.hid (HBN.out.trans (hal.mono HBN.out.size))
  clear hal HFA HBN
  generalize wa.alloc (.cells #[.bool true, .slice a1 2 cap1] 30) = W1 at *
  obtain ⟨ba, hba⟩ : ∃ b, wa.heap.size = b := ⟨_, rfl⟩
  rw [hba] at HA ⊢
  clear hba
  go_cut [2] (fun s2 wx => ∃ b a2 cap2, s2 = .pointer (some ⟨b, 0, none⟩) ∧ Box wx b (.bool true) (.slice a2 2 cap2) ∧ FE wx a2 2 lb ∧ Below W1.heap.size W1 wx)
  case first =>
    have hS : Hid (∀ w', Below W1.heap.size W1 w' → w'.cell? ⟨ba, 0, none⟩ = some (.bool true) ∧ w'.cell? ⟨ba, 1, none⟩ = some (.slice a1 2 cap1)) := fun w' h => ⟨(HA.out.below h HA.out.lt).c0, (HA.out.below h HA.out.lt).c1⟩
    have HBN : Hid (Below W1.heap.size W1 W1.drew) := (Below.refl _ _).drew
    clear c1 c3 c5 c6 c7 c8 HLJ
    have HNB : Hid True := trivial
    have HLE : Hid (W1.heap.size ≤ W1.heap.size) := Nat.le_refl _
    go_region_held3 (fun w' => w'.cell? ⟨ba, 0, none⟩ = some (.bool true) ∧ w'.cell? ⟨ba, 1, none⟩ = some (.slice a1 2 cap1))
      (first | exact hS.out _ HBN.out | exact hS.out _ (HBN.out.alloc HBN.out.size _) | exact hS.out _ ((HBN.out.setCell (p := ⟨_, 0, none⟩) HLE.out _).setCell (p := ⟨_, 1, none⟩) HLE.out _))
      (first
        | (go_at_call 40; refine (c2.out _).mono ?_; rintro e wn ⟨rfl, hbn⟩; have hbx := HBN.out.trans (hbn.mono HBN.out.size); clear HBN hbn; have HBN := Lib.hid hbx; clear hbx)
        | (go_at_call 40; refine (c2.out _).mono ?_; rintro e wn ⟨rfl, hbn⟩; have hbx := (HBN.out.alloc HBN.out.size _).trans (hbn.mono (HBN.out.alloc HBN.out.size _).size); have HNB2 := Lib.hid ((Box.new W1 (.bool false) (.slice none 0 0) 30).drew.below hbn (by simp)); clear HNB; have HNB := HNB2; clear HNB2; clear HBN hbn; have HBN := Lib.hid hbx; clear hbx)
        | (go_at_call 19; refine (c4.out _ _ _ (HFA1.out.below HBN.out)).mono ?_; rintro e w2 ⟨a2, cap2, rfl, hF, hg, hbn⟩; have HF2 := Lib.hid hF; have HG2 := Lib.hid hg; clear hF hg; have HNC := Lib.hid (HNB.out.below hbn HNB.out.lt); have HLT := Lib.hid HNB.out.lt; have hbx := HBN.out.trans (hbn.mono HBN.out.size); obtain ⟨n0, n1, m0, m1⟩ := id HNC.out; clear HBN hbn; have HBN := Lib.hid hbx; clear hbx)
        | (go_at_call 19; refine (c4.out _ _ _ (HFA1.out.below HBN.out)).mono ?_; rintro e w2 ⟨a2, cap2, rfl, hF, hg, hbn⟩; have HF2 := Lib.hid hF; have HG2 := Lib.hid hg; clear hF hg; have hbx := HBN.out.trans (hbn.mono HBN.out.size); clear HBN hbn; have HBN := Lib.hid hbx; clear hbx)
        | (go_at_call 19; refine (c4.out _ _ _ (HFA1.out.below (HBN.out.alloc HBN.out.size _))).mono ?_; rintro e w2 ⟨a2, cap2, rfl, hF, hg, hbn⟩; have HF2 := Lib.hid hF; have HG2 := Lib.hid hg; clear hF hg; have hbx := (HBN.out.alloc HBN.out.size _).trans (hbn.mono (HBN.out.alloc HBN.out.size _).size); clear HLE; have HLE := Lib.hid HBN.out.size; have HLT := Lib.hid (Box.new wn (.bool false) (.slice none 0 0) 30).lt; have HNC := Lib.hid ((Box.new wn (.bool false) (.slice none 0 0) 30).below hbn (by simp)); obtain ⟨n0, n1, m0, m1⟩ := id HNC.out; clear HBN hbn; have HBN := Lib.hid hbx; clear hbx))
    all_goals
      go_wp2_with fail
      go_meet
    · exact ⟨w2.heap.size, a2, cap2, rfl, Box.new _ _ _ _, HF2.out.below ((Below.refl _ _).alloc (Nat.le_refl _) _), HBN.out.alloc HBN.out.size _⟩
    · exact ⟨wn.heap.size, a2, cap2, rfl, HNC.out.put _ _, HF2.out.put (fun g o e => by have h1 := HG2.out g ⟨o, e⟩; have h2 := HLT.out; omega) _ _, (HBN.out.setCell (p := ⟨_, 0, none⟩) HLE.out _).setCell (p := ⟨_, 1, none⟩) HLE.out _⟩
    · exact ⟨W1.heap.size, a2, cap2, rfl, HNC.out.put _ _, HF2.out.put (fun g o e => by have h1 := HG2.out g ⟨o, e⟩; have h2 := HLT.out; omega) _ _, (HBN.out.setCell (p := ⟨_, 0, none⟩) HLE.out _).setCell (p := ⟨_, 1, none⟩) HLE.out _⟩
  case rest =>
    obtain ⟨bb, a2, cap2, rfl, hB2, hF2, hb2⟩ := hcut
    have HAc := Lib.hid (HA.out.below hb2 HA.out.lt)
    have HFAc := Lib.hid (HFA1.out.below hb2)
    have HFB := Lib.hid hF2
    have HBc := Lib.hid (HB1.out.trans (hb2.mono HB1.out.size))
    obtain ⟨x0, x1, -, -⟩ := id HAc.out
    obtain ⟨y0, y1, -, -⟩ := hB2
    clear HA HFA1 HB1 hF2 hb2 c2 c3 c4
    go_wp2_with (go_at_call 17; refine (c5.out _ _ _ _ _ HFAc.out HFB.out).mono ?_; clear c5 x0 x1 y0 y1; rintro e wj ⟨a3, cap3, rfl, hF, hbn⟩; have HFJ := Lib.hid hF; have HAj := Lib.hid ((HAc.out.below hbn HAc.out.lt).alloc (.cells #[.bool true, .slice a3 2 cap3] 30)); have HFAj := Lib.hid (HFAc.out.below (hbn.trans (((Below.refl _ _).alloc (Nat.le_refl _) (.cells #[.bool true, .slice a3 2 cap3] 30)).mono hbn.size))); have HBj := Lib.hid (HBc.out.trans ((hbn.trans (((Below.refl _ _).alloc (Nat.le_refl _) (.cells #[.bool true, .slice a3 2 cap3] 30)).mono hbn.size)).mono HBc.out.size)); clear hF hbn HAc HFAc HBc HFB)
    have HJ := Lib.hid (Box.new wj (.bool true) (.slice a3 2 cap3) 30)
    have HFJ1 := Lib.hid (HFJ.out.below ((Below.refl wj.heap.size wj).alloc (Nat.le_refl _) (.cells #[.bool true, .slice a3 2 cap3] 30)))
    generalize wj.alloc (.cells #[.bool true, .slice a3 2 cap3] 30) = W3 at *
    obtain ⟨bj, hbj⟩ : ∃ b, wj.heap.size = b := ⟨_, rfl⟩
    rw [hbj] at HJ ⊢
    clear hbj HFJ
    have hlen : lj.length = 2 := HFJ1.out.2
    obtain ⟨gj, oj, rfl, hgl, e0, e1⟩ := HFJ1.out.1 0 (by omega)
    obtain ⟨gj', oj', he, hgl', e2, e3⟩ := HFJ1.out.1 1 (by omega)
    cases he
    have hl := HLJ.out
    subst hl
    have hS : Hid (∀ w', Below W3.heap.size W3 w' → w'.cell? ⟨ba, 0, none⟩ = some (.bool true) ∧ w'.cell? ⟨ba, 1, none⟩ = some (.slice a1 2 cap1) ∧ w'.cell? ⟨bj, 0, none⟩ = some (.bool true) ∧ w'.cell? ⟨bj, 1, none⟩ = some (.slice (some ⟨gj, oj, none⟩) 2 cap3) ∧ w'.cell? ⟨gj, oj, none⟩ = some (.int .i64 2) ∧ w'.cell? ⟨gj, oj + 2, none⟩ = some (.int .i64 1) ∧ w'.cell? ⟨gj, oj + 2 + 1, none⟩ = some (.int .i64 1)) := fun w' h =>
      ⟨(HAj.out.below h HAj.out.lt).c0, (HAj.out.below h HAj.out.lt).c1, (HJ.out.below h HJ.out.lt).c0, (HJ.out.below h HJ.out.lt).c1, (h.cell (p := ⟨gj, oj, none⟩) hgl).trans e0, (h.cell (p := ⟨gj, oj + 2, none⟩) hgl).trans e2, (h.cell (p := ⟨gj, oj + 2 + 1, none⟩) hgl).trans e3⟩
    have HBN : Hid (Below W3.heap.size W3 W3.drew) := (Below.refl _ _).drew
    clear e0 e1 e2 e3 hgl hgl' hlen HLJ
    go_region_held3 (fun w' => w'.cell? ⟨ba, 0, none⟩ = some (.bool true) ∧ w'.cell? ⟨ba, 1, none⟩ = some (.slice a1 2 cap1) ∧ w'.cell? ⟨bj, 0, none⟩ = some (.bool true) ∧ w'.cell? ⟨bj, 1, none⟩ = some (.slice (some ⟨gj, oj, none⟩) 2 cap3) ∧ w'.cell? ⟨gj, oj, none⟩ = some (.int .i64 2) ∧ w'.cell? ⟨gj, oj + 2, none⟩ = some (.int .i64 1) ∧ w'.cell? ⟨gj, oj + 2 + 1, none⟩ = some (.int .i64 1))
      (first | exact hS.out _ HBN.out)
      (first
        | (go_at_call 40; refine (c1.out _).mono ?_; rintro e wn ⟨rfl, hbn⟩; have hbx := HBN.out.trans (hbn.mono HBN.out.size); clear HBN hbn; have HBN := Lib.hid hbx; clear hbx)
        | (go_at_call 13; refine (c6.out _ _ _ _ _ (HFAj.out.below HBN.out) (HFJ1.out.below HBN.out)).mono ?_; rintro e wn ⟨rfl, hbn⟩; have hbx := HBN.out.trans (hbn.mono HBN.out.size); clear HBN hbn; have HBN := Lib.hid hbx; clear hbx)
        | (go_at_call 36; refine (c7.out _).mono ?_; rintro e wn ⟨a4, cap4, rfl, hF, hbn⟩; have HFS := Lib.hid hF; clear hF; have hbx := HBN.out.trans (hbn.mono HBN.out.size); clear HBN hbn; have HBN := Lib.hid hbx; clear hbx)
        | (go_at_call 26; refine (c8.out _ _ _ HFS.out).mono ?_; rintro e wn ⟨rfl, hbn⟩; have hbx := HBN.out.trans (hbn.mono HBN.out.size); clear HBN hbn; have HBN := Lib.hid hbx; clear hbx))
    all_goals
      go_wp2_with fail
      go_ret
      exact ⟨rfl, HBj.out.trans (HBN.out.mono HBj.out.size)⟩
end Go.Proofs.Ytcmncclibhjepaa
