import Derived.Test.YtjlofjoekpoepaaDoorCa
import Derived.Deep.LoopGhost
namespace Go.Proofs.YtjlofjoekpoepaaDoor
open Go Go.RowKit Go.Sort

set_option maxRecDepth 100000 in
set_option maxHeartbeats 4000000 in
theorem combine_any (cf : Nat) (f : Nat → Nat → Nat) (hf : WordFn cf f) (va vb : Value) (na nb : Int) (wa wb : List Nat) (w : World) (hva : SV w va na wa) (hvb : SV w vb nb wb) (hla : wa.length ≤ 30) (hlb : wb.length ≤ 30) (hBa : WB wa) (hBb : WB wb) :
    Calls Tryd.prog 52 #[va, vb, .func (.func cf) #[] #[]] w fun e w' => ∃ g, e = .returned (.agg #[.int .i64 (max (nrm na wa) (nrm nb wb) : Nat), .slice (some ⟨g, 0, none⟩) (wcount (max (nrm na wa) (nrm nb wb))) (wcount (max (nrm na wa) (nrm nb wb)))]) ∧
      Fresh w.heap.size w' g (combW f (wcount (max (nrm na wa) (nrm nb wb))) (nrmW na wa) (nrmW nb wb)) ∧ Below w.heap.size w w' := by
  have hva0 := hva
  have hvb0 := hvb
  obtain ⟨aa, capa, rfl, hWda⟩ := hva
  obtain ⟨ab, capb, rfl, hWdb⟩ := hvb
  have hW3 : Below w.heap.size w (((w.alloc (.cells #[.int .i64 na, .slice aa wa.length capa] 28)).alloc (.cells #[.int .i64 nb, .slice ab wb.length capb] 28)).alloc (.cells #[.int .i64 0, .slice none 0 0] 28)) := (((Below.refl _ _).alloc (Nat.le_refl _) _).alloc (by simp) _).alloc (by simp; omega) _
  have HSb := Lib.hid (fun W (hW : Below w.heap.size w W) => saneOrEmpty_any w.heap.size _ nb wb W (SVB.below hvb0 hW) hW.size hlb)
  have HSa := Lib.hid (fun W (hW : Below w.heap.size w W) => saneOrEmpty_any w.heap.size _ na wa W (SVB.below hva0 hW) hW.size hla)
  have HOa := Lib.hid (nrm_ok (n := na) hBa)
  have HOb := Lib.hid (nrm_ok (n := nb) hBb)
  have BA := (((Box.new w (.int .i64 na) (.slice aa wa.length capa) 28).alloc (.cells #[.int .i64 nb, .slice ab wb.length capb] 28)).alloc (.cells #[.int .i64 0, .slice none 0 0] 28)).drew
  have BB := ((Box.new (w.alloc (.cells #[.int .i64 na, .slice aa wa.length capa] 28)) (.int .i64 nb) (.slice ab wb.length capb) 28).alloc (.cells #[.int .i64 0, .slice none 0 0] 28)).drew
  have BR := (Box.new ((w.alloc (.cells #[.int .i64 na, .slice aa wa.length capa] 28)).alloc (.cells #[.int .i64 nb, .slice ab wb.length capb] 28)) (.int .i64 0) (.slice none 0 0) 28).drew
  simp only [World.size_alloc] at BB BR
  have HW3 := Lib.hid hW3.drew
  generalize hW : ((w.alloc (.cells #[.int .i64 na, .slice aa wa.length capa] 28)).alloc (.cells #[.int .i64 nb, .slice ab wb.length capb] 28)).alloc (.cells #[.int .i64 0, .slice none 0 0] 28) = W3 at *
  clear hva0 hvb0 hWda hWdb hW3
  generalize nrm na wa = na' at *
  generalize nrmW na wa = wa' at *
  generalize nrm nb wb = nb' at *
  generalize nrmW nb wb = wb' at *
  obtain ⟨a0, a1, a2, a3⟩ := id BA
  obtain ⟨b0, b1, b2, b3⟩ := id BB
  obtain ⟨N, hN⟩ : ∃ N, max na' nb' = N := ⟨_, rfl⟩
  rw [hN]
  have hN1024 : N ≤ 1024 := by have := HOa.out.le; have := HOb.out.le; omega
  have HN := Lib.hid hN
  clear hN
  obtain ⟨K, hK⟩ : ∃ K, wcount N = K := ⟨_, rfl⟩
  rw [hK]
  have hK16 : K ≤ 16 := by rw [← hK]; exact wcount_le hN1024
  have HK := Lib.hid hK
  clear hK
  have HWF := Lib.hid hf
  clear hf
  go_enter Tryd.func52, Tryd.ntmps52
  go_upto_region 1 with fail
  go_cut [] (fun wx => ∃ aa' capa' ab' capb', Hid (Box wx w.heap.size (.int .i64 (na' : Int)) (.slice aa' wa'.length capa')) ∧ Hid (Box wx (w.heap.size + 1) (.int .i64 (nb' : Int)) (.slice ab' wb'.length capb')) ∧ Hid (Box wx (w.heap.size + 1 + 1) (.int .i64 0) (.slice none 0 0)) ∧ Hid (Wd w.heap.size wx aa' wa') ∧ Hid (Wd w.heap.size wx ab' wb') ∧ Hid (Below w.heap.size w wx))
  case first =>
    go_region_with (first
      | (go_at_call_of 45 (Value.slice aa wa.length capa); refine (HSa.out _ HW3.out).mono ?_; clear HSa; rintro e w1 ⟨u, rfl, hsv, hb⟩; obtain ⟨aa', capa', rfl, hWda'⟩ := hsv; have hb1 := HW3.out.trans (hb.mono HW3.out.size); have BB1 := BB.below hb BB.lt; have BA1 := BA.below hb BA.lt; have BR1 := BR.below hb BR.lt; obtain ⟨b01, b11, b21, b31⟩ := id BB1; have HBW := Lib.hid hb1; clear hb hb1)
      | (go_at_call_of 45 (Value.slice ab wb.length capb); refine (HSb.out _ HBW.out).mono ?_; clear HSb; rintro e w2 ⟨u, rfl, hsv, hb⟩; obtain ⟨ab', capb', rfl, hWdb'⟩ := hsv; have hb2 := HBW.out.trans (hb.mono HBW.out.size); have BB2 := BB1.below hb BB1.lt; have BA2 := BA1.below hb BA1.lt; have BR2 := BR1.below hb BR1.lt; have hWda2 := hWda'.below (hb.mono HBW.out.size); obtain ⟨b02, b12, b22, b32⟩ := id BB2; obtain ⟨a02, a12, a22, a32⟩ := id BA2; have HBW2 := Lib.hid hb2; clear hb hb2))
    all_goals
      go_wp2_with fail
      go_meet
      have HP := (below_put2 (below_put2 (Below.refl w.heap.size w2) (b := w.heap.size) (Nat.le_refl _) (.int .i64 (na' : Int)) (.slice aa' wa'.length capa')) (b := w.heap.size + 1) (by omega) (.int .i64 (nb' : Int)) (.slice ab' wb'.length capb'))
      exact ⟨aa', capa', ab', capb', (BA2.put _ _).other (by omega) _ _, (BB2.other (by omega) _ _).put _ _, (BR2.other (by omega) _ _).other (by omega) _ _, hWda2.below HP, hWdb'.below HP, HBW2.out.trans HP⟩
  case rest =>
    obtain ⟨aa', capa', ab', capb', hBA, hBB, hBR, hwa, hwb, hB⟩ := hcut
    clear BA BB BR hW HW3 HSa HSb a0 a1 a2 a3 b0 b1 b2 b3
    obtain ⟨x0, x1, _, _⟩ := id hBA.out
    obtain ⟨y0, y1, _, _⟩ := id hBB.out
    have hnewN : Hid (∀ M : Nat, M = N → Calls Tryd.prog 29 #[.int .i64 (M : Int)] wc fun e w' => ∃ g, e = .returned (.agg #[.int .i64 (N : Int), .slice (some ⟨g, 0, none⟩) K K]) ∧ Fresh wc.heap.size w' g (List.replicate K 0) ∧ Below wc.heap.size wc w') := by
      rintro M rfl
      have h := new_any (M : Int) wc
      have hcl : clampN (M : Int) = M := by
        unfold clampN
        rw [if_neg (by omega), if_neg (by omega)]
        simp
      rw [hcl, HK.out] at h
      exact h
    obtain ⟨wd, hwd⟩ : ∃ wd : World, wd = wc := ⟨_, rfl⟩
    subst hwd
    go_upto_region 2 with fail
    go_cut [7] (fun s7 wx => ∃ g b7, s7 = .pointer (some ⟨b7, 0, none⟩) ∧ Hid (Box wx b7 (.int .i64 (N : Int)) (.slice (some ⟨g, 0, none⟩) K K)) ∧ Hid (Fresh w.heap.size wx g (List.replicate K 0)) ∧ Hid (wd.heap.size ≤ g ∧ g < b7) ∧ Hid (Below wd.heap.size wd wx))
    case first =>
      by_cases hlt : na' < nb'
      · have hNb : nb' = N := by have := HN.out; omega
        have hi1 : (na' : Int) < (nb' : Int) := by omega
        have HNb := Lib.hid hNb
        clear hNb
        go_wp2_with fail
        refine (hnewN.out _ HNb.out).mono ?_
        rintro e w4 ⟨g, rfl, hF, hb4⟩
        have HF := Lib.hid hF
        have HB4 := Lib.hid hb4
        clear hF hb4
        go_wp2_with fail
        go_meet
        exact ⟨g, w4.heap.size, rfl, Box.new _ _ _ _, (HF.out.below ((Below.refl _ _).alloc (Nat.le_refl _) _) HF.out.lt).base hB.out.size, ⟨HF.out.1, HF.out.lt⟩, HB4.out.alloc HB4.out.size _⟩
      · have hNa : na' = N := by have := HN.out; omega
        have hi1 : (nb' : Int) ≤ (na' : Int) := by omega
        have HNa := Lib.hid hNa
        clear hNa
        go_wp2_with fail
        refine (hnewN.out _ HNa.out).mono ?_
        rintro e w4 ⟨g, rfl, hF, hb4⟩
        have HF := Lib.hid hF
        have HB4 := Lib.hid hb4
        clear hF hb4
        go_wp2_with fail
        go_meet
        exact ⟨g, w4.heap.size, rfl, Box.new _ _ _ _, (HF.out.below ((Below.refl _ _).alloc (Nat.le_refl _) _) HF.out.lt).base hB.out.size, ⟨HF.out.1, HF.out.lt⟩, HB4.out.alloc HB4.out.size _⟩
    case rest =>
      obtain ⟨g, b7, rfl, hB7, hFg, hgb, hBd⟩ := hcut
      clear x0 x1 y0 y1 hnewN
      have hwa0 := hwa.out.back hB.out
      have hwb0 := hwb.out.back hB.out
      have HWA := Lib.hid hwa0
      have HWB := Lib.hid hwb0
      have hBAc := hBA.out.below hBd.out hBA.out.lt
      have hBBc := hBB.out.below hBd.out hBB.out.lt
      have hBRc := hBR.out.below hBd.out hBR.out.lt
      have hBc : Below w.heap.size w wc := hB.out.trans (hBd.out.mono hB.out.size)
      have hgs : w.heap.size + 3 ≤ g := by have h1 := hgb.out.1; have h2 := hBR.out.lt; omega
      have hgb7 : g < b7 := hgb.out.2
      obtain ⟨z0, z1, _, _⟩ := id hB7.out
      have hF0 : Fresh w.heap.size wc g (combTo f K 0 wa' wb') := by rw [combTo_zero]; exact hFg.out
      clear hwa0 hwb0 hwa hwb hFg hgb hBd hBA hBB hBR hB
      go_wp2_with fail
      go_loopg [22] K (fun gk s22 wr => ∃ q : Nat, gk = K - q ∧ q ≤ K ∧ s22 = .int .i64 q ∧ Hid (Box wr w.heap.size (.int .i64 (na' : Int)) (.slice aa' wa'.length capa')) ∧ Hid (Box wr (w.heap.size + 1) (.int .i64 (nb' : Int)) (.slice ab' wb'.length capb')) ∧ Hid (Box wr (w.heap.size + 1 + 1) (.int .i64 0) (.slice none 0 0)) ∧ Hid (Box wr b7 (.int .i64 (N : Int)) (.slice (some ⟨g, 0, none⟩) K K)) ∧ Hid (Fresh w.heap.size wr g (combTo f K q wa' wb')) ∧ Hid (Below w.heap.size w wr))
      case atStart => exact ⟨0, rfl, Nat.zero_le _, rfl, hBAc, hBBc, hBRc, hB7, hF0, hBc⟩
      case round =>
        clear hBAc hBBc hBRc hB7 hF0 hBc z0 z1
        obtain ⟨q, hgk, hq, rfl, hBA, hBB, hBR, hB7, hFr, hB⟩ := hrel
        have HGK := Lib.hid hgk
        clear hgk
        by_cases hlt : q < K
        · obtain ⟨x, hx⟩ : ∃ x, wa'[q]?.getD 0 = x := ⟨_, rfl⟩
          obtain ⟨y, hy⟩ : ∃ y, wb'[q]?.getD 0 = y := ⟨_, rfl⟩
          obtain ⟨z, hz⟩ : ∃ z, f x y = z := ⟨_, rfl⟩
          have hxm : x < M64 := by rw [← hx]; exact HOa.out.wb.at q
          have hym : y < M64 := by rw [← hy]; exact HOb.out.wb.at q
          have HWx : Hid (∀ W, Below wr.heap.size wr W → Calls Tryd.prog 61 #[.agg #[.int .i64 (na' : Int), .slice aa' wa'.length capa'], .int .i64 (q : Int)] W fun e w' => e = .returned (.int .u64 (x : Int)) ∧ Below W.heap.size W w') := fun W hW =>
            wordAt_any (na' : Int) aa' wa' capa' q x W (((HWA.out.below hB.out).below (hW.mono hB.out.size)).mono (Nat.le_trans hB.out.size hW.size)) hx
          have HWy : Hid (∀ W, Below wr.heap.size wr W → Calls Tryd.prog 61 #[.agg #[.int .i64 (nb' : Int), .slice ab' wb'.length capb'], .int .i64 (q : Int)] W fun e w' => e = .returned (.int .u64 (y : Int)) ∧ Below W.heap.size W w') := fun W hW =>
            wordAt_any (nb' : Int) ab' wb' capb' q y W (((HWB.out.below hB.out).below (hW.mono hB.out.size)).mono (Nat.le_trans hB.out.size hW.size)) hy
          have HCF : Hid (∀ W, Calls Tryd.prog cf #[.int .u64 (x : Int), .int .u64 (y : Int)] W fun e w' => e = .returned (.int .u64 (z : Int)) ∧ W = w') := fun W => by
            have h := HWF.out.calls x y W hxm hym
            rw [hz] at h
            exact h
          have hent := HWF.out.enters
          have hgl := hFr.out.lt
          have hFl : q < (combTo f K q wa' wb').length := by rw [combTo_length]; exact hlt
          have HS9 : Hid (∀ W, Below wr.heap.size wr W → (∃ v9, W.cell? ⟨g, q, none⟩ = some (.int .u64 v9)) ∧ W.frozen? ⟨g, q, none⟩ = false) := fun W hW =>
            ⟨⟨_, (hFr.out.below hW hgl).cellAt hFl⟩, (hFr.out.below hW hgl).frozenAt q⟩
          have hnext : Hid ((combTo f K q wa' wb').set q z = combTo f K (q + 1) wa' wb') := by
            show (combTo f K q wa' wb').set q z = combTo f K (q + 1) wa' wb'
            rw [← hz, ← hx, ← hy]
            exact combTo_succ f K q wa' wb'
          have hS : Hid (∀ W, wr.grownBy W (some g) → W.cell? ⟨w.heap.size, 0, none⟩ = some (.int .i64 (na' : Int)) ∧ W.cell? ⟨w.heap.size, 1, none⟩ = some (.slice aa' wa'.length capa') ∧ W.cell? ⟨w.heap.size + 1, 0, none⟩ = some (.int .i64 (nb' : Int)) ∧ W.cell? ⟨w.heap.size + 1, 1, none⟩ = some (.slice ab' wb'.length capb') ∧ W.cell? ⟨b7, 1, none⟩ = some (.slice (some ⟨g, 0, none⟩) K K)) := fun W h =>
            ⟨(hBA.out.grown h (by simp; omega)).c0, (hBA.out.grown h (by simp; omega)).c1, (hBB.out.grown h (by simp; omega)).c0, (hBB.out.grown h (by simp; omega)).c1, (hB7.out.grown h (by simp; omega)).c1⟩
          have HBN : Hid (Below wr.heap.size wr wr.drew) := (Below.refl _ _).drew
          have hqi : (q : Int) < (K : Int) := by omega
          have hqi0 : (0 : Int) ≤ (q : Int) := by omega
          clear hx hy hz hxm hym hFl
          go_wp2_with fail
          go_region_held3 (fun w' => w'.cell? ⟨w.heap.size, 0, none⟩ = some (.int .i64 (na' : Int)) ∧ w'.cell? ⟨w.heap.size, 1, none⟩ = some (.slice aa' wa'.length capa') ∧ w'.cell? ⟨w.heap.size + 1, 0, none⟩ = some (.int .i64 (nb' : Int)) ∧ w'.cell? ⟨w.heap.size + 1, 1, none⟩ = some (.slice ab' wb'.length capb') ∧ w'.cell? ⟨b7, 1, none⟩ = some (.slice (some ⟨g, 0, none⟩) K K))
            (first | exact hS.out _ (grownBy_of_below HBN.out _) | exact hS.out _ (grownBy_setc HBN.out g _ _))
            (first
              | (go_at_call_of 61 (Value.slice aa' wa'.length capa'); refine (HWx.out _ HBN.out).mono ?_; rintro e wn ⟨rfl, hbn⟩; have hbx := HBN.out.trans (hbn.mono HBN.out.size); clear HBN hbn; have HBN := Lib.hid hbx; clear hbx)
              | (go_at_call_of 61 (Value.slice ab' wb'.length capb'); refine (HWy.out _ HBN.out).mono ?_; rintro e wn ⟨rfl, hbn⟩; have hbx := HBN.out.trans (hbn.mono HBN.out.size); clear HBN hbn; obtain ⟨⟨v9, c9⟩, f9⟩ := HS9.out _ hbx; have HBN := Lib.hid hbx; clear hbx)
              | (refine (HCF.out _).mono ?_; rintro e wm ⟨rfl, rfl⟩))
          have hg6 := grownBy_setc HBN.out g q (.int .u64 (z : Int))
          have hF6 : Fresh w.heap.size (wn.setCell ⟨g, q, none⟩ (.int .u64 (z : Int))) g (combTo f K (q + 1) wa' wb') := by
            rw [← hnext.out]
            exact (hFr.out.below HBN.out hgl).set _ _
          have H1 := Lib.hid (hBA.out.grown hg6 (by simp; omega))
          have H2 := Lib.hid (hBB.out.grown hg6 (by simp; omega))
          have H3 := Lib.hid (hBR.out.grown hg6 (by simp; omega))
          have H4 := Lib.hid (hB7.out.grown hg6 (by simp; omega))
          have H5 := Lib.hid (Below.grownBy hB.out hg6 hB.out.size (by omega))
          have H6 := Lib.hid hF6
          clear hent hg6 hF6 c9 f9
          go_wp2
          go_roundg (K - (q + 1))
          case measure => have := HGK.out; omega
          case rel => exact ⟨q + 1, rfl, by omega, by go_num, H1, H2, H3, H4, H6, H5⟩
        · obtain rfl : q = K := by omega
          obtain ⟨x0, x1, _, _⟩ := id hB7.out
          obtain ⟨y0, y1, f0, f1⟩ := id hBR.out
          have hFe := hFr.out
          rw [combTo_all] at hFe
          have HFe := Lib.hid hFe
          clear hFe
          go_wp2
          have hput := below_put2 hB.out (b := w.heap.size + 1 + 1) (by omega) (.int .i64 (N : Int)) (.slice (some ⟨g, 0, none⟩) q q)
          exact bodyPost_ret (v := .agg #[.int .i64 (N : Int), .slice (some ⟨g, 0, none⟩) q q]) (by simp [results, Tryd.results52, go_sem, y0, y1]) rfl ⟨g, rfl, HFe.out.block (heap_put2 _ _ _ _ _ (by omega)), hput⟩
end Go.Proofs.YtjlofjoekpoepaaDoor
