import Derived.Test.YtmcbedlmgffckaaGreatDoorEnvZ
namespace Go.Proofs.YtmcbedlmgffckaaGreatDoor
open Go Go.RowKit Go.Sort

set_option maxRecDepth 100000 in
set_option maxHeartbeats 8000000 in
theorem rJoinF_on (a1 : Option Addr) (n1 cap1 : Nat) (l1 : List V) (a2 : Option Addr) (n2 cap2 : Nat) (l2 : List V) (w : World) (h1 : FE w a1 n1 l1) (h2 : FE w a2 n2 l2) (hl1 : n1 ≤ 200) (hl2 : n2 ≤ 200) (f : Nat → V) (hf : ∀ j : Nat, join (atG vbot true l1 (j : Int)) (atG vbot true l2 (j : Int)) = f j) (m : Nat) (hm : max n1 n2 = m) :
    Calls Tryz.prog 23 #[.agg #[.bool true, .slice a1 n1 cap1], .agg #[.bool true, .slice a2 n2 cap2]] w fun e w' => ∃ a' cap', e = .returned (.agg #[.bool true, .slice a' m cap']) ∧ FE w' a' m (tabG f m) ∧ Below w.heap.size w w' := by
  have HG1 := Lib.hid (fun (j : Nat) W (hW : Below w.heap.size w W) => rGetF_any true a1 n1 cap1 l1 (j : Int) W (h1.below hW))
  have HG2 := Lib.hid (fun (j : Nat) W (hW : Below w.heap.size w W) => rGetF_any true a2 n2 cap2 l2 (j : Int) W (h2.below hW))
  have HJ : Hid (∀ (j : Nat) W, Calls Tryz.prog 46 #[(atG vbot true l1 (j : Int)).sn.val, (atG vbot true l2 (j : Int)).sn.val] W fun e w' => e = .returned (f j).val ∧ Below W.heap.size W w') := fun j W => by
    have := rJoin_any (atG vbot true l1 (j : Int)).sn (atG vbot true l2 (j : Int)).sn W
    rw [join_sn, hf j] at this
    exact this
  have BA := (((Box.new w (.bool true) (.slice a1 n1 cap1) 24).alloc (.cells #[.bool true, .slice a2 n2 cap2] 24)).alloc (.cells #[.bool false, .slice none 0 0] 24)).alloc (.cells #[.bool true, .slice none 0 0] 24)
  have BB := ((Box.new (w.alloc (.cells #[.bool true, .slice a1 n1 cap1] 24)) (.bool true) (.slice a2 n2 cap2) 24).alloc (.cells #[.bool false, .slice none 0 0] 24)).alloc (.cells #[.bool true, .slice none 0 0] 24)
  have BR := (Box.new ((w.alloc (.cells #[.bool true, .slice a1 n1 cap1] 24)).alloc (.cells #[.bool true, .slice a2 n2 cap2] 24)) (.bool false) (.slice none 0 0) 24).alloc (.cells #[.bool true, .slice none 0 0] 24)
  have BO := Box.new (((w.alloc (.cells #[.bool true, .slice a1 n1 cap1] 24)).alloc (.cells #[.bool true, .slice a2 n2 cap2] 24)).alloc (.cells #[.bool false, .slice none 0 0] 24)) (.bool true) (.slice none 0 0) 24
  have hW := below4 w (.cells #[.bool true, .slice a1 n1 cap1] 24) (.cells #[.bool true, .slice a2 n2 cap2] 24) (.cells #[.bool false, .slice none 0 0] 24) (.cells #[.bool true, .slice none 0 0] 24)
  have hsz : ((((w.alloc (.cells #[.bool true, .slice a1 n1 cap1] 24)).alloc (.cells #[.bool true, .slice a2 n2 cap2] 24)).alloc (.cells #[.bool false, .slice none 0 0] 24)).alloc (.cells #[.bool true, .slice none 0 0] 24)).heap.size = w.heap.size + 4 := by simp
  simp only [World.size_alloc] at BB BR BO
  have HW := Lib.hid hW
  have HZ := Lib.hid hsz
  have HA := Lib.hid BA
  have HB := Lib.hid BB
  have HR := Lib.hid BR
  have HO := Lib.hid BO
  obtain ⟨c0, c1, -, -⟩ := ((Box.new w (.bool true) (.slice a1 n1 cap1) 24).alloc (.cells #[.bool true, .slice a2 n2 cap2] 24)).alloc (.cells #[.bool false, .slice none 0 0] 24)
  obtain ⟨d0, d1, -, -⟩ := (Box.new (w.alloc (.cells #[.bool true, .slice a1 n1 cap1] 24)) (.bool true) (.slice a2 n2 cap2) 24).alloc (.cells #[.bool false, .slice none 0 0] 24)
  clear hW hsz BA BB BR BO h1 h2 hf
  obtain ⟨i0, hi, hz0, hz1, hz2⟩ := info_parts infoR
  have hcases : (n1 < n2 ∧ m = n2) ∨ (¬ n1 < n2 ∧ m = n1) := by omega
  have hm2 : m ≤ 200 := by omega
  clear hm
  go_enter Tryz.func23, Tryz.ntmps23
  go_wp2_with fail
  generalize hE : (((w.alloc (.cells #[.bool true, .slice a1 n1 cap1] 24)).alloc (.cells #[.bool true, .slice a2 n2 cap2] 24)).alloc (.cells #[.bool false, .slice none 0 0] 24)).alloc (.cells #[.bool true, .slice none 0 0] 24) = W at *
  clear hE c0 c1 d0 d1
  go_loopw [6] (fun i wr => ∃ (j : Nat) (v : Value), j ≤ m ∧ i = .int .i64 j ∧ Hid (wr.ownsRow (w.heap.size + 4) 53 2 v j (encF (tabG f j))) ∧ Hid (Box wr (w.heap.size + 1 + 1 + 1) (.bool true) v) ∧ Hid (Box wr w.heap.size (.bool true) (.slice a1 n1 cap1)) ∧ Hid (Box wr (w.heap.size + 1) (.bool true) (.slice a2 n2 cap2)) ∧ Hid (Box wr (w.heap.size + 1 + 1) (.bool false) (.slice none 0 0)) ∧ Hid (Below w.heap.size w wr) ∧ Hid (w.heap.size + 4 ≤ wr.heap.size)) (fun i _ => m - (intOf i).toNat)
  case atStart => exact ⟨0, .slice none 0 0, Nat.zero_le _, rfl, World.ownsRow_nil _ _ _ _, HO, HA, HB, HR, HW, by show _ ≤ _; rw [HZ.out]; exact Nat.le_refl _⟩
  case round =>
    clear HO HA HB HR HW HZ
    obtain ⟨j, v, hj, rfl, hown, hO, hA, hB, hR, hBw, hsz⟩ := hrel
    obtain ⟨c0, c1, -, -⟩ := id hA.out
    obtain ⟨d0, d1, -, -⟩ := id hB.out
    by_cases hlt : j < m
    · have hji : (j : Int) < (m : Int) := by omega
      have q1 := Lib.hid (fun W (hb : Below wr.heap.size wr W) => HG1.out j W (hBw.out.trans (hb.mono hBw.out.size)))
      have q2 := Lib.hid (fun W (hb : Below wr.heap.size wr W) => HG2.out j W (hBw.out.trans (hb.mono hBw.out.size)))
      have q3 := Lib.hid (HJ.out j)
      obtain ⟨fj, hfj⟩ : ∃ u, f j = u := ⟨_, rfl⟩
      have henc : (encF (tabG f (j + 1))) = (encF (tabG f j)) ++ [.int .i64 fj.k, .int .i64 fj.c] := by rw [tabG_succ, hfj, encF_snoc]
      rw [hfj] at q3
      clear hfj HG1 HG2 HJ
      generalize (atG vbot true l1 (j : Int)).sn = g1 at *
      generalize (atG vbot true l2 (j : Int)).sn = g2 at *
      obtain ⟨x, y⟩ := fj
      obtain ⟨x1, y1⟩ := g1
      obtain ⟨x2, y2⟩ := g2
      unfold V.val at q1 q2 q3
      have HENC := Lib.hid henc
      have hsz' := hsz.out
      have h63 : j + 1 ≤ maxLen := by unfold maxLen; omega
      have hby : (j + 1) * 16 ≤ 140737488355328 := by omega
      have hS : Hid (∀ w', Below (w.heap.size + 4) wr w' → w'.cell? ⟨w.heap.size + 1 + 1 + 1, 1, none⟩ = some v ∧ w'.cell? ⟨w.heap.size, 0, none⟩ = some (.bool true) ∧ w'.cell? ⟨w.heap.size, 1, none⟩ = some (.slice a1 n1 cap1) ∧ w'.cell? ⟨w.heap.size + 1, 0, none⟩ = some (.bool true) ∧ w'.cell? ⟨w.heap.size + 1, 1, none⟩ = some (.slice a2 n2 cap2)) := fun w' hb' =>
        ⟨(hO.out.below hb' (by omega)).c1, (hA.out.below hb' (by omega)).c0, (hA.out.below hb' (by omega)).c1, (hB.out.below hb' (by omega)).c0, (hB.out.below hb' (by omega)).c1⟩
      have HBN : Hid (Below wr.heap.size wr wr.drew) := (Below.refl _ _).drew
      clear henc
      have hmax : (n1 < n2 ∧ (j : Int) < (n2 : Int)) ∨ (¬ n1 < n2 ∧ (j : Int) < (n1 : Int)) := by omega
      clear hcases
      rcases hmax with ⟨hc1, hc2⟩ | ⟨hc1, hc2⟩
      all_goals
        go_wp2_with fail
        clear c0 c1 d0 d1
        refine wp_region_late (fun w' => w'.cell? ⟨w.heap.size + 1 + 1 + 1, 1, none⟩ = some v ∧ w'.cell? ⟨w.heap.size, 0, none⟩ = some (.bool true) ∧ w'.cell? ⟨w.heap.size, 1, none⟩ = some (.slice a1 n1 cap1) ∧ w'.cell? ⟨w.heap.size + 1, 0, none⟩ = some (.bool true) ∧ w'.cell? ⟨w.heap.size + 1, 1, none⟩ = some (.slice a2 n2 cap2)) 11 (by kernel_rfl) (hS.out _ (Below.refl _ _).drew) (fun hHeld => ?_)
        refine wpAnyE_take (i := 0) (v := ?v0) rfl (by kernel_rfl) (fun _ _ _ h => h) hHeld (by rfl) ?y0 ?_
        case y0 => (intro w' hSw; (try dsimp only at hSw); go_simp <;> with_reducible rfl)
        refine wpAnyE_take (i := 1) (v := ?v1) rfl (by kernel_rfl) (fun _ _ _ h => h) hHeld (by rfl) ?y1 ?_
        case y1 => (intro w' hSw; (try dsimp only at hSw); go_simp <;> with_reducible rfl)
        refine wpAnyE_take (i := 2) (v := ?v2) rfl (by kernel_rfl) (fun _ _ _ h => h) hHeld (by rfl) ?y2 ?_
        case y2 => (intro w' hSw; (try dsimp only at hSw); go_simp <;> with_reducible rfl)
        refine wpAnyE_take (i := 3) (v := ?v3) rfl (by kernel_rfl) (fun _ _ _ h => h) hHeld (by rfl) ?y3 ?_
        case y3 => (intro w' hSw; (try dsimp only at hSw); go_simp <;> with_reducible rfl)
        refine wpAnyE_take (i := 5) (v := ?v5) rfl (by kernel_rfl) (fun _ _ _ h => h) hHeld (by rfl) ?y5 ?_
        case y5 => (intro w' hSw; (try dsimp only at hSw); go_simp <;> with_reducible rfl)
        refine wpAnyE_take (i := 6) (v := ?v6) rfl (by kernel_rfl) (fun _ _ _ h => h) hHeld (by rfl) ?y6 ?_
        case y6 => (intro w' hSw; (try dsimp only at hSw); go_simp <;> with_reducible rfl)
        refine wpAnyE_one (i := 4) (by kernel_rfl) rfl (fun K hK => ?_)
        go_simp
        go_at_call 47
        refine (q1.out _ HBN.out).mono ?_
        rintro e wn ⟨rfl, hbn⟩
        have hbx := HBN.out.trans (hbn.mono HBN.out.size)
        clear HBN hbn
        have HBN := Lib.hid hbx
        clear hbx
        go_wp2_with fail
        refine hK.out _ _ ?_ (fun hHeld => ?_)
        · exact hS.out _ (HBN.out.mono hsz')
        clear hK K
        refine wpAnyE_one (i := 7) (by kernel_rfl) rfl (fun K hK => ?_)
        go_simp
        go_at_call 47
        refine (q2.out _ HBN.out).mono ?_
        rintro e wn ⟨rfl, hbn⟩
        have hbx := HBN.out.trans (hbn.mono HBN.out.size)
        clear HBN hbn
        have HBN := Lib.hid hbx
        clear hbx
        go_wp2_with fail
        refine hK.out _ _ ?_ (fun hHeld => ?_)
        · exact hS.out _ (HBN.out.mono hsz')
        clear hK K
        refine wpAnyE_one (i := 8) (by kernel_rfl) rfl (fun K hK => ?_)
        go_simp
        go_at_call 46
        refine (q3.out _).mono ?_
        rintro e wn ⟨rfl, hbn⟩
        have hbx := HBN.out.trans (hbn.mono HBN.out.size)
        clear HBN hbn
        have HBN := Lib.hid hbx
        clear hbx
        go_wp2_with fail
        refine hK.out _ _ ?_ (fun hHeld => ?_)
        · exact hS.out _ (HBN.out.mono hsz')
        clear hK K
        refine wpAnyE_one (i := 9) (by kernel_rfl) rfl (fun K hK => ?_)
        go_simp
        refine hK.out _ _ ?_ (fun hHeld => ?_)
        · exact hS.out _ ((HBN.out.mono hsz').alloc (Nat.le_trans hsz' HBN.out.size) _)
        clear hK K
        refine wpAnyE_one (i := 10) (by kernel_rfl) rfl (fun K hK => ?_)
        refine step_append_lies _ (by rfl) _ _ _ (by rfl) (w.heap.size + 4) 53 i0 _ 2 16 Tryz.underlying22 hi hz0 hz1 hz2 rfl (by omega) v j (encF (tabG f j)) (by rfl) (owns_below' (owns_below' hown.out HBN.out) ((Below.refl _ wn).alloc (Nat.le_refl _) _)) ⟨wn.heap.size, 0, none⟩ 1 1 [.int .i64 x, .int .i64 y] (by rfl) (by rfl) (World.news_of_block (cs := #[.int .i64 x, .int .i64 y]) (t := 53) (fr := (0, 0)) (heap_alloc_new wn _)) (by simp [Value.oneCell']) (by omega) h63 hby (by have := HBN.out.size; simp; omega) (wn.heap.size + 1) (by simp) ?_
        intro gg cp w1 hown1 hgrow hat hlt2
        have HB3 : Hid (Below (w.heap.size + 4) wr w1) := ((HBN.out.mono hsz').alloc (Nat.le_trans hsz' HBN.out.size) _).grown hgrow (by have := HBN.out.size; simp; omega) (fun k e => (hown.out.lt k e).1)
        have HOWN := Lib.hid hown1
        clear hown1 hgrow hat hlt2
        refine hK.out _ _ ?_ (fun hHeld => ?_)
        · exact hS.out _ HB3.out
        clear hK K
        refine wpAnyE_tail 11 (by decide) rfl (by kernel_rfl) ?_
        simp only [List.drop_succ_cons, List.drop_zero]
        have o3 := (hO.out.below HB3.out (by omega)).c1
        have f3 := (hO.out.below HB3.out (by omega)).f1
        go_wp2_with fail
        go_roundw
        case rel =>
          have hb := hBw.out.trans (HB3.out.mono (by omega))
          have hz := HB3.out.size
          refine ⟨j + 1, .slice (some ⟨gg, 0, none⟩) (j + 1) cp, by omega, by go_num, ?_, Lib.hid ((hO.out.below HB3.out (by omega)).put1 _), Lib.hid ((hA.out.below HB3.out (by omega)).far1 (by omega)), Lib.hid ((hB.out.below HB3.out (by omega)).far1 (by omega)), Lib.hid ((hR.out.below HB3.out (by omega)).far1 (by omega)), Lib.hid (hb.setCell (p := ⟨w.heap.size + 1 + 1 + 1, 1, none⟩) (by show w.heap.size ≤ w.heap.size + 1 + 1 + 1; omega) _), ?_⟩
          · show World.ownsRow _ _ _ _ _ _ _
            rw [HENC.out]
            exact owns_far HOWN.out (fun g h1 _ => heap_put1 _ _ _ _ _ (by omega))
          · show _ ≤ _
            rw [size_put1]; omega
        case measure => simp [intOf]; omega
    · obtain rfl : j = m := by omega
      obtain ⟨a', cap', rfl, hOwn⟩ := ownF_of hown.out (tabG_length f j)
      obtain ⟨o0, o1, -, -⟩ := id hO.out
      obtain ⟨r0, r1, f0, f1⟩ := id hR.out
      have HOwn := Lib.hid hOwn
      have hb2 := Lib.hid (below_put2 hBw.out (b := w.heap.size + 1 + 1) (by omega) (.bool true) (.slice a' j cap'))
      clear hOwn HG1 HG2 HJ
      have hmax : (n1 < n2 ∧ n2 = j) ∨ (¬ n1 < n2 ∧ n1 = j) := by omega
      clear hcases
      rcases hmax with ⟨hc1, hc2⟩ | ⟨hc1, hc2⟩
      all_goals
        go_wp2_with fail
        refine bodyPost_ret (v := .agg #[.bool true, .slice a' j cap']) (by simp [results, Tryz.results23, go_sem, r0, r1]) rfl ⟨a', cap', rfl, ⟨?_, tabG_length _ _⟩, hb2.out⟩
        exact (HOwn.out.block (Nat.le_refl _) (fun g h1 _ => heap_put2 _ _ _ _ _ (by omega))).fis

set_option maxRecDepth 100000 in
set_option maxHeartbeats 4000000 in
theorem rJoinF_any (on1 : Bool) (a1 : Option Addr) (n1 cap1 : Nat) (l1 : List V) (on2 : Bool) (a2 : Option Addr) (n2 cap2 : Nat) (l2 : List V) (w : World) (h1 : FE w a1 n1 l1) (h2 : FE w a2 n2 l2) (hl1 : n1 ≤ 200) (hl2 : n2 ≤ 200) (on : Bool) (l : List V) (n : Nat) (ho : (on1 || on2) = on) (hl : joinF on1 l1 on2 l2 = l) (hn : max (szG on1 l1) (szG on2 l2) = n) :
    Calls Tryz.prog 23 #[.agg #[.bool on1, .slice a1 n1 cap1], .agg #[.bool on2, .slice a2 n2 cap2]] w fun e w' => ∃ a cap, e = .returned (.agg #[.bool on, .slice a n cap]) ∧ FE w' a n l ∧ Below w.heap.size w w' := by
  subst ho hl hn
  by_cases hb : on1 = true ∧ on2 = true
  · obtain ⟨rfl, rfl⟩ := hb
    have e1 := h1.2
    have e2 := h2.2
    refine (rJoinF_on a1 n1 cap1 l1 a2 n2 cap2 l2 w h1 h2 hl1 hl2 _ (fun _ => rfl) _ rfl).mono ?_
    rintro e w' ⟨a', cap', rfl, hF, hb⟩
    refine ⟨a', cap', ?_, ?_, hb⟩
    · show _ = Ending.returned (.agg #[.bool true, .slice a' (max l1.length l2.length) cap'])
      rw [e1, e2]
    · show FE w' a' (max l1.length l2.length) (tabG _ (max l1.length l2.length))
      rw [e1, e2]; exact hF
  · have hW := below3 w (.cells #[.bool on1, .slice a1 n1 cap1] 24) (.cells #[.bool on2, .slice a2 n2 cap2] 24) (.cells #[.bool false, .slice none 0 0] 24)
    have BA := ((Box.new w (.bool on1) (.slice a1 n1 cap1) 24).alloc (.cells #[.bool on2, .slice a2 n2 cap2] 24)).alloc (.cells #[.bool false, .slice none 0 0] 24)
    have BB := (Box.new (w.alloc (.cells #[.bool on1, .slice a1 n1 cap1] 24)) (.bool on2) (.slice a2 n2 cap2) 24).alloc (.cells #[.bool false, .slice none 0 0] 24)
    have BR := Box.new ((w.alloc (.cells #[.bool on1, .slice a1 n1 cap1] 24)).alloc (.cells #[.bool on2, .slice a2 n2 cap2] 24)) (.bool false) (.slice none 0 0) 24
    have hsz : (((w.alloc (.cells #[.bool on1, .slice a1 n1 cap1] 24)).alloc (.cells #[.bool on2, .slice a2 n2 cap2] 24)).alloc (.cells #[.bool false, .slice none 0 0] 24)).heap.size = w.heap.size + 3 := by simp
    simp only [World.size_alloc] at BB BR
    have HO1 := Lib.hid (rownF_any on1 a1 n1 cap1 l1 _ (h1.below hW) hl1 _ rfl _ rfl)
    have HO2 := Lib.hid (rownF_any on2 a2 n2 cap2 l2 _ (h2.below hW) hl2 _ rfl _ rfl)
    generalize hE : ((w.alloc (.cells #[.bool on1, .slice a1 n1 cap1] 24)).alloc (.cells #[.bool on2, .slice a2 n2 cap2] 24)).alloc (.cells #[.bool false, .slice none 0 0] 24) = W at *
    have HW := Lib.hid hW
    have HZ := Lib.hid hsz
    obtain ⟨c0, c1, -, -⟩ := id BA
    obtain ⟨d0, d1, -, -⟩ := id BB
    clear hW hsz BA BB h1 h2 hl1 hl2
    cases on1 with
    | false =>
      have EL := Lib.hid (joinF_offL l1 on2 l2)
      have EN : Hid (max (szG false l1) (szG on2 l2) = szG on2 l2) := by show _ = _; simp [szG]
      clear HO1 hb
      go_enter Tryz.func23, Tryz.ntmps23
      go_wp2_with (go_at_call 45; refine HO2.out.mono ?_; clear HO2 c0 c1 d0 d1; rintro e w1 ⟨a, cap, rfl, hO, hb⟩; obtain ⟨r0, r1, g0, g1⟩ := BR.below hb BR.lt; have HX := Lib.hid (HW.out.trans (hb.mono HW.out.size)); have HOw := Lib.hid hO; clear hb hO BR)
      have hb2 := below_put2 HX.out (b := w.heap.size + 1 + 1) (by omega) (.bool on2) (.slice a (szG on2 l2) cap)
      have hz := HZ.out
      refine bodyPost_ret (v := .agg #[.bool on2, .slice a (szG on2 l2) cap]) (by simp [results, Tryz.results23, go_sem, r0, r1]) rfl ⟨a, cap, ?_, ?_, hb2⟩
      · rw [EN.out]; rfl
      · rw [EN.out, EL.out]
        exact ⟨(HOw.out.block (Nat.le_refl _) (fun g h1 _ => heap_put2 _ _ _ _ _ (by omega))).fis, ownLF_len _ _⟩
    | true =>
      obtain rfl : on2 = false := by cases on2 <;> simp_all
      have EL := Lib.hid (joinF_offR l1 l2)
      have EN : Hid (max (szG true l1) (szG false l2) = szG true l1) := by show _ = _; simp [szG]
      clear HO2 hb
      go_enter Tryz.func23, Tryz.ntmps23
      go_wp2_with (go_at_call 45; refine HO1.out.mono ?_; clear HO1 c0 c1 d0 d1; rintro e w1 ⟨a, cap, rfl, hO, hb⟩; obtain ⟨r0, r1, g0, g1⟩ := BR.below hb BR.lt; have HX := Lib.hid (HW.out.trans (hb.mono HW.out.size)); have HOw := Lib.hid hO; clear hb hO BR)
      have hb2 := below_put2 HX.out (b := w.heap.size + 1 + 1) (by omega) (.bool true) (.slice a (szG true l1) cap)
      have hz := HZ.out
      refine bodyPost_ret (v := .agg #[.bool true, .slice a (szG true l1) cap]) (by simp [results, Tryz.results23, go_sem, r0, r1]) rfl ⟨a, cap, ?_, ?_, hb2⟩
      · rw [EN.out]; rfl
      · rw [EN.out, EL.out]
        exact ⟨(HOw.out.block (Nat.le_refl _) (fun g h1 _ => heap_put2 _ _ _ _ _ (by omega))).fis, ownLF_len _ _⟩

end Go.Proofs.YtmcbedlmgffckaaGreatDoor