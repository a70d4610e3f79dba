import Derived.Test.YtmcbedlmgffckaaGreatDoorEnvX
namespace Go.Proofs.YtmcbedlmgffckaaGreatDoor
open Go Go.RowKit Go.Sort



set_option maxRecDepth 100000 in
set_option maxHeartbeats 8000000 in
theorem rSetF_any (on : Bool) (a : Option Addr) (n cap : Nat) (l : List V) (i : Int) (x y : Int) (w : World) (h : FE w a n l) (hl : n ≤ 200) (l' : List V) (m : Nat) (hl' : setF on l i ⟨x, y⟩ = l') (hm : szG on l = m) :
    Calls Tryz.prog 24 #[.agg #[.bool on, .slice a n cap], .int .i64 i, .agg #[.int .i64 x, .int .i64 y]] w fun e w' => ∃ a' cap', e = .returned (.agg #[.bool on, .slice a' m cap']) ∧ FE w' a' m l' ∧ Below w.heap.size w w' := by
  rw [setF_own] at hl'
  have HN : Hid (∀ W, Calls Tryz.prog 48 #[.agg #[.int .i64 x, .int .i64 y]] W fun e w' => e = .returned (V.sn ⟨x, y⟩).val ∧ Below W.heap.size W w') := fun W => rval_any ⟨x, y⟩ W
  have hlen : (ownLF on l).length = m := by rw [ownLF_len]; exact hm
  have BE := ((Box.new w (.bool on) (.slice a n cap) 24).alloc (.cells #[.int .i64 x, .int .i64 y] 53)).alloc (.cells #[.bool false, .slice none 0 0] 24)
  have BV := (Box.new (w.alloc (.cells #[.bool on, .slice a n cap] 24)) (.int .i64 x) (.int .i64 y) 53).alloc (.cells #[.bool false, .slice none 0 0] 24)
  have BR := Box.new ((w.alloc (.cells #[.bool on, .slice a n cap] 24)).alloc (.cells #[.int .i64 x, .int .i64 y] 53)) (.bool false) (.slice none 0 0) 24
  have hW := below3 w (.cells #[.bool on, .slice a n cap] 24) (.cells #[.int .i64 x, .int .i64 y] 53) (.cells #[.bool false, .slice none 0 0] 24)
  have hsz : (((w.alloc (.cells #[.bool on, .slice a n cap] 24)).alloc (.cells #[.int .i64 x, .int .i64 y] 53)).alloc (.cells #[.bool false, .slice none 0 0] 24)).heap.size = w.heap.size + 3 := by simp
  simp only [World.size_alloc] at BV BR
  have HO := Lib.hid (rownF_any on a n cap l _ (h.below hW) hl m hm _ rfl)
  generalize hE : ((w.alloc (.cells #[.bool on, .slice a n cap] 24)).alloc (.cells #[.int .i64 x, .int .i64 y] 53)).alloc (.cells #[.bool false, .slice none 0 0] 24) = W at *
  have HV := Lib.hid BV
  have HW := Lib.hid hW
  have HZ := Lib.hid hsz
  have HR := Lib.hid BR
  obtain ⟨c0, c1, -, -⟩ := id BE
  clear hW hsz BE BR BV h hl hm
  generalize ownLF on l = L at *
  have HLEN := Lib.hid hlen
  have hm2 := hlen
  go_enter Tryz.func24, Tryz.ntmps24
  go_upto_region 2 with (go_at_call 45; refine HO.out.mono ?_; clear HO c0 c1; rintro e w1 ⟨a', cap', rfl, hOwn, hb⟩; have HR1 := Lib.hid ((HR.out.below hb HR.out.lt).alloc (.cells #[.bool on, .slice a' m cap'] 24)); have HV1 := Lib.hid ((HV.out.below hb HV.out.lt).alloc (.cells #[.bool on, .slice a' m cap'] 24)); have HB1 := Lib.hid ((HW.out.trans (hb.mono HW.out.size)).alloc (HW.out.trans (hb.mono HW.out.size)).size (.cells #[.bool on, .slice a' m cap'] 24)); have HOW := Lib.hid (hOwn.below ((Below.refl w1.heap.size w1).alloc (Nat.le_refl _) (.cells #[.bool on, .slice a' m cap'] 24))); have HSZ := Lib.hid hb.size; have HLT : Hid (∀ g, a' = some ⟨g, 0, none⟩ → L ≠ [] → g < w1.heap.size) := (fun g hg hne => by rcases hOwn with h0 | ⟨g', e', hF⟩; exact absurd h0 hne; rw [hg] at e'; cases e'; exact hF.lt); clear hb hOwn HR HV HW)
  have HO1 := Lib.hid (Box.new w1 (.bool on) (.slice a' m cap') 24)
  generalize w1.alloc (.cells #[.bool on, .slice a' m cap'] 24) = W2 at *
  obtain ⟨bo, hbo⟩ : ∃ b, w1.heap.size = b := ⟨_, rfl⟩
  rw [hbo] at HO1 HSZ HLT ⊢
  have hbo2 : w.heap.size + 3 ≤ bo := by have h1 := HSZ.out; have h2 := HZ.out; omega
  have hWz := HZ.out
  clear hbo hE
  obtain ⟨u, hu⟩ : ∃ u, V.sn ⟨x, y⟩ = u := ⟨_, rfl⟩
  rw [hu] at HN hl'
  clear hu
  by_cases hin : 0 ≤ i ∧ i < (m : Int)
  · obtain ⟨q, rfl⟩ : ∃ q : Nat, i = (q : Int) := ⟨i.toNat, by omega⟩
    have hq : q < m := by omega
    have hqi : (q : Int) < (m : Int) := by omega
    have hq0 : (0 : Int) ≤ (q : Int) := by omega
    have hP : L.set q u = l' := by
      rw [← hl']; unfold putG; rw [if_pos ⟨by omega, by rw [hlen]; exact hqi⟩]; simp
    have HP := Lib.hid hP
    have hne : L ≠ [] := by intro h0; rw [h0] at hlen; simp at hlen; omega
    rcases HOW.out with h0 | ⟨g, rfl, hF⟩
    · exact absurd h0 hne
    have hg1 := hF.1
    have hg2 := HLT.out g rfl hne
    have HF := Lib.hid hF
    have HLQ : Hid (q < L.length) := by show q < _; rw [hlen]; exact hq
    obtain ⟨o0, o1, -, -⟩ := id HO1.out
    have hS : Hid (∀ w', Below W2.heap.size W2 w' → w'.cell? ⟨bo, 1, none⟩ = some (.slice (some ⟨g, 0, none⟩) m cap') ∧ w'.cell? ⟨w.heap.size + 1, 0, none⟩ = some (.int .i64 x) ∧ w'.cell? ⟨w.heap.size + 1, 1, none⟩ = some (.int .i64 y)) := fun w' hb' => ⟨(HO1.out.below hb' HO1.out.lt).c1, (HV1.out.below hb' HV1.out.lt).c0, (HV1.out.below hb' HV1.out.lt).c1⟩
    have HBN : Hid (Below W2.heap.size W2 W2.drew) := (Below.refl _ _).drew
    clear hl' hP hF hne hin HOW HLT hlen hm2
    obtain ⟨ux, uy⟩ := u
    unfold V.val at HN
    go_wp2_with fail

    refine wp_region_late (fun w' => w'.cell? ⟨bo, 1, none⟩ = some (.slice (some ⟨g, 0, none⟩) m cap') ∧ w'.cell? ⟨w.heap.size + 1, 0, none⟩ = some (.int .i64 x) ∧ w'.cell? ⟨w.heap.size + 1, 1, none⟩ = some (.int .i64 y)) 5 (by kernel_rfl) (hS.out _ (Below.refl _ _).drew) (fun hHeld => ?_)
    refine wpAnyE_take (i := 0) (v := ?v0) rfl (by kernel_rfl) (fun _ _ _ h => h) hHeld (by rfl) ?y0 ?_
    case y0 => (intro w' hSw; (try dsimp only at hSw); go_simp <;> with_reducible rfl)
    refine wpAnyE_take (i := 1) (v := ?v1) rfl (by kernel_rfl) (fun _ _ _ h => h) hHeld (by rfl) ?y1 ?_
    case y1 => (intro w' hSw; (try dsimp only at hSw); go_simp <;> with_reducible rfl)
    refine wpAnyE_take (i := 2) (v := ?v2) rfl (by kernel_rfl) (fun _ _ _ h => h) hHeld (by rfl) ?y2 ?_
    case y2 => (intro w' hSw; (try dsimp only at hSw); go_simp <;> with_reducible rfl)
    refine wpAnyE_take (i := 3) (v := ?v3) rfl (by kernel_rfl) (fun _ _ _ h => h) hHeld (by rfl) ?y3 ?_
    case y3 => (intro w' hSw; (try dsimp only at hSw); go_simp <;> with_reducible rfl)
    refine wpAnyE_one (i := 4) (by kernel_rfl) rfl (fun K hK => ?_)
    go_simp
    go_at_call 48
    refine (HN.out _).mono ?_
    rintro e wn ⟨rfl, hbn⟩
    have hbx := HBN.out.trans (hbn.mono HBN.out.size)
    clear HBN hbn
    have HBN := Lib.hid hbx
    clear hbx
    go_wp2_with fail
    refine hK.out _ _ ?_ (fun hHeld => ?_)
    · exact hS.out _ HBN.out
    clear hK K
    refine wpAnyE_tail 5 (by decide) rfl (by kernel_rfl) ?_
    simp only [List.drop_succ_cons, List.drop_zero]
    have hFn := HF.out.below HBN.out HF.out.lt
    obtain ⟨e0, e1⟩ := hFn.cellAt HLQ.out
    have f0 := hFn.frozenAt (q * 2)
    have f1 := hFn.frozenAt (q * 2 + 1)
    obtain ⟨p0, p1, -, -⟩ := ((HO1.out.below HBN.out HO1.out.lt).far (g := g) (by omega) : Box ((wn.setCell ⟨g, q * 2, none⟩ (.int .i64 ux)).setCell ⟨g, q * 2 + 1, none⟩ (.int .i64 uy)) _ _ _)
    obtain ⟨r0, r1, g0, g1⟩ := ((HR1.out.below HBN.out HR1.out.lt).far (g := g) (by omega) : Box ((wn.setCell ⟨g, q * 2, none⟩ (.int .i64 ux)).setCell ⟨g, q * 2 + 1, none⟩ (.int .i64 uy)) _ _ _)
    have HSET := Lib.hid (hFn.set q ux uy)
    have hb0 := HB1.out.trans (HBN.out.mono HB1.out.size)
    have hb1 := Lib.hid ((hb0.setCell (p := ⟨g, q * 2, none⟩) (by show w.heap.size ≤ g; omega) (.int .i64 ux)).setCell (p := ⟨g, q * 2 + 1, none⟩) (by show w.heap.size ≤ g; omega) (.int .i64 uy))
    clear hFn hb0 o0 o1
    go_wp2_with fail
    have hb2 := below_put2 hb1.out (b := w.heap.size + 1 + 1) (by omega) (.bool on) (.slice (some ⟨g, 0, none⟩) m cap')
    refine bodyPost_ret (v := .agg #[.bool on, .slice (some ⟨g, 0, none⟩) m cap']) (by simp [results, Tryz.results24, go_sem, r0, r1]) rfl ⟨_, cap', rfl, ?_, hb2⟩
    rw [← HP.out]
    exact ⟨(HSET.out.block (heap_put2 _ _ _ _ _ (by omega))).fis, by rw [List.length_set]; exact HLEN.out⟩
  · have hP : L = l' := by
      rw [← hl']; unfold putG; rw [if_neg (by rw [hlen]; exact hin)]
    subst hP
    obtain ⟨o0, o1, -, -⟩ := id HO1.out
    obtain ⟨r0, r1, f0, f1⟩ := id HR1.out
    have hb2 := Lib.hid (below_put2 HB1.out (b := w.heap.size + 1 + 1) (by omega) (.bool on) (.slice a' m cap'))
    have hor : i < 0 ∨ (0 ≤ i ∧ (m : Int) ≤ i) := by omega
    clear hin hl' HN HLT
    rcases hor with h0 | ⟨h0, h1⟩
    all_goals
      go_wp2_with fail
      have hfe : FE ((W2.setCell ⟨w.heap.size + 1 + 1, 0, none⟩ (.bool on)).setCell ⟨w.heap.size + 1 + 1, 1, none⟩ (.slice a' m cap')) a' m L := ⟨(HOW.out.block (Nat.le_refl _) (fun g h1 _ => heap_put2 _ _ _ _ _ (by omega))).fis, HLEN.out⟩
      refine bodyPost_ret (v := .agg #[.bool on, .slice a' m cap']) (by simp [results, Tryz.results24, go_sem, r0, r1]) rfl ?_
      first
        | exact ⟨a', cap', rfl, hfe, hb2.out⟩
        | exact ⟨a', ⟨cap', rfl⟩, hfe, hb2.out⟩

end Go.Proofs.YtmcbedlmgffckaaGreatDoor