import Derived.Test.YtcmncclibhjepaaEnvX
namespace Go.Proofs.Ytcmncclibhjepaa
open Go Go.RowKit Go.Sort

set_option maxRecDepth 100000 in
set_option maxHeartbeats 8000000 in
theorem rLeqF_any (on1 : Bool) (a1 : Option Addr) (n1 cap1 : Nat) (l1 : List V) (on2 : Bool) (a2 : Option Addr) (n2 cap2 : Nat) (l2 : List V) (w : World) (h1 : FE w a1 n1 l1) (h2 : FE w a2 n2 l2) (hl1 : n1 ≤ 200) (hl2 : n2 ≤ 200) (r : Bool) (hr : leqF on1 l1 on2 l2 = r) :
    Calls Try.prog 14 #[.agg #[.bool on1, .slice a1 n1 cap1], .agg #[.bool on2, .slice a2 n2 cap2]] w fun e w' => e = .returned (.bool r) ∧ Below w.heap.size w w' := by
  have BA := (Box.new w (.bool on1) (.slice a1 n1 cap1) 24).alloc (.cells #[.bool on2, .slice a2 n2 cap2] 24)
  have BB := Box.new (w.alloc (.cells #[.bool on1, .slice a1 n1 cap1] 24)) (.bool on2) (.slice a2 n2 cap2) 24
  have hW := below2 w (.cells #[.bool on1, .slice a1 n1 cap1] 24) (.cells #[.bool on2, .slice a2 n2 cap2] 24)
  simp only [World.size_alloc] at BB
  generalize hE : (w.alloc (.cells #[.bool on1, .slice a1 n1 cap1] 24)).alloc (.cells #[.bool on2, .slice a2 n2 cap2] 24) = W at *
  have HW := Lib.hid hW
  have HA := Lib.hid BA
  have HB := Lib.hid BB
  obtain ⟨c0, c1, -, -⟩ := id BA
  obtain ⟨d0, d1, -, -⟩ := id BB
  clear hW BA BB
  cases on1 with
  | false =>
    rw [leqF_offL] at hr
    subst hr
    go_enter Try.func14, Try.ntmps14
    go_wp2_with fail
    go_ret
    exact ⟨rfl, HW.out⟩
  | true =>
    cases on2 with
    | false =>
      rw [leqF_offR] at hr
      subst hr
      go_enter Try.func14, Try.ntmps14
      go_wp2_with fail
      go_ret
      exact ⟨rfl, HW.out⟩
    | true =>
      rw [leqF_ref, h1.2, h2.2] at hr
      obtain ⟨m, hm⟩ : ∃ m, max n1 n2 = m := ⟨_, rfl⟩
      rw [hm] at hr
      have HG1 := Lib.hid (fun (j : Nat) W (hW : Below w.heap.size w W) => rGetF_any true a1 n1 cap1 l1 (j : Int) W (h1.below hW))
      have HG2 := Lib.hid (fun (j : Nat) W (hW : Below w.heap.size w W) => rGetF_any true a2 n2 cap2 l2 (j : Int) W (h2.below hW))
      obtain ⟨q, hq⟩ : ∃ q : Nat → Bool, (fun (k : Nat) => leq (atG vbot true l1 (k : Int)).sn (atG vbot true l2 (k : Int)).sn) = q := ⟨_, rfl⟩
      have HL : Hid (∀ (j : Nat) W, Calls Try.prog 46 #[(atG vbot true l1 (j : Int)).sn.val, (atG vbot true l2 (j : Int)).sn.val] W fun e w' => e = .returned (.bool (q j)) ∧ Below W.heap.size W w') := fun j W => by
        rw [← hq]; exact rLeq_any (atG vbot true l1 (j : Int)).sn (atG vbot true l2 (j : Int)).sn W
      rw [hq] at hr
      subst hr
      have hcases : (n1 < n2 ∧ m = n2) ∨ (¬ n1 < n2 ∧ m = n1) := by omega
      have hm2 : m ≤ 200 := by omega
      clear hq h1 h2 hm
      go_enter Try.func14, Try.ntmps14
      go_wp2_with fail
      clear c0 c1 d0 d1 hE
      go_loopw [5] (fun i wr => ∃ j : Nat, j ≤ m ∧ i = .int .i64 j ∧ Hid (allG q j = true) ∧ Hid (Box wr w.heap.size (.bool true) (.slice a1 n1 cap1)) ∧ Hid (Box wr (w.heap.size + 1) (.bool true) (.slice a2 n2 cap2)) ∧ Hid (Below w.heap.size w wr)) (fun i _ => m - (intOf i).toNat)
      case atStart => exact ⟨0, Nat.zero_le _, rfl, Lib.hid rfl, HA, HB, HW⟩
      case round =>
        clear HA HB HW
        obtain ⟨j, hj, rfl, hall, hA, hB, hBw⟩ := hrel
        obtain ⟨c0, c1, -, -⟩ := id hA.out
        obtain ⟨d0, d1, -, -⟩ := id hB.out
        by_cases hlt : j < m
        · have hji : (j : Int) < (m : Int) := by omega
          obtain ⟨r, hr⟩ : ∃ r, q j = r := ⟨_, rfl⟩
          have q1 := fun d os => Calls.regrown_of (HG1.out j (grow (redrawn wr d) os) (hBw.out.trans ((below_regrown wr d os).mono hBw.out.size)))
          have q2 := fun d os => Calls.regrown_of (HG2.out j (grow (redrawn wr d) os) (hBw.out.trans ((below_regrown wr d os).mono hBw.out.size)))
          have q3 := fun d os => Calls.regrown_of (HL.out j (grow (redrawn wr d) os))
          rw [hr] at q3
          have HR := Lib.hid hr
          have kA0 := cell_regrown hA.out.c0
          have kA1 := cell_regrown hA.out.c1
          have kB0 := cell_regrown hB.out.c0
          have kB1 := cell_regrown hB.out.c1
          generalize (atG vbot true l1 (j : Int)).sn = v1 at *
          generalize (atG vbot true l2 (j : Int)).sn = v2 at *
          clear hr HG1 HG2 HL
          have hsplit : True := trivial
          have hmax : (n1 < n2 ∧ (j : Int) < (n2 : Int)) ∨ (¬ n1 < n2 ∧ (j : Int) < (n1 : Int)) := by omega
          clear hcases
          rcases hmax with ⟨hc1, hc2⟩ | ⟨hc1, hc2⟩ <;> cases r
          all_goals
            go_wp2_with fail
            refine wp_region_quiet_below (by kernel_rfl) (by kernel_rfl) ?_
            repeat (first | go_big_quiet_step (first | with_reducible exact q1 _ _ | with_reducible exact q2 _ _ | with_reducible exact q3 _ _) | quiet_step (first | with_reducible exact q1 _ _ | with_reducible exact q2 _ _ | with_reducible exact q3 _ _))
            refine wpQuiet_nil ?_
            intro _ hw'
            obtain ⟨⟨dq, osq⟩, hw''⟩ := hw'
            subst hw''
            have hb := Lib.hid (below_regrown wr dq osq)
            clear q1 q2 q3 kA0 kA1 kB0 kB1 c0 c1 d0 d1
            generalize grow (redrawn wr dq) osq = wq at *
            go_wp2_with fail
          · go_ret
            exact ⟨ret_bool (allG_false hlt HR.out).symm, hBw.out.trans (hb.out.mono hBw.out.size)⟩
          · go_roundw
            case rel => exact ⟨j + 1, by omega, by go_num, (by show allG q (j + 1) = true; rw [allG_succ, hall.out, HR.out]; rfl), Lib.hid (hA.out.below hb.out hA.out.lt), Lib.hid (hB.out.below hb.out hB.out.lt), Lib.hid (hBw.out.trans (hb.out.mono hBw.out.size))⟩
            case measure => simp [intOf]; omega
          · go_ret
            exact ⟨ret_bool (allG_false hlt HR.out).symm, hBw.out.trans (hb.out.mono hBw.out.size)⟩
          · go_roundw
            case rel => exact ⟨j + 1, by omega, by go_num, (by show allG q (j + 1) = true; rw [allG_succ, hall.out, HR.out]; rfl), Lib.hid (hA.out.below hb.out hA.out.lt), Lib.hid (hB.out.below hb.out hB.out.lt), Lib.hid (hBw.out.trans (hb.out.mono hBw.out.size))⟩
            case measure => simp [intOf]; omega
        · obtain rfl : j = m := by omega
          clear HG1 HG2 HL
          have hmax : (n1 < n2 ∧ n2 = j) ∨ (¬ n1 < n2 ∧ n1 = j) := by omega
          clear hcases
          rcases hmax with ⟨hc1, hc2⟩ | ⟨hc1, hc2⟩
          all_goals
            go_wp2_with fail
            go_ret
            exact ⟨ret_bool hall.out.symm, hBw.out⟩

set_option maxRecDepth 100000 in
set_option maxHeartbeats 8000000 in
theorem rSetF_any (on : Bool) (a : Option Addr) (n cap : Nat) (l : List V) (i : Int) (x y : Int) (w : World) (h : FE w a n l) (hl : n ≤ 200) (l' : List V) (m : Nat) (hl' : setF on l i ⟨x, y⟩ = l') (hm : szG on l = m) :
    Calls Try.prog 20 #[.agg #[.bool on, .slice a n cap], .int .i64 i, .agg #[.int .i64 x, .int .i64 y]] w fun e w' => ∃ a' cap', e = .returned (.agg #[.bool on, .slice a' m cap']) ∧ FE w' a' m l' ∧ Below w.heap.size w w' := by
  rw [setF_own] at hl'
  have HN : Hid (∀ W, Calls Try.prog 43 #[.agg #[.int .i64 x, .int .i64 y]] W fun e w' => e = .returned (V.sn ⟨x, y⟩).val ∧ Below W.heap.size W w') := fun W => rval_any ⟨x, y⟩ W
  have hlen : (ownLF on l).length = m := by rw [ownLF_len]; exact hm
  have BE := ((Box.new w (.bool on) (.slice a n cap) 24).alloc (.cells #[.int .i64 x, .int .i64 y] 26)).alloc (.cells #[.bool false, .slice none 0 0] 24)
  have BV := (Box.new (w.alloc (.cells #[.bool on, .slice a n cap] 24)) (.int .i64 x) (.int .i64 y) 26).alloc (.cells #[.bool false, .slice none 0 0] 24)
  have BR := Box.new ((w.alloc (.cells #[.bool on, .slice a n cap] 24)).alloc (.cells #[.int .i64 x, .int .i64 y] 26)) (.bool false) (.slice none 0 0) 24
  have hW := below3 w (.cells #[.bool on, .slice a n cap] 24) (.cells #[.int .i64 x, .int .i64 y] 26) (.cells #[.bool false, .slice none 0 0] 24)
  have hsz : (((w.alloc (.cells #[.bool on, .slice a n cap] 24)).alloc (.cells #[.int .i64 x, .int .i64 y] 26)).alloc (.cells #[.bool false, .slice none 0 0] 24)).heap.size = w.heap.size + 3 := by simp
  simp only [World.size_alloc] at BV BR
  have HO := Lib.hid (rownF_any on a n cap l _ (h.below hW) hl m hm _ rfl)
  generalize hE : ((w.alloc (.cells #[.bool on, .slice a n cap] 24)).alloc (.cells #[.int .i64 x, .int .i64 y] 26)).alloc (.cells #[.bool false, .slice none 0 0] 24) = W at *
  have HV := Lib.hid BV
  have HW := Lib.hid hW
  have HZ := Lib.hid hsz
  have HR := Lib.hid BR
  obtain ⟨c0, c1, -, -⟩ := id BE
  clear hW hsz BE BR BV h hl hm
  generalize ownLF on l = L at *
  have HLEN := Lib.hid hlen
  have hm2 := hlen
  go_enter Try.func20, Try.ntmps20
  go_upto_region 2 with (go_at_call 48; refine HO.out.mono ?_; clear HO c0 c1; rintro e w1 ⟨a', cap', rfl, hOwn, hb⟩; have HR1 := Lib.hid ((HR.out.below hb HR.out.lt).alloc (.cells #[.bool on, .slice a' m cap'] 24)); have HV1 := Lib.hid ((HV.out.below hb HV.out.lt).alloc (.cells #[.bool on, .slice a' m cap'] 24)); have HB1 := Lib.hid ((HW.out.trans (hb.mono HW.out.size)).alloc (HW.out.trans (hb.mono HW.out.size)).size (.cells #[.bool on, .slice a' m cap'] 24)); have HOW := Lib.hid (hOwn.below ((Below.refl w1.heap.size w1).alloc (Nat.le_refl _) (.cells #[.bool on, .slice a' m cap'] 24))); have HSZ := Lib.hid hb.size; have HLT : Hid (∀ g, a' = some ⟨g, 0, none⟩ → L ≠ [] → g < w1.heap.size) := (fun g hg hne => by rcases hOwn with h0 | ⟨g', e', hF⟩; exact absurd h0 hne; rw [hg] at e'; cases e'; exact hF.lt); clear hb hOwn HR HV HW)
  have HO1 := Lib.hid (Box.new w1 (.bool on) (.slice a' m cap') 24)
  generalize w1.alloc (.cells #[.bool on, .slice a' m cap'] 24) = W2 at *
  obtain ⟨bo, hbo⟩ : ∃ b, w1.heap.size = b := ⟨_, rfl⟩
  rw [hbo] at HO1 HSZ HLT ⊢
  have hbo2 : w.heap.size + 3 ≤ bo := by have h1 := HSZ.out; have h2 := HZ.out; omega
  have hWz := HZ.out
  clear hbo hE
  obtain ⟨u, hu⟩ : ∃ u, V.sn ⟨x, y⟩ = u := ⟨_, rfl⟩
  rw [hu] at HN hl'
  clear hu
  by_cases hin : 0 ≤ i ∧ i < (m : Int)
  · obtain ⟨q, rfl⟩ : ∃ q : Nat, i = (q : Int) := ⟨i.toNat, by omega⟩
    have hq : q < m := by omega
    have hqi : (q : Int) < (m : Int) := by omega
    have hq0 : (0 : Int) ≤ (q : Int) := by omega
    have hP : L.set q u = l' := by
      rw [← hl']; unfold putG; rw [if_pos ⟨by omega, by rw [hlen]; exact hqi⟩]; simp
    have HP := Lib.hid hP
    have hne : L ≠ [] := by intro h0; rw [h0] at hlen; simp at hlen; omega
    rcases HOW.out with h0 | ⟨g, rfl, hF⟩
    · exact absurd h0 hne
    have hg1 := hF.1
    have hg2 := HLT.out g rfl hne
    have HF := Lib.hid hF
    have HLQ : Hid (q < L.length) := by show q < _; rw [hlen]; exact hq
    obtain ⟨o0, o1, -, -⟩ := id HO1.out
    have hS : Hid (∀ w', Below W2.heap.size W2 w' → w'.cell? ⟨bo, 1, none⟩ = some (.slice (some ⟨g, 0, none⟩) m cap') ∧ w'.cell? ⟨w.heap.size + 1, 0, none⟩ = some (.int .i64 x) ∧ w'.cell? ⟨w.heap.size + 1, 1, none⟩ = some (.int .i64 y)) := fun w' hb' => ⟨(HO1.out.below hb' HO1.out.lt).c1, (HV1.out.below hb' HV1.out.lt).c0, (HV1.out.below hb' HV1.out.lt).c1⟩
    have HBN : Hid (Below W2.heap.size W2 W2.drew) := (Below.refl _ _).drew
    clear hl' hP hF hne hin HOW HLT hlen hm2
    obtain ⟨ux, uy⟩ := u
    unfold V.val at HN
    go_wp2_with fail

    refine wp_region_late (fun w' => w'.cell? ⟨bo, 1, none⟩ = some (.slice (some ⟨g, 0, none⟩) m cap') ∧ w'.cell? ⟨w.heap.size + 1, 0, none⟩ = some (.int .i64 x) ∧ w'.cell? ⟨w.heap.size + 1, 1, none⟩ = some (.int .i64 y)) 5 (by kernel_rfl) (hS.out _ (Below.refl _ _).drew) (fun hHeld => ?_)
    refine wpAnyE_take (i := 0) (v := ?v0) rfl (by kernel_rfl) (fun _ _ _ h => h) hHeld (by rfl) ?y0 ?_
    case y0 => (intro w' hSw; (try dsimp only at hSw); go_simp <;> with_reducible rfl)
    refine wpAnyE_take (i := 1) (v := ?v1) rfl (by kernel_rfl) (fun _ _ _ h => h) hHeld (by rfl) ?y1 ?_
    case y1 => (intro w' hSw; (try dsimp only at hSw); go_simp <;> with_reducible rfl)
    refine wpAnyE_take (i := 2) (v := ?v2) rfl (by kernel_rfl) (fun _ _ _ h => h) hHeld (by rfl) ?y2 ?_
    case y2 => (intro w' hSw; (try dsimp only at hSw); go_simp <;> with_reducible rfl)
    refine wpAnyE_take (i := 3) (v := ?v3) rfl (by kernel_rfl) (fun _ _ _ h => h) hHeld (by rfl) ?y3 ?_
    case y3 => (intro w' hSw; (try dsimp only at hSw); go_simp <;> with_reducible rfl)
    refine wpAnyE_one (i := 4) (by kernel_rfl) rfl (fun K hK => ?_)
    go_simp
    go_at_call 43
    refine (HN.out _).mono ?_
    rintro e wn ⟨rfl, hbn⟩
    have hbx := HBN.out.trans (hbn.mono HBN.out.size)
    clear HBN hbn
    have HBN := Lib.hid hbx
    clear hbx
    go_wp2_with fail
    refine hK.out _ _ ?_ (fun hHeld => ?_)
    · exact hS.out _ HBN.out
    clear hK K
    refine wpAnyE_tail 5 (by decide) rfl (by kernel_rfl) ?_
    simp only [List.drop_succ_cons, List.drop_zero]
    have hFn := HF.out.below HBN.out HF.out.lt
    obtain ⟨e0, e1⟩ := hFn.cellAt HLQ.out
    have f0 := hFn.frozenAt (q * 2)
    have f1 := hFn.frozenAt (q * 2 + 1)
    obtain ⟨p0, p1, -, -⟩ := ((HO1.out.below HBN.out HO1.out.lt).far (g := g) (by omega) : Box ((wn.setCell ⟨g, q * 2, none⟩ (.int .i64 ux)).setCell ⟨g, q * 2 + 1, none⟩ (.int .i64 uy)) _ _ _)
    obtain ⟨r0, r1, g0, g1⟩ := ((HR1.out.below HBN.out HR1.out.lt).far (g := g) (by omega) : Box ((wn.setCell ⟨g, q * 2, none⟩ (.int .i64 ux)).setCell ⟨g, q * 2 + 1, none⟩ (.int .i64 uy)) _ _ _)
    have HSET := Lib.hid (hFn.set q ux uy)
    have hb0 := HB1.out.trans (HBN.out.mono HB1.out.size)
    have hb1 := Lib.hid ((hb0.setCell (p := ⟨g, q * 2, none⟩) (by show w.heap.size ≤ g; omega) (.int .i64 ux)).setCell (p := ⟨g, q * 2 + 1, none⟩) (by show w.heap.size ≤ g; omega) (.int .i64 uy))
    clear hFn hb0 o0 o1
    go_wp2_with fail
    have hb2 := below_put2 hb1.out (b := w.heap.size + 1 + 1) (by omega) (.bool on) (.slice (some ⟨g, 0, none⟩) m cap')
    refine bodyPost_ret (v := .agg #[.bool on, .slice (some ⟨g, 0, none⟩) m cap']) (by simp [results, Try.results20, go_sem, r0, r1]) rfl ⟨_, cap', rfl, ?_, hb2⟩
    rw [← HP.out]
    exact ⟨(HSET.out.block (heap_put2 _ _ _ _ _ (by omega))).fis, by rw [List.length_set]; exact HLEN.out⟩
  · have hP : L = l' := by
      rw [← hl']; unfold putG; rw [if_neg (by rw [hlen]; exact hin)]
    subst hP
    obtain ⟨o0, o1, -, -⟩ := id HO1.out
    obtain ⟨r0, r1, f0, f1⟩ := id HR1.out
    have hb2 := Lib.hid (below_put2 HB1.out (b := w.heap.size + 1 + 1) (by omega) (.bool on) (.slice a' m cap'))
    have hor : i < 0 ∨ (0 ≤ i ∧ (m : Int) ≤ i) := by omega
    clear hin hl' HN HLT
    rcases hor with h0 | ⟨h0, h1⟩
    all_goals
      go_wp2_with fail
      have hfe : FE ((W2.setCell ⟨w.heap.size + 1 + 1, 0, none⟩ (.bool on)).setCell ⟨w.heap.size + 1 + 1, 1, none⟩ (.slice a' m cap')) a' m L := ⟨(HOW.out.block (Nat.le_refl _) (fun g h1 _ => heap_put2 _ _ _ _ _ (by omega))).fis, HLEN.out⟩
      refine bodyPost_ret (v := .agg #[.bool on, .slice a' m cap']) (by simp [results, Try.results20, go_sem, r0, r1]) rfl ?_
      first
        | exact ⟨a', cap', rfl, hfe, hb2.out⟩
        | exact ⟨a', ⟨cap', rfl⟩, hfe, hb2.out⟩

end Go.Proofs.Ytcmncclibhjepaa