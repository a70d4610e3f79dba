import Derived.Test.YtjlofjoekpoepaaDoorRd
import Derived.Test.YtjlofjoekpoepaaDoorRf
import Derived.Test.YtjlofjoekpoepaaDoorCc
namespace Go.Proofs.YtjlofjoekpoepaaDoor
open Go Go.RowKit Go.Sort

theorem sane_facts (n : Int) (ws : List Nat) (hB : WB ws) : (0 < nrm n ws → nrmW n ws = ws) ∧ (0 < nrm n ws → nrm n ws ≤ 64 * ws.length) := by
  have hok := nrm_ok (n := n) hB
  have hsame : 0 < nrm n ws → nrmW n ws = ws := by unfold nrm nrmW; split <;> simp
  refine ⟨hsame, fun h => ?_⟩
  have e1 := hok.len
  rw [hsame h] at e1
  rw [e1]; unfold wcount; omega

theorem bit_nrm {B : Nat} (n : Int) (a : Option Addr) (ws : List Nat) (cap : Nat) (W : World) (j : Nat) (hw : Wd B W a ws) (hB : WB ws) (hl : ws.length ≤ 30) (hj : j < nrm n ws) :
    Calls Tryd.prog 42 #[.slice a ws.length cap, .int .i64 (j : Int)] W fun e w' => e = .returned (.bool (bitAt (nrmW n ws) j)) ∧ w' = W := by
  have h0 : 0 < nrm n ws := by omega
  obtain ⟨e, hle⟩ := sane_facts n ws hB
  rw [e h0]
  exact bit_ref a ws cap j W hw hB hl (by have := hle h0; omega)


set_option maxRecDepth 100000 in
set_option maxHeartbeats 4000000 in
theorem pick0_ref (n1 : Int) (a1 : Option Addr) (ws1 : List Nat) (cap1 : Nat) (n2 : Int) (a2 : Option Addr) (ws2 : List Nat) (cap2 : Nat) (w : World) (hWd1 : Wd w.heap.size w a1 ws1) (hWB1 : WB ws1) (hl1 : ws1.length ≤ 30) (hWd2 : Wd w.heap.size w a2 ws2) (hWB2 : WB ws2) (hl2 : ws2.length ≤ 30)
    (k m : Nat) (us vs : List Nat) (hk : nrm n1 ws1 = k) (hm : nrm n2 ws2 = m) (hus : nrmW n1 ws1 = us) (hvs : nrmW n2 ws2 = vs) (N K : Nat) (hN : max k m = N) (hK : wcount N = K) (p : Nat → Bool) (hp : ∀ i, p i = (fun x y => x || y) (bitAt us i) (bitAt vs i)) :
    Calls Tryd.prog 54 #[.agg #[.int .i64 n1, .slice a1 ws1.length cap1], .agg #[.int .i64 n2, .slice a2 ws2.length cap2], .int .i64 0] w fun e w' =>
      ∃ g, e = .returned (.agg #[.int .i64 (N : Int), .slice (some ⟨g, 0, none⟩) K K]) ∧ Fresh w.heap.size w' g (ofW N ((told p N).map fun (x : Nat) => (x : Int))) ∧ Below w.heap.size w w' := by
  have hok1 := nrm_ok (n := n1) hWB1
  have hok2 := nrm_ok (n := n2) hWB2
  have cA : Hid (∀ (W : World) (j : Nat), Below w.heap.size w W → j < k → Calls Tryd.prog 42 #[.slice a1 ws1.length cap1, .int .i64 (j : Int)] W fun e w' => e = .returned (.bool (bitAt us j)) ∧ w' = W) := fun W j hw hj => by
    rw [← hus]; exact bit_nrm n1 a1 ws1 cap1 W j (hWd1.below hw) hWB1 hl1 (by omega)
  have cB : Hid (∀ (W : World) (j : Nat), Below w.heap.size w W → j < m → Calls Tryd.prog 42 #[.slice a2 ws2.length cap2, .int .i64 (j : Int)] W fun e w' => e = .returned (.bool (bitAt vs j)) ∧ w' = W) := fun W j hw hj => by
    rw [← hvs]; exact bit_nrm n2 a2 ws2 cap2 W j (hWd2.below hw) hWB2 hl2 (by omega)
  have sA : Hid (∀ W, Below w.heap.size w W → Calls Tryd.prog 41 #[.agg #[.int .i64 n1, .slice a1 ws1.length cap1]] W fun e w' => e = .returned (.int .i64 (k : Int)) ∧ Below W.heap.size W w') := fun W hw => by
    rw [← hk]; exact size_ref n1 a1 ws1 cap1 W ((hWd1.below hw).mono hw.size) hWB1 hl1
  have sB : Hid (∀ W, Below w.heap.size w W → Calls Tryd.prog 41 #[.agg #[.int .i64 n2, .slice a2 ws2.length cap2]] W fun e w' => e = .returned (.int .i64 (m : Int)) ∧ Below W.heap.size W w') := fun W hw => by
    rw [← hm]; exact size_ref n2 a2 ws2 cap2 W ((hWd2.below hw).mono hw.size) hWB2 hl2
  rw [hk, hus] at hok1
  rw [hm, hvs] at hok2
  obtain ⟨L1, hL1⟩ : ∃ L, ws1.length = L := ⟨_, rfl⟩
  obtain ⟨L2, hL2⟩ : ∃ L, ws2.length = L := ⟨_, rfl⟩
  rw [hL1] at cA sA
  rw [hL2] at cB sB
  rw [hL1, hL2]
  have hNl : N ≤ 1024 := by have := hok1.le; have := hok2.le; omega
  have hcl : clampN (N : Int) = N := by unfold clampN; split <;> (try split) <;> omega
  have HP := Lib.hid hp
  have HO1 := Lib.hid hok1
  have HO2 := Lib.hid hok2
  have HKK := Lib.hid hK
  have HCL := Lib.hid hcl
  have hmx : N = if k < m then m else k := by split <;> omega
  have hkN : k ≤ N := by omega
  have hmN : m ≤ N := by omega
  clear hWd1 hWd2 hWB1 hWB2 hl1 hl2 hk hm hus hvs hN hK hp hok1 hok2 hL1 hL2 hcl
  obtain ⟨i0, hi, hz0, hz1, hz2⟩ := info_parts Tryd_info3
  by_cases hkm : k < m
  · have e : N = m := by rw [hmx, if_pos hkm]
    subst e
    have hki : (k : Int) < (N : Int) := by omega
    clear hmx hkm
    have hW1 : Below w.heap.size w (((w.alloc (.cells #[.int .i64 n1, .slice a1 L1 cap1] 24)).alloc (.cells #[.int .i64 n2, .slice a2 L2 cap2] 24)).alloc (.cells #[.int .i64 0, .slice none 0 0] 24)) := (((Below.refl _ _).alloc (Nat.le_refl _) _).alloc (by simp) _).alloc (by simp <;> omega) _
    have BA := ((Box.new w (.int .i64 n1) (.slice a1 L1 cap1) 24).alloc (.cells #[.int .i64 n2, .slice a2 L2 cap2] 24)).alloc (.cells #[.int .i64 0, .slice none 0 0] 24)
    have BB := (Box.new (w.alloc (.cells #[.int .i64 n1, .slice a1 L1 cap1] 24)) (.int .i64 n2) (.slice a2 L2 cap2) 24).alloc (.cells #[.int .i64 0, .slice none 0 0] 24)
    have BR := Box.new ((w.alloc (.cells #[.int .i64 n1, .slice a1 L1 cap1] 24)).alloc (.cells #[.int .i64 n2, .slice a2 L2 cap2] 24)) (.int .i64 0) (.slice none 0 0) 24
    simp only [World.size_alloc] at BB BR
    generalize hW : ((w.alloc (.cells #[.int .i64 n1, .slice a1 L1 cap1] 24)).alloc (.cells #[.int .i64 n2, .slice a2 L2 cap2] 24)).alloc (.cells #[.int .i64 0, .slice none 0 0] 24) = W1 at *
    have HA := Lib.hid BA
    have HB := Lib.hid BB
    have HR := Lib.hid BR
    have HW := Lib.hid hW1
    obtain ⟨x0, x1, -, -⟩ := BA
    clear BB BR hW1
    go_enter Tryd.func54, Tryd.ntmps54
    go_wp2_with fail
    refine (sA.out _ HW.out).mono ?_
    clear x0 x1 hW
    rintro e w1 ⟨rfl, hb⟩
    have HA1 := Lib.hid (HA.out.below hb HA.out.lt)
    have HB1 := Lib.hid (HB.out.below hb HB.out.lt)
    have HR1 := Lib.hid (HR.out.below hb HR.out.lt)
    have HW1 := Lib.hid (HW.out.trans (hb.mono HW.out.size))
    clear HA HB HR HW hb
    obtain ⟨x0, x1, -, -⟩ := id HB1.out
    go_wp2_with fail
    refine (sB.out _ HW1.out).mono ?_
    clear x0 x1
    rintro e w2 ⟨rfl, hb⟩
    have HA := Lib.hid (HA1.out.below hb HA1.out.lt)
    have HB := Lib.hid (HB1.out.below hb HB1.out.lt)
    have HR := Lib.hid (HR1.out.below hb HR1.out.lt)
    have HW := Lib.hid (HW1.out.trans (hb.mono HW1.out.size))
    clear HA1 HB1 HR1 HW1 hb sA sB
    go_wp2_with fail
    go_loopw [10, 11] (fun v i wr => ∃ q : Nat, q ≤ N ∧ i = .int .i64 q ∧ Hid (wr.ownsRow w2.heap.size 3 1 v (told p q).length ((told p q).map encI)) ∧ Hid (Below w2.heap.size w2 wr)) (fun _ i _ => N - (intOf i).toNat)
    case atStart => exact ⟨0, Nat.zero_le _, rfl, World.ownsRow_nil _ _ _ _, Below.refl _ _⟩
    case round =>
      obtain ⟨q, hq, rfl, hown, hBw⟩ := hrel
      have hWr := HW.out.trans (hBw.out.mono HW.out.size)
      obtain ⟨x0, x1, -, -⟩ := HA.out.below hBw.out HA.out.lt
      obtain ⟨y0, y1, -, -⟩ := HB.out.below hBw.out HB.out.lt
      by_cases hlt : q < N
      · have hqi : (q : Int) < (N : Int) := by omega
        have htl := told_le p q
        have h63 : (told p q).length + 1 ≤ maxLen := by unfold maxLen; omega
        have hby : ((told p q).length + 1) * 8 ≤ 140737488355328 := by omega
        have hqm : q < N := hlt
        by_cases hqk : q < k
        · skip
          have cjA := Lib.hid (cA.out wr q hWr hqk)
          have dk : (q : Int) < (k : Int) := by omega
          have cjB := Lib.hid (cB.out wr q hWr hqm)
          have dm : (q : Int) < (N : Int) := by omega
          obtain ⟨bu, hbu⟩ : ∃ b, Hid (bitAt us q = b) := ⟨_, Lib.hid rfl⟩
          obtain ⟨bv, hbv⟩ : ∃ b, Hid (bitAt vs q = b) := ⟨_, Lib.hid rfl⟩
          rw [hbu.out] at cjA
          rw [hbv.out] at cjB
          clear hWr
          cases bu with
          | true =>
            cases bv with
            | true =>
              have tokA : True := trivial
              have tokB : True := trivial
              have HPQ : Hid (p q = true) := by show _ = _; rw [HP.out, hbu.out, hbv.out]; rfl
              go_wp2_with (first
                | (have _t := tokA; go_at_call 42; refine cjA.out.mono ?_; clear _t tokA; rintro e w3 ⟨rfl, rfl⟩)
                | (have _t := tokB; go_at_call 42; refine cjB.out.mono ?_; clear _t tokB; rintro e w3 ⟨rfl, rfl⟩)
                | (at_builtin; refine wpList_append_own _ rfl _ _ 25 rfl w2.heap.size 3 i0 (.int .i64 0) 1 8 Tryd.underlying25 hi hz0 hz1 hz2 rfl (by decide) _ _ _ rfl (hown.out.alloc _) ⟨_, 0, none⟩ 1 1 [.int .i64 (q : Int)] rfl rfl (cell_one_new _ _ _) (by simp [Value.oneCell']) h63 hby (by have := hBw.out.size; simp; omega) ?_; intro v' w4 hown' hgrow _; have HO := Lib.hid hown'; have HG := Lib.hid hgrow; clear hown' hgrow))
              go_roundw
              case rel =>
                have e := told_succ p q
                rw [HPQ.out, if_pos rfl] at e
                refine ⟨q + 1, by omega, by go_num, ?_, ?_⟩
                · show w4.ownsRow _ 3 1 _ (told p (q + 1)).length ((told p (q + 1)).map encI)
                  rw [e]
                  simpa [encI] using HO.out
                · exact owns_grown (hBw.out.alloc hBw.out.size _) (hown.out.alloc _) HG.out (by have := hBw.out.size; simp; omega)
              case measure => simp [intOf]; omega
            | false =>
              have tokA : True := trivial
              have tokB : True := trivial
              have HPQ : Hid (p q = true) := by show _ = _; rw [HP.out, hbu.out, hbv.out]; rfl
              go_wp2_with (first
                | (have _t := tokA; go_at_call 42; refine cjA.out.mono ?_; clear _t tokA; rintro e w3 ⟨rfl, rfl⟩)
                | (have _t := tokB; go_at_call 42; refine cjB.out.mono ?_; clear _t tokB; rintro e w3 ⟨rfl, rfl⟩)
                | (at_builtin; refine wpList_append_own _ rfl _ _ 25 rfl w2.heap.size 3 i0 (.int .i64 0) 1 8 Tryd.underlying25 hi hz0 hz1 hz2 rfl (by decide) _ _ _ rfl (hown.out.alloc _) ⟨_, 0, none⟩ 1 1 [.int .i64 (q : Int)] rfl rfl (cell_one_new _ _ _) (by simp [Value.oneCell']) h63 hby (by have := hBw.out.size; simp; omega) ?_; intro v' w4 hown' hgrow _; have HO := Lib.hid hown'; have HG := Lib.hid hgrow; clear hown' hgrow))
              go_roundw
              case rel =>
                have e := told_succ p q
                rw [HPQ.out, if_pos rfl] at e
                refine ⟨q + 1, by omega, by go_num, ?_, ?_⟩
                · show w4.ownsRow _ 3 1 _ (told p (q + 1)).length ((told p (q + 1)).map encI)
                  rw [e]
                  simpa [encI] using HO.out
                · exact owns_grown (hBw.out.alloc hBw.out.size _) (hown.out.alloc _) HG.out (by have := hBw.out.size; simp; omega)
              case measure => simp [intOf]; omega
          | false =>
            cases bv with
            | true =>
              have tokA : True := trivial
              have tokB : True := trivial
              have HPQ : Hid (p q = true) := by show _ = _; rw [HP.out, hbu.out, hbv.out]; rfl
              go_wp2_with (first
                | (have _t := tokA; go_at_call 42; refine cjA.out.mono ?_; clear _t tokA; rintro e w3 ⟨rfl, rfl⟩)
                | (have _t := tokB; go_at_call 42; refine cjB.out.mono ?_; clear _t tokB; rintro e w3 ⟨rfl, rfl⟩)
                | (at_builtin; refine wpList_append_own _ rfl _ _ 25 rfl w2.heap.size 3 i0 (.int .i64 0) 1 8 Tryd.underlying25 hi hz0 hz1 hz2 rfl (by decide) _ _ _ rfl (hown.out.alloc _) ⟨_, 0, none⟩ 1 1 [.int .i64 (q : Int)] rfl rfl (cell_one_new _ _ _) (by simp [Value.oneCell']) h63 hby (by have := hBw.out.size; simp; omega) ?_; intro v' w4 hown' hgrow _; have HO := Lib.hid hown'; have HG := Lib.hid hgrow; clear hown' hgrow))
              go_roundw
              case rel =>
                have e := told_succ p q
                rw [HPQ.out, if_pos rfl] at e
                refine ⟨q + 1, by omega, by go_num, ?_, ?_⟩
                · show w4.ownsRow _ 3 1 _ (told p (q + 1)).length ((told p (q + 1)).map encI)
                  rw [e]
                  simpa [encI] using HO.out
                · exact owns_grown (hBw.out.alloc hBw.out.size _) (hown.out.alloc _) HG.out (by have := hBw.out.size; simp; omega)
              case measure => simp [intOf]; omega
            | false =>
              have tokA : True := trivial
              have tokB : True := trivial
              have HPQ : Hid (p q = false) := by show _ = _; rw [HP.out, hbu.out, hbv.out]; rfl
              go_wp2_with (first
                | (have _t := tokA; go_at_call 42; refine cjA.out.mono ?_; clear _t tokA; rintro e w3 ⟨rfl, rfl⟩)
                | (have _t := tokB; go_at_call 42; refine cjB.out.mono ?_; clear _t tokB; rintro e w3 ⟨rfl, rfl⟩))
              go_roundw
              case rel =>
                have e := told_succ p q
                rw [HPQ.out, if_neg (by simp), List.append_nil] at e
                exact ⟨q + 1, by omega, by go_num, by rw [e]; exact hown, hBw⟩
              case measure => simp [intOf]; omega
        · skip
          have dk : ¬ (q : Int) < (k : Int) := by omega
          have cjB := Lib.hid (cB.out wr q hWr hqm)
          have dm : (q : Int) < (N : Int) := by omega
          obtain ⟨bu, hbu⟩ : ∃ b, Hid (bitAt us q = b) := ⟨_, Lib.hid rfl⟩
          obtain ⟨bv, hbv⟩ : ∃ b, Hid (bitAt vs q = b) := ⟨_, Lib.hid rfl⟩
          obtain rfl : bu = false := hbu.out.symm.trans (HO1.out.clear (by omega))
          rw [hbv.out] at cjB
          clear hWr
          cases bv with
          | true =>
            have tokB : True := trivial
            have HPQ : Hid (p q = true) := by show _ = _; rw [HP.out, hbu.out, hbv.out]; rfl
            go_wp2_with (first
              | (have _t := tokB; go_at_call 42; refine cjB.out.mono ?_; clear _t tokB; rintro e w3 ⟨rfl, rfl⟩)
              | (at_builtin; refine wpList_append_own _ rfl _ _ 25 rfl w2.heap.size 3 i0 (.int .i64 0) 1 8 Tryd.underlying25 hi hz0 hz1 hz2 rfl (by decide) _ _ _ rfl (hown.out.alloc _) ⟨_, 0, none⟩ 1 1 [.int .i64 (q : Int)] rfl rfl (cell_one_new _ _ _) (by simp [Value.oneCell']) h63 hby (by have := hBw.out.size; simp; omega) ?_; intro v' w4 hown' hgrow _; have HO := Lib.hid hown'; have HG := Lib.hid hgrow; clear hown' hgrow))
            go_roundw
            case rel =>
              have e := told_succ p q
              rw [HPQ.out, if_pos rfl] at e
              refine ⟨q + 1, by omega, by go_num, ?_, ?_⟩
              · show w4.ownsRow _ 3 1 _ (told p (q + 1)).length ((told p (q + 1)).map encI)
                rw [e]
                simpa [encI] using HO.out
              · exact owns_grown (hBw.out.alloc hBw.out.size _) (hown.out.alloc _) HG.out (by have := hBw.out.size; simp; omega)
            case measure => simp [intOf]; omega
          | false =>
            have tokB : True := trivial
            have HPQ : Hid (p q = false) := by show _ = _; rw [HP.out, hbu.out, hbv.out]; rfl
            go_wp2_with (first
              | (have _t := tokB; go_at_call 42; refine cjB.out.mono ?_; clear _t tokB; rintro e w3 ⟨rfl, rfl⟩))
            go_roundw
            case rel =>
              have e := told_succ p q
              rw [HPQ.out, if_neg (by simp), List.append_nil] at e
              exact ⟨q + 1, by omega, by go_num, by rw [e]; exact hown, hBw⟩
            case measure => simp [intOf]; omega
      · obtain rfl : q = N := by omega
        obtain ⟨al, cl, rfl, hIs⟩ := is_of_owns hown.out
        have htl := told_le p q
        have HOf := Lib.hid (Of_ref (q : Int) al ((told p q).map fun (x : Nat) => (x : Int)) cl wr hIs (by rw [List.length_map]; omega))
        rw [HCL.out, HKK.out, List.length_map] at HOf
        obtain ⟨z0, z1, f0, f1⟩ := HR.out.below hBw.out HR.out.lt
        have HRr := Lib.hid (HR.out.below hBw.out HR.out.lt)
        have HWr := Lib.hid hWr
        obtain ⟨T, hT⟩ : ∃ T, (told p q).length = T := ⟨_, rfl⟩
        rw [hT] at HOf
        clear hIs hWr
        go_wp2_with fail
        refine HOf.out.mono ?_
        clear HOf z0 z1 f0 f1 x0 x1 y0 y1
        rintro e w5 ⟨g, rfl, hF, hb⟩
        have hg := hF.1
        have HF := Lib.hid hF
        have HB5 := Lib.hid (HWr.out.trans (hb.mono HWr.out.size))
        have hRlt := HRr.out.lt
        obtain ⟨z0, z1, f0, f1⟩ := HRr.out.below hb HRr.out.lt
        have hsz := HWr.out.size
        clear hF hb
        go_wp2_with fail
        exact bodyPost_ret (v := .agg #[.int .i64 (q : Int), .slice (some ⟨g, 0, none⟩) K K]) (by simp [results, Tryd.results54, go_sem, z0, z1]) rfl
          ⟨g, rfl, (HF.out.base hsz).block (heap_put2 _ _ _ _ _ (by omega)), below_put2 HB5.out (by omega) _ _⟩
  · have e : N = k := by rw [hmx, if_neg hkm]
    subst e
    have hki : ¬ (N : Int) < (m : Int) := by omega
    clear hmx hkm
    have hW1 : Below w.heap.size w (((w.alloc (.cells #[.int .i64 n1, .slice a1 L1 cap1] 24)).alloc (.cells #[.int .i64 n2, .slice a2 L2 cap2] 24)).alloc (.cells #[.int .i64 0, .slice none 0 0] 24)) := (((Below.refl _ _).alloc (Nat.le_refl _) _).alloc (by simp) _).alloc (by simp <;> omega) _
    have BA := ((Box.new w (.int .i64 n1) (.slice a1 L1 cap1) 24).alloc (.cells #[.int .i64 n2, .slice a2 L2 cap2] 24)).alloc (.cells #[.int .i64 0, .slice none 0 0] 24)
    have BB := (Box.new (w.alloc (.cells #[.int .i64 n1, .slice a1 L1 cap1] 24)) (.int .i64 n2) (.slice a2 L2 cap2) 24).alloc (.cells #[.int .i64 0, .slice none 0 0] 24)
    have BR := Box.new ((w.alloc (.cells #[.int .i64 n1, .slice a1 L1 cap1] 24)).alloc (.cells #[.int .i64 n2, .slice a2 L2 cap2] 24)) (.int .i64 0) (.slice none 0 0) 24
    simp only [World.size_alloc] at BB BR
    generalize hW : ((w.alloc (.cells #[.int .i64 n1, .slice a1 L1 cap1] 24)).alloc (.cells #[.int .i64 n2, .slice a2 L2 cap2] 24)).alloc (.cells #[.int .i64 0, .slice none 0 0] 24) = W1 at *
    have HA := Lib.hid BA
    have HB := Lib.hid BB
    have HR := Lib.hid BR
    have HW := Lib.hid hW1
    obtain ⟨x0, x1, -, -⟩ := BA
    clear BB BR hW1
    go_enter Tryd.func54, Tryd.ntmps54
    go_wp2_with fail
    refine (sA.out _ HW.out).mono ?_
    clear x0 x1 hW
    rintro e w1 ⟨rfl, hb⟩
    have HA1 := Lib.hid (HA.out.below hb HA.out.lt)
    have HB1 := Lib.hid (HB.out.below hb HB.out.lt)
    have HR1 := Lib.hid (HR.out.below hb HR.out.lt)
    have HW1 := Lib.hid (HW.out.trans (hb.mono HW.out.size))
    clear HA HB HR HW hb
    obtain ⟨x0, x1, -, -⟩ := id HB1.out
    go_wp2_with fail
    refine (sB.out _ HW1.out).mono ?_
    clear x0 x1
    rintro e w2 ⟨rfl, hb⟩
    have HA := Lib.hid (HA1.out.below hb HA1.out.lt)
    have HB := Lib.hid (HB1.out.below hb HB1.out.lt)
    have HR := Lib.hid (HR1.out.below hb HR1.out.lt)
    have HW := Lib.hid (HW1.out.trans (hb.mono HW1.out.size))
    clear HA1 HB1 HR1 HW1 hb sA sB
    go_wp2_with fail
    go_loopw [10, 11] (fun v i wr => ∃ q : Nat, q ≤ N ∧ i = .int .i64 q ∧ Hid (wr.ownsRow w2.heap.size 3 1 v (told p q).length ((told p q).map encI)) ∧ Hid (Below w2.heap.size w2 wr)) (fun _ i _ => N - (intOf i).toNat)
    case atStart => exact ⟨0, Nat.zero_le _, rfl, World.ownsRow_nil _ _ _ _, Below.refl _ _⟩
    case round =>
      obtain ⟨q, hq, rfl, hown, hBw⟩ := hrel
      have hWr := HW.out.trans (hBw.out.mono HW.out.size)
      obtain ⟨x0, x1, -, -⟩ := HA.out.below hBw.out HA.out.lt
      obtain ⟨y0, y1, -, -⟩ := HB.out.below hBw.out HB.out.lt
      by_cases hlt : q < N
      · have hqi : (q : Int) < (N : Int) := by omega
        have htl := told_le p q
        have h63 : (told p q).length + 1 ≤ maxLen := by unfold maxLen; omega
        have hby : ((told p q).length + 1) * 8 ≤ 140737488355328 := by omega
        have hqk : q < N := hlt
        by_cases hqm : q < m
        · skip
          have cjA := Lib.hid (cA.out wr q hWr hqk)
          have dk : (q : Int) < (N : Int) := by omega
          have cjB := Lib.hid (cB.out wr q hWr hqm)
          have dm : (q : Int) < (m : Int) := by omega
          obtain ⟨bu, hbu⟩ : ∃ b, Hid (bitAt us q = b) := ⟨_, Lib.hid rfl⟩
          obtain ⟨bv, hbv⟩ : ∃ b, Hid (bitAt vs q = b) := ⟨_, Lib.hid rfl⟩
          rw [hbu.out] at cjA
          rw [hbv.out] at cjB
          clear hWr
          cases bu with
          | true =>
            cases bv with
            | true =>
              have tokA : True := trivial
              have tokB : True := trivial
              have HPQ : Hid (p q = true) := by show _ = _; rw [HP.out, hbu.out, hbv.out]; rfl
              go_wp2_with (first
                | (have _t := tokA; go_at_call 42; refine cjA.out.mono ?_; clear _t tokA; rintro e w3 ⟨rfl, rfl⟩)
                | (have _t := tokB; go_at_call 42; refine cjB.out.mono ?_; clear _t tokB; rintro e w3 ⟨rfl, rfl⟩)
                | (at_builtin; refine wpList_append_own _ rfl _ _ 25 rfl w2.heap.size 3 i0 (.int .i64 0) 1 8 Tryd.underlying25 hi hz0 hz1 hz2 rfl (by decide) _ _ _ rfl (hown.out.alloc _) ⟨_, 0, none⟩ 1 1 [.int .i64 (q : Int)] rfl rfl (cell_one_new _ _ _) (by simp [Value.oneCell']) h63 hby (by have := hBw.out.size; simp; omega) ?_; intro v' w4 hown' hgrow _; have HO := Lib.hid hown'; have HG := Lib.hid hgrow; clear hown' hgrow))
              go_roundw
              case rel =>
                have e := told_succ p q
                rw [HPQ.out, if_pos rfl] at e
                refine ⟨q + 1, by omega, by go_num, ?_, ?_⟩
                · show w4.ownsRow _ 3 1 _ (told p (q + 1)).length ((told p (q + 1)).map encI)
                  rw [e]
                  simpa [encI] using HO.out
                · exact owns_grown (hBw.out.alloc hBw.out.size _) (hown.out.alloc _) HG.out (by have := hBw.out.size; simp; omega)
              case measure => simp [intOf]; omega
            | false =>
              have tokA : True := trivial
              have tokB : True := trivial
              have HPQ : Hid (p q = true) := by show _ = _; rw [HP.out, hbu.out, hbv.out]; rfl
              go_wp2_with (first
                | (have _t := tokA; go_at_call 42; refine cjA.out.mono ?_; clear _t tokA; rintro e w3 ⟨rfl, rfl⟩)
                | (have _t := tokB; go_at_call 42; refine cjB.out.mono ?_; clear _t tokB; rintro e w3 ⟨rfl, rfl⟩)
                | (at_builtin; refine wpList_append_own _ rfl _ _ 25 rfl w2.heap.size 3 i0 (.int .i64 0) 1 8 Tryd.underlying25 hi hz0 hz1 hz2 rfl (by decide) _ _ _ rfl (hown.out.alloc _) ⟨_, 0, none⟩ 1 1 [.int .i64 (q : Int)] rfl rfl (cell_one_new _ _ _) (by simp [Value.oneCell']) h63 hby (by have := hBw.out.size; simp; omega) ?_; intro v' w4 hown' hgrow _; have HO := Lib.hid hown'; have HG := Lib.hid hgrow; clear hown' hgrow))
              go_roundw
              case rel =>
                have e := told_succ p q
                rw [HPQ.out, if_pos rfl] at e
                refine ⟨q + 1, by omega, by go_num, ?_, ?_⟩
                · show w4.ownsRow _ 3 1 _ (told p (q + 1)).length ((told p (q + 1)).map encI)
                  rw [e]
                  simpa [encI] using HO.out
                · exact owns_grown (hBw.out.alloc hBw.out.size _) (hown.out.alloc _) HG.out (by have := hBw.out.size; simp; omega)
              case measure => simp [intOf]; omega
          | false =>
            cases bv with
            | true =>
              have tokA : True := trivial
              have tokB : True := trivial
              have HPQ : Hid (p q = true) := by show _ = _; rw [HP.out, hbu.out, hbv.out]; rfl
              go_wp2_with (first
                | (have _t := tokA; go_at_call 42; refine cjA.out.mono ?_; clear _t tokA; rintro e w3 ⟨rfl, rfl⟩)
                | (have _t := tokB; go_at_call 42; refine cjB.out.mono ?_; clear _t tokB; rintro e w3 ⟨rfl, rfl⟩)
                | (at_builtin; refine wpList_append_own _ rfl _ _ 25 rfl w2.heap.size 3 i0 (.int .i64 0) 1 8 Tryd.underlying25 hi hz0 hz1 hz2 rfl (by decide) _ _ _ rfl (hown.out.alloc _) ⟨_, 0, none⟩ 1 1 [.int .i64 (q : Int)] rfl rfl (cell_one_new _ _ _) (by simp [Value.oneCell']) h63 hby (by have := hBw.out.size; simp; omega) ?_; intro v' w4 hown' hgrow _; have HO := Lib.hid hown'; have HG := Lib.hid hgrow; clear hown' hgrow))
              go_roundw
              case rel =>
                have e := told_succ p q
                rw [HPQ.out, if_pos rfl] at e
                refine ⟨q + 1, by omega, by go_num, ?_, ?_⟩
                · show w4.ownsRow _ 3 1 _ (told p (q + 1)).length ((told p (q + 1)).map encI)
                  rw [e]
                  simpa [encI] using HO.out
                · exact owns_grown (hBw.out.alloc hBw.out.size _) (hown.out.alloc _) HG.out (by have := hBw.out.size; simp; omega)
              case measure => simp [intOf]; omega
            | false =>
              have tokA : True := trivial
              have tokB : True := trivial
              have HPQ : Hid (p q = false) := by show _ = _; rw [HP.out, hbu.out, hbv.out]; rfl
              go_wp2_with (first
                | (have _t := tokA; go_at_call 42; refine cjA.out.mono ?_; clear _t tokA; rintro e w3 ⟨rfl, rfl⟩)
                | (have _t := tokB; go_at_call 42; refine cjB.out.mono ?_; clear _t tokB; rintro e w3 ⟨rfl, rfl⟩))
              go_roundw
              case rel =>
                have e := told_succ p q
                rw [HPQ.out, if_neg (by simp), List.append_nil] at e
                exact ⟨q + 1, by omega, by go_num, by rw [e]; exact hown, hBw⟩
              case measure => simp [intOf]; omega
        · skip
          have cjA := Lib.hid (cA.out wr q hWr hqk)
          have dk : (q : Int) < (N : Int) := by omega
          have dm : ¬ (q : Int) < (m : Int) := by omega
          obtain ⟨bu, hbu⟩ : ∃ b, Hid (bitAt us q = b) := ⟨_, Lib.hid rfl⟩
          obtain ⟨bv, hbv⟩ : ∃ b, Hid (bitAt vs q = b) := ⟨_, Lib.hid rfl⟩
          rw [hbu.out] at cjA
          obtain rfl : bv = false := hbv.out.symm.trans (HO2.out.clear (by omega))
          clear hWr
          cases bu with
          | true =>
            have tokA : True := trivial
            have HPQ : Hid (p q = true) := by show _ = _; rw [HP.out, hbu.out, hbv.out]; rfl
            go_wp2_with (first
              | (have _t := tokA; go_at_call 42; refine cjA.out.mono ?_; clear _t tokA; rintro e w3 ⟨rfl, rfl⟩)
              | (at_builtin; refine wpList_append_own _ rfl _ _ 25 rfl w2.heap.size 3 i0 (.int .i64 0) 1 8 Tryd.underlying25 hi hz0 hz1 hz2 rfl (by decide) _ _ _ rfl (hown.out.alloc _) ⟨_, 0, none⟩ 1 1 [.int .i64 (q : Int)] rfl rfl (cell_one_new _ _ _) (by simp [Value.oneCell']) h63 hby (by have := hBw.out.size; simp; omega) ?_; intro v' w4 hown' hgrow _; have HO := Lib.hid hown'; have HG := Lib.hid hgrow; clear hown' hgrow))
            go_roundw
            case rel =>
              have e := told_succ p q
              rw [HPQ.out, if_pos rfl] at e
              refine ⟨q + 1, by omega, by go_num, ?_, ?_⟩
              · show w4.ownsRow _ 3 1 _ (told p (q + 1)).length ((told p (q + 1)).map encI)
                rw [e]
                simpa [encI] using HO.out
              · exact owns_grown (hBw.out.alloc hBw.out.size _) (hown.out.alloc _) HG.out (by have := hBw.out.size; simp; omega)
            case measure => simp [intOf]; omega
          | false =>
            have tokA : True := trivial
            have HPQ : Hid (p q = false) := by show _ = _; rw [HP.out, hbu.out, hbv.out]; rfl
            go_wp2_with (first
              | (have _t := tokA; go_at_call 42; refine cjA.out.mono ?_; clear _t tokA; rintro e w3 ⟨rfl, rfl⟩))
            go_roundw
            case rel =>
              have e := told_succ p q
              rw [HPQ.out, if_neg (by simp), List.append_nil] at e
              exact ⟨q + 1, by omega, by go_num, by rw [e]; exact hown, hBw⟩
            case measure => simp [intOf]; omega
      · obtain rfl : q = N := by omega
        obtain ⟨al, cl, rfl, hIs⟩ := is_of_owns hown.out
        have htl := told_le p q
        have HOf := Lib.hid (Of_ref (q : Int) al ((told p q).map fun (x : Nat) => (x : Int)) cl wr hIs (by rw [List.length_map]; omega))
        rw [HCL.out, HKK.out, List.length_map] at HOf
        obtain ⟨z0, z1, f0, f1⟩ := HR.out.below hBw.out HR.out.lt
        have HRr := Lib.hid (HR.out.below hBw.out HR.out.lt)
        have HWr := Lib.hid hWr
        obtain ⟨T, hT⟩ : ∃ T, (told p q).length = T := ⟨_, rfl⟩
        rw [hT] at HOf
        clear hIs hWr
        go_wp2_with fail
        refine HOf.out.mono ?_
        clear HOf z0 z1 f0 f1 x0 x1 y0 y1
        rintro e w5 ⟨g, rfl, hF, hb⟩
        have hg := hF.1
        have HF := Lib.hid hF
        have HB5 := Lib.hid (HWr.out.trans (hb.mono HWr.out.size))
        have hRlt := HRr.out.lt
        obtain ⟨z0, z1, f0, f1⟩ := HRr.out.below hb HRr.out.lt
        have hsz := HWr.out.size
        clear hF hb
        go_wp2_with fail
        exact bodyPost_ret (v := .agg #[.int .i64 (q : Int), .slice (some ⟨g, 0, none⟩) K K]) (by simp [results, Tryd.results54, go_sem, z0, z1]) rfl
          ⟨g, rfl, (HF.out.base hsz).block (heap_put2 _ _ _ _ _ (by omega)), below_put2 HB5.out (by omega) _ _⟩

set_option maxRecDepth 100000 in
set_option maxHeartbeats 4000000 in
theorem pick1_ref (n1 : Int) (a1 : Option Addr) (ws1 : List Nat) (cap1 : Nat) (n2 : Int) (a2 : Option Addr) (ws2 : List Nat) (cap2 : Nat) (w : World) (hWd1 : Wd w.heap.size w a1 ws1) (hWB1 : WB ws1) (hl1 : ws1.length ≤ 30) (hWd2 : Wd w.heap.size w a2 ws2) (hWB2 : WB ws2) (hl2 : ws2.length ≤ 30)
    (k m : Nat) (us vs : List Nat) (hk : nrm n1 ws1 = k) (hm : nrm n2 ws2 = m) (hus : nrmW n1 ws1 = us) (hvs : nrmW n2 ws2 = vs) (N K : Nat) (hN : max k m = N) (hK : wcount N = K) (p : Nat → Bool) (hp : ∀ i, p i = (fun x y => x && !y) (bitAt us i) (bitAt vs i)) :
    Calls Tryd.prog 54 #[.agg #[.int .i64 n1, .slice a1 ws1.length cap1], .agg #[.int .i64 n2, .slice a2 ws2.length cap2], .int .i64 1] w fun e w' =>
      ∃ g, e = .returned (.agg #[.int .i64 (N : Int), .slice (some ⟨g, 0, none⟩) K K]) ∧ Fresh w.heap.size w' g (ofW N ((told p N).map fun (x : Nat) => (x : Int))) ∧ Below w.heap.size w w' := by
  have hok1 := nrm_ok (n := n1) hWB1
  have hok2 := nrm_ok (n := n2) hWB2
  have cA : Hid (∀ (W : World) (j : Nat), Below w.heap.size w W → j < k → Calls Tryd.prog 42 #[.slice a1 ws1.length cap1, .int .i64 (j : Int)] W fun e w' => e = .returned (.bool (bitAt us j)) ∧ w' = W) := fun W j hw hj => by
    rw [← hus]; exact bit_nrm n1 a1 ws1 cap1 W j (hWd1.below hw) hWB1 hl1 (by omega)
  have cB : Hid (∀ (W : World) (j : Nat), Below w.heap.size w W → j < m → Calls Tryd.prog 42 #[.slice a2 ws2.length cap2, .int .i64 (j : Int)] W fun e w' => e = .returned (.bool (bitAt vs j)) ∧ w' = W) := fun W j hw hj => by
    rw [← hvs]; exact bit_nrm n2 a2 ws2 cap2 W j (hWd2.below hw) hWB2 hl2 (by omega)
  have sA : Hid (∀ W, Below w.heap.size w W → Calls Tryd.prog 41 #[.agg #[.int .i64 n1, .slice a1 ws1.length cap1]] W fun e w' => e = .returned (.int .i64 (k : Int)) ∧ Below W.heap.size W w') := fun W hw => by
    rw [← hk]; exact size_ref n1 a1 ws1 cap1 W ((hWd1.below hw).mono hw.size) hWB1 hl1
  have sB : Hid (∀ W, Below w.heap.size w W → Calls Tryd.prog 41 #[.agg #[.int .i64 n2, .slice a2 ws2.length cap2]] W fun e w' => e = .returned (.int .i64 (m : Int)) ∧ Below W.heap.size W w') := fun W hw => by
    rw [← hm]; exact size_ref n2 a2 ws2 cap2 W ((hWd2.below hw).mono hw.size) hWB2 hl2
  rw [hk, hus] at hok1
  rw [hm, hvs] at hok2
  obtain ⟨L1, hL1⟩ : ∃ L, ws1.length = L := ⟨_, rfl⟩
  obtain ⟨L2, hL2⟩ : ∃ L, ws2.length = L := ⟨_, rfl⟩
  rw [hL1] at cA sA
  rw [hL2] at cB sB
  rw [hL1, hL2]
  have hNl : N ≤ 1024 := by have := hok1.le; have := hok2.le; omega
  have hcl : clampN (N : Int) = N := by unfold clampN; split <;> (try split) <;> omega
  have HP := Lib.hid hp
  have HO1 := Lib.hid hok1
  have HO2 := Lib.hid hok2
  have HKK := Lib.hid hK
  have HCL := Lib.hid hcl
  have hmx : N = if k < m then m else k := by split <;> omega
  have hkN : k ≤ N := by omega
  have hmN : m ≤ N := by omega
  clear hWd1 hWd2 hWB1 hWB2 hl1 hl2 hk hm hus hvs hN hK hp hok1 hok2 hL1 hL2 hcl
  obtain ⟨i0, hi, hz0, hz1, hz2⟩ := info_parts Tryd_info3
  by_cases hkm : k < m
  · have e : N = m := by rw [hmx, if_pos hkm]
    subst e
    have hki : (k : Int) < (N : Int) := by omega
    clear hmx hkm
    have hW1 : Below w.heap.size w (((w.alloc (.cells #[.int .i64 n1, .slice a1 L1 cap1] 24)).alloc (.cells #[.int .i64 n2, .slice a2 L2 cap2] 24)).alloc (.cells #[.int .i64 0, .slice none 0 0] 24)) := (((Below.refl _ _).alloc (Nat.le_refl _) _).alloc (by simp) _).alloc (by simp <;> omega) _
    have BA := ((Box.new w (.int .i64 n1) (.slice a1 L1 cap1) 24).alloc (.cells #[.int .i64 n2, .slice a2 L2 cap2] 24)).alloc (.cells #[.int .i64 0, .slice none 0 0] 24)
    have BB := (Box.new (w.alloc (.cells #[.int .i64 n1, .slice a1 L1 cap1] 24)) (.int .i64 n2) (.slice a2 L2 cap2) 24).alloc (.cells #[.int .i64 0, .slice none 0 0] 24)
    have BR := Box.new ((w.alloc (.cells #[.int .i64 n1, .slice a1 L1 cap1] 24)).alloc (.cells #[.int .i64 n2, .slice a2 L2 cap2] 24)) (.int .i64 0) (.slice none 0 0) 24
    simp only [World.size_alloc] at BB BR
    generalize hW : ((w.alloc (.cells #[.int .i64 n1, .slice a1 L1 cap1] 24)).alloc (.cells #[.int .i64 n2, .slice a2 L2 cap2] 24)).alloc (.cells #[.int .i64 0, .slice none 0 0] 24) = W1 at *
    have HA := Lib.hid BA
    have HB := Lib.hid BB
    have HR := Lib.hid BR
    have HW := Lib.hid hW1
    obtain ⟨x0, x1, -, -⟩ := BA
    clear BB BR hW1
    go_enter Tryd.func54, Tryd.ntmps54
    go_wp2_with fail
    refine (sA.out _ HW.out).mono ?_
    clear x0 x1 hW
    rintro e w1 ⟨rfl, hb⟩
    have HA1 := Lib.hid (HA.out.below hb HA.out.lt)
    have HB1 := Lib.hid (HB.out.below hb HB.out.lt)
    have HR1 := Lib.hid (HR.out.below hb HR.out.lt)
    have HW1 := Lib.hid (HW.out.trans (hb.mono HW.out.size))
    clear HA HB HR HW hb
    obtain ⟨x0, x1, -, -⟩ := id HB1.out
    go_wp2_with fail
    refine (sB.out _ HW1.out).mono ?_
    clear x0 x1
    rintro e w2 ⟨rfl, hb⟩
    have HA := Lib.hid (HA1.out.below hb HA1.out.lt)
    have HB := Lib.hid (HB1.out.below hb HB1.out.lt)
    have HR := Lib.hid (HR1.out.below hb HR1.out.lt)
    have HW := Lib.hid (HW1.out.trans (hb.mono HW1.out.size))
    clear HA1 HB1 HR1 HW1 hb sA sB
    go_wp2_with fail
    go_loopw [10, 11] (fun v i wr => ∃ q : Nat, q ≤ N ∧ i = .int .i64 q ∧ Hid (wr.ownsRow w2.heap.size 3 1 v (told p q).length ((told p q).map encI)) ∧ Hid (Below w2.heap.size w2 wr)) (fun _ i _ => N - (intOf i).toNat)
    case atStart => exact ⟨0, Nat.zero_le _, rfl, World.ownsRow_nil _ _ _ _, Below.refl _ _⟩
    case round =>
      obtain ⟨q, hq, rfl, hown, hBw⟩ := hrel
      have hWr := HW.out.trans (hBw.out.mono HW.out.size)
      obtain ⟨x0, x1, -, -⟩ := HA.out.below hBw.out HA.out.lt
      obtain ⟨y0, y1, -, -⟩ := HB.out.below hBw.out HB.out.lt
      by_cases hlt : q < N
      · have hqi : (q : Int) < (N : Int) := by omega
        have htl := told_le p q
        have h63 : (told p q).length + 1 ≤ maxLen := by unfold maxLen; omega
        have hby : ((told p q).length + 1) * 8 ≤ 140737488355328 := by omega
        have hqm : q < N := hlt
        by_cases hqk : q < k
        · skip
          have cjA := Lib.hid (cA.out wr q hWr hqk)
          have dk : (q : Int) < (k : Int) := by omega
          have cjB := Lib.hid (cB.out wr q hWr hqm)
          have dm : (q : Int) < (N : Int) := by omega
          obtain ⟨bu, hbu⟩ : ∃ b, Hid (bitAt us q = b) := ⟨_, Lib.hid rfl⟩
          obtain ⟨bv, hbv⟩ : ∃ b, Hid (bitAt vs q = b) := ⟨_, Lib.hid rfl⟩
          rw [hbu.out] at cjA
          rw [hbv.out] at cjB
          clear hWr
          cases bu with
          | true =>
            cases bv with
            | true =>
              have tokA : True := trivial
              have tokB : True := trivial
              have HPQ : Hid (p q = false) := by show _ = _; rw [HP.out, hbu.out, hbv.out]; rfl
              go_wp2_with (first
                | (have _t := tokA; go_at_call 42; refine cjA.out.mono ?_; clear _t tokA; rintro e w3 ⟨rfl, rfl⟩)
                | (have _t := tokB; go_at_call 42; refine cjB.out.mono ?_; clear _t tokB; rintro e w3 ⟨rfl, rfl⟩))
              go_roundw
              case rel =>
                have e := told_succ p q
                rw [HPQ.out, if_neg (by simp), List.append_nil] at e
                exact ⟨q + 1, by omega, by go_num, by rw [e]; exact hown, hBw⟩
              case measure => simp [intOf]; omega
            | false =>
              have tokA : True := trivial
              have tokB : True := trivial
              have HPQ : Hid (p q = true) := by show _ = _; rw [HP.out, hbu.out, hbv.out]; rfl
              go_wp2_with (first
                | (have _t := tokA; go_at_call 42; refine cjA.out.mono ?_; clear _t tokA; rintro e w3 ⟨rfl, rfl⟩)
                | (have _t := tokB; go_at_call 42; refine cjB.out.mono ?_; clear _t tokB; rintro e w3 ⟨rfl, rfl⟩)
                | (at_builtin; refine wpList_append_own _ rfl _ _ 25 rfl w2.heap.size 3 i0 (.int .i64 0) 1 8 Tryd.underlying25 hi hz0 hz1 hz2 rfl (by decide) _ _ _ rfl (hown.out.alloc _) ⟨_, 0, none⟩ 1 1 [.int .i64 (q : Int)] rfl rfl (cell_one_new _ _ _) (by simp [Value.oneCell']) h63 hby (by have := hBw.out.size; simp; omega) ?_; intro v' w4 hown' hgrow _; have HO := Lib.hid hown'; have HG := Lib.hid hgrow; clear hown' hgrow))
              go_roundw
              case rel =>
                have e := told_succ p q
                rw [HPQ.out, if_pos rfl] at e
                refine ⟨q + 1, by omega, by go_num, ?_, ?_⟩
                · show w4.ownsRow _ 3 1 _ (told p (q + 1)).length ((told p (q + 1)).map encI)
                  rw [e]
                  simpa [encI] using HO.out
                · exact owns_grown (hBw.out.alloc hBw.out.size _) (hown.out.alloc _) HG.out (by have := hBw.out.size; simp; omega)
              case measure => simp [intOf]; omega
          | false =>
            cases bv with
            | true =>
              have tokA : True := trivial
              have tokB : True := trivial
              have HPQ : Hid (p q = false) := by show _ = _; rw [HP.out, hbu.out, hbv.out]; rfl
              go_wp2_with (first
                | (have _t := tokA; go_at_call 42; refine cjA.out.mono ?_; clear _t tokA; rintro e w3 ⟨rfl, rfl⟩)
                | (have _t := tokB; go_at_call 42; refine cjB.out.mono ?_; clear _t tokB; rintro e w3 ⟨rfl, rfl⟩))
              go_roundw
              case rel =>
                have e := told_succ p q
                rw [HPQ.out, if_neg (by simp), List.append_nil] at e
                exact ⟨q + 1, by omega, by go_num, by rw [e]; exact hown, hBw⟩
              case measure => simp [intOf]; omega
            | false =>
              have tokA : True := trivial
              have tokB : True := trivial
              have HPQ : Hid (p q = false) := by show _ = _; rw [HP.out, hbu.out, hbv.out]; rfl
              go_wp2_with (first
                | (have _t := tokA; go_at_call 42; refine cjA.out.mono ?_; clear _t tokA; rintro e w3 ⟨rfl, rfl⟩)
                | (have _t := tokB; go_at_call 42; refine cjB.out.mono ?_; clear _t tokB; rintro e w3 ⟨rfl, rfl⟩))
              go_roundw
              case rel =>
                have e := told_succ p q
                rw [HPQ.out, if_neg (by simp), List.append_nil] at e
                exact ⟨q + 1, by omega, by go_num, by rw [e]; exact hown, hBw⟩
              case measure => simp [intOf]; omega
        · skip
          have dk : ¬ (q : Int) < (k : Int) := by omega
          have cjB := Lib.hid (cB.out wr q hWr hqm)
          have dm : (q : Int) < (N : Int) := by omega
          obtain ⟨bu, hbu⟩ : ∃ b, Hid (bitAt us q = b) := ⟨_, Lib.hid rfl⟩
          obtain ⟨bv, hbv⟩ : ∃ b, Hid (bitAt vs q = b) := ⟨_, Lib.hid rfl⟩
          obtain rfl : bu = false := hbu.out.symm.trans (HO1.out.clear (by omega))
          rw [hbv.out] at cjB
          clear hWr
          cases bv with
          | true =>
            have tokB : True := trivial
            have HPQ : Hid (p q = false) := by show _ = _; rw [HP.out, hbu.out, hbv.out]; rfl
            go_wp2_with (first
              | (have _t := tokB; go_at_call 42; refine cjB.out.mono ?_; clear _t tokB; rintro e w3 ⟨rfl, rfl⟩))
            go_roundw
            case rel =>
              have e := told_succ p q
              rw [HPQ.out, if_neg (by simp), List.append_nil] at e
              exact ⟨q + 1, by omega, by go_num, by rw [e]; exact hown, hBw⟩
            case measure => simp [intOf]; omega
          | false =>
            have tokB : True := trivial
            have HPQ : Hid (p q = false) := by show _ = _; rw [HP.out, hbu.out, hbv.out]; rfl
            go_wp2_with (first
              | (have _t := tokB; go_at_call 42; refine cjB.out.mono ?_; clear _t tokB; rintro e w3 ⟨rfl, rfl⟩))
            go_roundw
            case rel =>
              have e := told_succ p q
              rw [HPQ.out, if_neg (by simp), List.append_nil] at e
              exact ⟨q + 1, by omega, by go_num, by rw [e]; exact hown, hBw⟩
            case measure => simp [intOf]; omega
      · obtain rfl : q = N := by omega
        obtain ⟨al, cl, rfl, hIs⟩ := is_of_owns hown.out
        have htl := told_le p q
        have HOf := Lib.hid (Of_ref (q : Int) al ((told p q).map fun (x : Nat) => (x : Int)) cl wr hIs (by rw [List.length_map]; omega))
        rw [HCL.out, HKK.out, List.length_map] at HOf
        obtain ⟨z0, z1, f0, f1⟩ := HR.out.below hBw.out HR.out.lt
        have HRr := Lib.hid (HR.out.below hBw.out HR.out.lt)
        have HWr := Lib.hid hWr
        obtain ⟨T, hT⟩ : ∃ T, (told p q).length = T := ⟨_, rfl⟩
        rw [hT] at HOf
        clear hIs hWr
        go_wp2_with fail
        refine HOf.out.mono ?_
        clear HOf z0 z1 f0 f1 x0 x1 y0 y1
        rintro e w5 ⟨g, rfl, hF, hb⟩
        have hg := hF.1
        have HF := Lib.hid hF
        have HB5 := Lib.hid (HWr.out.trans (hb.mono HWr.out.size))
        have hRlt := HRr.out.lt
        obtain ⟨z0, z1, f0, f1⟩ := HRr.out.below hb HRr.out.lt
        have hsz := HWr.out.size
        clear hF hb
        go_wp2_with fail
        exact bodyPost_ret (v := .agg #[.int .i64 (q : Int), .slice (some ⟨g, 0, none⟩) K K]) (by simp [results, Tryd.results54, go_sem, z0, z1]) rfl
          ⟨g, rfl, (HF.out.base hsz).block (heap_put2 _ _ _ _ _ (by omega)), below_put2 HB5.out (by omega) _ _⟩
  · have e : N = k := by rw [hmx, if_neg hkm]
    subst e
    have hki : ¬ (N : Int) < (m : Int) := by omega
    clear hmx hkm
    have hW1 : Below w.heap.size w (((w.alloc (.cells #[.int .i64 n1, .slice a1 L1 cap1] 24)).alloc (.cells #[.int .i64 n2, .slice a2 L2 cap2] 24)).alloc (.cells #[.int .i64 0, .slice none 0 0] 24)) := (((Below.refl _ _).alloc (Nat.le_refl _) _).alloc (by simp) _).alloc (by simp <;> omega) _
    have BA := ((Box.new w (.int .i64 n1) (.slice a1 L1 cap1) 24).alloc (.cells #[.int .i64 n2, .slice a2 L2 cap2] 24)).alloc (.cells #[.int .i64 0, .slice none 0 0] 24)
    have BB := (Box.new (w.alloc (.cells #[.int .i64 n1, .slice a1 L1 cap1] 24)) (.int .i64 n2) (.slice a2 L2 cap2) 24).alloc (.cells #[.int .i64 0, .slice none 0 0] 24)
    have BR := Box.new ((w.alloc (.cells #[.int .i64 n1, .slice a1 L1 cap1] 24)).alloc (.cells #[.int .i64 n2, .slice a2 L2 cap2] 24)) (.int .i64 0) (.slice none 0 0) 24
    simp only [World.size_alloc] at BB BR
    generalize hW : ((w.alloc (.cells #[.int .i64 n1, .slice a1 L1 cap1] 24)).alloc (.cells #[.int .i64 n2, .slice a2 L2 cap2] 24)).alloc (.cells #[.int .i64 0, .slice none 0 0] 24) = W1 at *
    have HA := Lib.hid BA
    have HB := Lib.hid BB
    have HR := Lib.hid BR
    have HW := Lib.hid hW1
    obtain ⟨x0, x1, -, -⟩ := BA
    clear BB BR hW1
    go_enter Tryd.func54, Tryd.ntmps54
    go_wp2_with fail
    refine (sA.out _ HW.out).mono ?_
    clear x0 x1 hW
    rintro e w1 ⟨rfl, hb⟩
    have HA1 := Lib.hid (HA.out.below hb HA.out.lt)
    have HB1 := Lib.hid (HB.out.below hb HB.out.lt)
    have HR1 := Lib.hid (HR.out.below hb HR.out.lt)
    have HW1 := Lib.hid (HW.out.trans (hb.mono HW.out.size))
    clear HA HB HR HW hb
    obtain ⟨x0, x1, -, -⟩ := id HB1.out
    go_wp2_with fail
    refine (sB.out _ HW1.out).mono ?_
    clear x0 x1
    rintro e w2 ⟨rfl, hb⟩
    have HA := Lib.hid (HA1.out.below hb HA1.out.lt)
    have HB := Lib.hid (HB1.out.below hb HB1.out.lt)
    have HR := Lib.hid (HR1.out.below hb HR1.out.lt)
    have HW := Lib.hid (HW1.out.trans (hb.mono HW1.out.size))
    clear HA1 HB1 HR1 HW1 hb sA sB
    go_wp2_with fail
    go_loopw [10, 11] (fun v i wr => ∃ q : Nat, q ≤ N ∧ i = .int .i64 q ∧ Hid (wr.ownsRow w2.heap.size 3 1 v (told p q).length ((told p q).map encI)) ∧ Hid (Below w2.heap.size w2 wr)) (fun _ i _ => N - (intOf i).toNat)
    case atStart => exact ⟨0, Nat.zero_le _, rfl, World.ownsRow_nil _ _ _ _, Below.refl _ _⟩
    case round =>
      obtain ⟨q, hq, rfl, hown, hBw⟩ := hrel
      have hWr := HW.out.trans (hBw.out.mono HW.out.size)
      obtain ⟨x0, x1, -, -⟩ := HA.out.below hBw.out HA.out.lt
      obtain ⟨y0, y1, -, -⟩ := HB.out.below hBw.out HB.out.lt
      by_cases hlt : q < N
      · have hqi : (q : Int) < (N : Int) := by omega
        have htl := told_le p q
        have h63 : (told p q).length + 1 ≤ maxLen := by unfold maxLen; omega
        have hby : ((told p q).length + 1) * 8 ≤ 140737488355328 := by omega
        have hqk : q < N := hlt
        by_cases hqm : q < m
        · skip
          have cjA := Lib.hid (cA.out wr q hWr hqk)
          have dk : (q : Int) < (N : Int) := by omega
          have cjB := Lib.hid (cB.out wr q hWr hqm)
          have dm : (q : Int) < (m : Int) := by omega
          obtain ⟨bu, hbu⟩ : ∃ b, Hid (bitAt us q = b) := ⟨_, Lib.hid rfl⟩
          obtain ⟨bv, hbv⟩ : ∃ b, Hid (bitAt vs q = b) := ⟨_, Lib.hid rfl⟩
          rw [hbu.out] at cjA
          rw [hbv.out] at cjB
          clear hWr
          cases bu with
          | true =>
            cases bv with
            | true =>
              have tokA : True := trivial
              have tokB : True := trivial
              have HPQ : Hid (p q = false) := by show _ = _; rw [HP.out, hbu.out, hbv.out]; rfl
              go_wp2_with (first
                | (have _t := tokA; go_at_call 42; refine cjA.out.mono ?_; clear _t tokA; rintro e w3 ⟨rfl, rfl⟩)
                | (have _t := tokB; go_at_call 42; refine cjB.out.mono ?_; clear _t tokB; rintro e w3 ⟨rfl, rfl⟩))
              go_roundw
              case rel =>
                have e := told_succ p q
                rw [HPQ.out, if_neg (by simp), List.append_nil] at e
                exact ⟨q + 1, by omega, by go_num, by rw [e]; exact hown, hBw⟩
              case measure => simp [intOf]; omega
            | false =>
              have tokA : True := trivial
              have tokB : True := trivial
              have HPQ : Hid (p q = true) := by show _ = _; rw [HP.out, hbu.out, hbv.out]; rfl
              go_wp2_with (first
                | (have _t := tokA; go_at_call 42; refine cjA.out.mono ?_; clear _t tokA; rintro e w3 ⟨rfl, rfl⟩)
                | (have _t := tokB; go_at_call 42; refine cjB.out.mono ?_; clear _t tokB; rintro e w3 ⟨rfl, rfl⟩)
                | (at_builtin; refine wpList_append_own _ rfl _ _ 25 rfl w2.heap.size 3 i0 (.int .i64 0) 1 8 Tryd.underlying25 hi hz0 hz1 hz2 rfl (by decide) _ _ _ rfl (hown.out.alloc _) ⟨_, 0, none⟩ 1 1 [.int .i64 (q : Int)] rfl rfl (cell_one_new _ _ _) (by simp [Value.oneCell']) h63 hby (by have := hBw.out.size; simp; omega) ?_; intro v' w4 hown' hgrow _; have HO := Lib.hid hown'; have HG := Lib.hid hgrow; clear hown' hgrow))
              go_roundw
              case rel =>
                have e := told_succ p q
                rw [HPQ.out, if_pos rfl] at e
                refine ⟨q + 1, by omega, by go_num, ?_, ?_⟩
                · show w4.ownsRow _ 3 1 _ (told p (q + 1)).length ((told p (q + 1)).map encI)
                  rw [e]
                  simpa [encI] using HO.out
                · exact owns_grown (hBw.out.alloc hBw.out.size _) (hown.out.alloc _) HG.out (by have := hBw.out.size; simp; omega)
              case measure => simp [intOf]; omega
          | false =>
            cases bv with
            | true =>
              have tokA : True := trivial
              have tokB : True := trivial
              have HPQ : Hid (p q = false) := by show _ = _; rw [HP.out, hbu.out, hbv.out]; rfl
              go_wp2_with (first
                | (have _t := tokA; go_at_call 42; refine cjA.out.mono ?_; clear _t tokA; rintro e w3 ⟨rfl, rfl⟩)
                | (have _t := tokB; go_at_call 42; refine cjB.out.mono ?_; clear _t tokB; rintro e w3 ⟨rfl, rfl⟩))
              go_roundw
              case rel =>
                have e := told_succ p q
                rw [HPQ.out, if_neg (by simp), List.append_nil] at e
                exact ⟨q + 1, by omega, by go_num, by rw [e]; exact hown, hBw⟩
              case measure => simp [intOf]; omega
            | false =>
              have tokA : True := trivial
              have tokB : True := trivial
              have HPQ : Hid (p q = false) := by show _ = _; rw [HP.out, hbu.out, hbv.out]; rfl
              go_wp2_with (first
                | (have _t := tokA; go_at_call 42; refine cjA.out.mono ?_; clear _t tokA; rintro e w3 ⟨rfl, rfl⟩)
                | (have _t := tokB; go_at_call 42; refine cjB.out.mono ?_; clear _t tokB; rintro e w3 ⟨rfl, rfl⟩))
              go_roundw
              case rel =>
                have e := told_succ p q
                rw [HPQ.out, if_neg (by simp), List.append_nil] at e
                exact ⟨q + 1, by omega, by go_num, by rw [e]; exact hown, hBw⟩
              case measure => simp [intOf]; omega
        · skip
          have cjA := Lib.hid (cA.out wr q hWr hqk)
          have dk : (q : Int) < (N : Int) := by omega
          have dm : ¬ (q : Int) < (m : Int) := by omega
          obtain ⟨bu, hbu⟩ : ∃ b, Hid (bitAt us q = b) := ⟨_, Lib.hid rfl⟩
          obtain ⟨bv, hbv⟩ : ∃ b, Hid (bitAt vs q = b) := ⟨_, Lib.hid rfl⟩
          rw [hbu.out] at cjA
          obtain rfl : bv = false := hbv.out.symm.trans (HO2.out.clear (by omega))
          clear hWr
          cases bu with
          | true =>
            have tokA : True := trivial
            have HPQ : Hid (p q = true) := by show _ = _; rw [HP.out, hbu.out, hbv.out]; rfl
            go_wp2_with (first
              | (have _t := tokA; go_at_call 42; refine cjA.out.mono ?_; clear _t tokA; rintro e w3 ⟨rfl, rfl⟩)
              | (at_builtin; refine wpList_append_own _ rfl _ _ 25 rfl w2.heap.size 3 i0 (.int .i64 0) 1 8 Tryd.underlying25 hi hz0 hz1 hz2 rfl (by decide) _ _ _ rfl (hown.out.alloc _) ⟨_, 0, none⟩ 1 1 [.int .i64 (q : Int)] rfl rfl (cell_one_new _ _ _) (by simp [Value.oneCell']) h63 hby (by have := hBw.out.size; simp; omega) ?_; intro v' w4 hown' hgrow _; have HO := Lib.hid hown'; have HG := Lib.hid hgrow; clear hown' hgrow))
            go_roundw
            case rel =>
              have e := told_succ p q
              rw [HPQ.out, if_pos rfl] at e
              refine ⟨q + 1, by omega, by go_num, ?_, ?_⟩
              · show w4.ownsRow _ 3 1 _ (told p (q + 1)).length ((told p (q + 1)).map encI)
                rw [e]
                simpa [encI] using HO.out
              · exact owns_grown (hBw.out.alloc hBw.out.size _) (hown.out.alloc _) HG.out (by have := hBw.out.size; simp; omega)
            case measure => simp [intOf]; omega
          | false =>
            have tokA : True := trivial
            have HPQ : Hid (p q = false) := by show _ = _; rw [HP.out, hbu.out, hbv.out]; rfl
            go_wp2_with (first
              | (have _t := tokA; go_at_call 42; refine cjA.out.mono ?_; clear _t tokA; rintro e w3 ⟨rfl, rfl⟩))
            go_roundw
            case rel =>
              have e := told_succ p q
              rw [HPQ.out, if_neg (by simp), List.append_nil] at e
              exact ⟨q + 1, by omega, by go_num, by rw [e]; exact hown, hBw⟩
            case measure => simp [intOf]; omega
      · obtain rfl : q = N := by omega
        obtain ⟨al, cl, rfl, hIs⟩ := is_of_owns hown.out
        have htl := told_le p q
        have HOf := Lib.hid (Of_ref (q : Int) al ((told p q).map fun (x : Nat) => (x : Int)) cl wr hIs (by rw [List.length_map]; omega))
        rw [HCL.out, HKK.out, List.length_map] at HOf
        obtain ⟨z0, z1, f0, f1⟩ := HR.out.below hBw.out HR.out.lt
        have HRr := Lib.hid (HR.out.below hBw.out HR.out.lt)
        have HWr := Lib.hid hWr
        obtain ⟨T, hT⟩ : ∃ T, (told p q).length = T := ⟨_, rfl⟩
        rw [hT] at HOf
        clear hIs hWr
        go_wp2_with fail
        refine HOf.out.mono ?_
        clear HOf z0 z1 f0 f1 x0 x1 y0 y1
        rintro e w5 ⟨g, rfl, hF, hb⟩
        have hg := hF.1
        have HF := Lib.hid hF
        have HB5 := Lib.hid (HWr.out.trans (hb.mono HWr.out.size))
        have hRlt := HRr.out.lt
        obtain ⟨z0, z1, f0, f1⟩ := HRr.out.below hb HRr.out.lt
        have hsz := HWr.out.size
        clear hF hb
        go_wp2_with fail
        exact bodyPost_ret (v := .agg #[.int .i64 (q : Int), .slice (some ⟨g, 0, none⟩) K K]) (by simp [results, Tryd.results54, go_sem, z0, z1]) rfl
          ⟨g, rfl, (HF.out.base hsz).block (heap_put2 _ _ _ _ _ (by omega)), below_put2 HB5.out (by omega) _ _⟩

set_option maxRecDepth 100000 in
set_option maxHeartbeats 4000000 in
theorem pick2_ref (n1 : Int) (a1 : Option Addr) (ws1 : List Nat) (cap1 : Nat) (n2 : Int) (a2 : Option Addr) (ws2 : List Nat) (cap2 : Nat) (w : World) (hWd1 : Wd w.heap.size w a1 ws1) (hWB1 : WB ws1) (hl1 : ws1.length ≤ 30) (hWd2 : Wd w.heap.size w a2 ws2) (hWB2 : WB ws2) (hl2 : ws2.length ≤ 30)
    (k m : Nat) (us vs : List Nat) (hk : nrm n1 ws1 = k) (hm : nrm n2 ws2 = m) (hus : nrmW n1 ws1 = us) (hvs : nrmW n2 ws2 = vs) (N K : Nat) (hN : max k m = N) (hK : wcount N = K) (p : Nat → Bool) (hp : ∀ i, p i = (fun x y => x && y) (bitAt us i) (bitAt vs i)) :
    Calls Tryd.prog 54 #[.agg #[.int .i64 n1, .slice a1 ws1.length cap1], .agg #[.int .i64 n2, .slice a2 ws2.length cap2], .int .i64 2] w fun e w' =>
      ∃ g, e = .returned (.agg #[.int .i64 (N : Int), .slice (some ⟨g, 0, none⟩) K K]) ∧ Fresh w.heap.size w' g (ofW N ((told p N).map fun (x : Nat) => (x : Int))) ∧ Below w.heap.size w w' := by
  have hok1 := nrm_ok (n := n1) hWB1
  have hok2 := nrm_ok (n := n2) hWB2
  have cA : Hid (∀ (W : World) (j : Nat), Below w.heap.size w W → j < k → Calls Tryd.prog 42 #[.slice a1 ws1.length cap1, .int .i64 (j : Int)] W fun e w' => e = .returned (.bool (bitAt us j)) ∧ w' = W) := fun W j hw hj => by
    rw [← hus]; exact bit_nrm n1 a1 ws1 cap1 W j (hWd1.below hw) hWB1 hl1 (by omega)
  have cB : Hid (∀ (W : World) (j : Nat), Below w.heap.size w W → j < m → Calls Tryd.prog 42 #[.slice a2 ws2.length cap2, .int .i64 (j : Int)] W fun e w' => e = .returned (.bool (bitAt vs j)) ∧ w' = W) := fun W j hw hj => by
    rw [← hvs]; exact bit_nrm n2 a2 ws2 cap2 W j (hWd2.below hw) hWB2 hl2 (by omega)
  have sA : Hid (∀ W, Below w.heap.size w W → Calls Tryd.prog 41 #[.agg #[.int .i64 n1, .slice a1 ws1.length cap1]] W fun e w' => e = .returned (.int .i64 (k : Int)) ∧ Below W.heap.size W w') := fun W hw => by
    rw [← hk]; exact size_ref n1 a1 ws1 cap1 W ((hWd1.below hw).mono hw.size) hWB1 hl1
  have sB : Hid (∀ W, Below w.heap.size w W → Calls Tryd.prog 41 #[.agg #[.int .i64 n2, .slice a2 ws2.length cap2]] W fun e w' => e = .returned (.int .i64 (m : Int)) ∧ Below W.heap.size W w') := fun W hw => by
    rw [← hm]; exact size_ref n2 a2 ws2 cap2 W ((hWd2.below hw).mono hw.size) hWB2 hl2
  rw [hk, hus] at hok1
  rw [hm, hvs] at hok2
  obtain ⟨L1, hL1⟩ : ∃ L, ws1.length = L := ⟨_, rfl⟩
  obtain ⟨L2, hL2⟩ : ∃ L, ws2.length = L := ⟨_, rfl⟩
  rw [hL1] at cA sA
  rw [hL2] at cB sB
  rw [hL1, hL2]
  have hNl : N ≤ 1024 := by have := hok1.le; have := hok2.le; omega
  have hcl : clampN (N : Int) = N := by unfold clampN; split <;> (try split) <;> omega
  have HP := Lib.hid hp
  have HO1 := Lib.hid hok1
  have HO2 := Lib.hid hok2
  have HKK := Lib.hid hK
  have HCL := Lib.hid hcl
  have hmx : N = if k < m then m else k := by split <;> omega
  have hkN : k ≤ N := by omega
  have hmN : m ≤ N := by omega
  clear hWd1 hWd2 hWB1 hWB2 hl1 hl2 hk hm hus hvs hN hK hp hok1 hok2 hL1 hL2 hcl
  obtain ⟨i0, hi, hz0, hz1, hz2⟩ := info_parts Tryd_info3
  by_cases hkm : k < m
  · have e : N = m := by rw [hmx, if_pos hkm]
    subst e
    have hki : (k : Int) < (N : Int) := by omega
    clear hmx hkm
    have hW1 : Below w.heap.size w (((w.alloc (.cells #[.int .i64 n1, .slice a1 L1 cap1] 24)).alloc (.cells #[.int .i64 n2, .slice a2 L2 cap2] 24)).alloc (.cells #[.int .i64 0, .slice none 0 0] 24)) := (((Below.refl _ _).alloc (Nat.le_refl _) _).alloc (by simp) _).alloc (by simp <;> omega) _
    have BA := ((Box.new w (.int .i64 n1) (.slice a1 L1 cap1) 24).alloc (.cells #[.int .i64 n2, .slice a2 L2 cap2] 24)).alloc (.cells #[.int .i64 0, .slice none 0 0] 24)
    have BB := (Box.new (w.alloc (.cells #[.int .i64 n1, .slice a1 L1 cap1] 24)) (.int .i64 n2) (.slice a2 L2 cap2) 24).alloc (.cells #[.int .i64 0, .slice none 0 0] 24)
    have BR := Box.new ((w.alloc (.cells #[.int .i64 n1, .slice a1 L1 cap1] 24)).alloc (.cells #[.int .i64 n2, .slice a2 L2 cap2] 24)) (.int .i64 0) (.slice none 0 0) 24
    simp only [World.size_alloc] at BB BR
    generalize hW : ((w.alloc (.cells #[.int .i64 n1, .slice a1 L1 cap1] 24)).alloc (.cells #[.int .i64 n2, .slice a2 L2 cap2] 24)).alloc (.cells #[.int .i64 0, .slice none 0 0] 24) = W1 at *
    have HA := Lib.hid BA
    have HB := Lib.hid BB
    have HR := Lib.hid BR
    have HW := Lib.hid hW1
    obtain ⟨x0, x1, -, -⟩ := BA
    clear BB BR hW1
    go_enter Tryd.func54, Tryd.ntmps54
    go_wp2_with fail
    refine (sA.out _ HW.out).mono ?_
    clear x0 x1 hW
    rintro e w1 ⟨rfl, hb⟩
    have HA1 := Lib.hid (HA.out.below hb HA.out.lt)
    have HB1 := Lib.hid (HB.out.below hb HB.out.lt)
    have HR1 := Lib.hid (HR.out.below hb HR.out.lt)
    have HW1 := Lib.hid (HW.out.trans (hb.mono HW.out.size))
    clear HA HB HR HW hb
    obtain ⟨x0, x1, -, -⟩ := id HB1.out
    go_wp2_with fail
    refine (sB.out _ HW1.out).mono ?_
    clear x0 x1
    rintro e w2 ⟨rfl, hb⟩
    have HA := Lib.hid (HA1.out.below hb HA1.out.lt)
    have HB := Lib.hid (HB1.out.below hb HB1.out.lt)
    have HR := Lib.hid (HR1.out.below hb HR1.out.lt)
    have HW := Lib.hid (HW1.out.trans (hb.mono HW1.out.size))
    clear HA1 HB1 HR1 HW1 hb sA sB
    go_wp2_with fail
    go_loopw [10, 11] (fun v i wr => ∃ q : Nat, q ≤ N ∧ i = .int .i64 q ∧ Hid (wr.ownsRow w2.heap.size 3 1 v (told p q).length ((told p q).map encI)) ∧ Hid (Below w2.heap.size w2 wr)) (fun _ i _ => N - (intOf i).toNat)
    case atStart => exact ⟨0, Nat.zero_le _, rfl, World.ownsRow_nil _ _ _ _, Below.refl _ _⟩
    case round =>
      obtain ⟨q, hq, rfl, hown, hBw⟩ := hrel
      have hWr := HW.out.trans (hBw.out.mono HW.out.size)
      obtain ⟨x0, x1, -, -⟩ := HA.out.below hBw.out HA.out.lt
      obtain ⟨y0, y1, -, -⟩ := HB.out.below hBw.out HB.out.lt
      by_cases hlt : q < N
      · have hqi : (q : Int) < (N : Int) := by omega
        have htl := told_le p q
        have h63 : (told p q).length + 1 ≤ maxLen := by unfold maxLen; omega
        have hby : ((told p q).length + 1) * 8 ≤ 140737488355328 := by omega
        have hqm : q < N := hlt
        by_cases hqk : q < k
        · skip
          have cjA := Lib.hid (cA.out wr q hWr hqk)
          have dk : (q : Int) < (k : Int) := by omega
          have cjB := Lib.hid (cB.out wr q hWr hqm)
          have dm : (q : Int) < (N : Int) := by omega
          obtain ⟨bu, hbu⟩ : ∃ b, Hid (bitAt us q = b) := ⟨_, Lib.hid rfl⟩
          obtain ⟨bv, hbv⟩ : ∃ b, Hid (bitAt vs q = b) := ⟨_, Lib.hid rfl⟩
          rw [hbu.out] at cjA
          rw [hbv.out] at cjB
          clear hWr
          cases bu with
          | true =>
            cases bv with
            | true =>
              have tokA : True := trivial
              have tokB : True := trivial
              have HPQ : Hid (p q = true) := by show _ = _; rw [HP.out, hbu.out, hbv.out]; rfl
              go_wp2_with (first
                | (have _t := tokA; go_at_call 42; refine cjA.out.mono ?_; clear _t tokA; rintro e w3 ⟨rfl, rfl⟩)
                | (have _t := tokB; go_at_call 42; refine cjB.out.mono ?_; clear _t tokB; rintro e w3 ⟨rfl, rfl⟩)
                | (at_builtin; refine wpList_append_own _ rfl _ _ 25 rfl w2.heap.size 3 i0 (.int .i64 0) 1 8 Tryd.underlying25 hi hz0 hz1 hz2 rfl (by decide) _ _ _ rfl (hown.out.alloc _) ⟨_, 0, none⟩ 1 1 [.int .i64 (q : Int)] rfl rfl (cell_one_new _ _ _) (by simp [Value.oneCell']) h63 hby (by have := hBw.out.size; simp; omega) ?_; intro v' w4 hown' hgrow _; have HO := Lib.hid hown'; have HG := Lib.hid hgrow; clear hown' hgrow))
              go_roundw
              case rel =>
                have e := told_succ p q
                rw [HPQ.out, if_pos rfl] at e
                refine ⟨q + 1, by omega, by go_num, ?_, ?_⟩
                · show w4.ownsRow _ 3 1 _ (told p (q + 1)).length ((told p (q + 1)).map encI)
                  rw [e]
                  simpa [encI] using HO.out
                · exact owns_grown (hBw.out.alloc hBw.out.size _) (hown.out.alloc _) HG.out (by have := hBw.out.size; simp; omega)
              case measure => simp [intOf]; omega
            | false =>
              have tokA : True := trivial
              have tokB : True := trivial
              have HPQ : Hid (p q = false) := by show _ = _; rw [HP.out, hbu.out, hbv.out]; rfl
              go_wp2_with (first
                | (have _t := tokA; go_at_call 42; refine cjA.out.mono ?_; clear _t tokA; rintro e w3 ⟨rfl, rfl⟩)
                | (have _t := tokB; go_at_call 42; refine cjB.out.mono ?_; clear _t tokB; rintro e w3 ⟨rfl, rfl⟩))
              go_roundw
              case rel =>
                have e := told_succ p q
                rw [HPQ.out, if_neg (by simp), List.append_nil] at e
                exact ⟨q + 1, by omega, by go_num, by rw [e]; exact hown, hBw⟩
              case measure => simp [intOf]; omega
          | false =>
            cases bv with
            | true =>
              have tokA : True := trivial
              have tokB : True := trivial
              have HPQ : Hid (p q = false) := by show _ = _; rw [HP.out, hbu.out, hbv.out]; rfl
              go_wp2_with (first
                | (have _t := tokA; go_at_call 42; refine cjA.out.mono ?_; clear _t tokA; rintro e w3 ⟨rfl, rfl⟩)
                | (have _t := tokB; go_at_call 42; refine cjB.out.mono ?_; clear _t tokB; rintro e w3 ⟨rfl, rfl⟩))
              go_roundw
              case rel =>
                have e := told_succ p q
                rw [HPQ.out, if_neg (by simp), List.append_nil] at e
                exact ⟨q + 1, by omega, by go_num, by rw [e]; exact hown, hBw⟩
              case measure => simp [intOf]; omega
            | false =>
              have tokA : True := trivial
              have tokB : True := trivial
              have HPQ : Hid (p q = false) := by show _ = _; rw [HP.out, hbu.out, hbv.out]; rfl
              go_wp2_with (first
                | (have _t := tokA; go_at_call 42; refine cjA.out.mono ?_; clear _t tokA; rintro e w3 ⟨rfl, rfl⟩)
                | (have _t := tokB; go_at_call 42; refine cjB.out.mono ?_; clear _t tokB; rintro e w3 ⟨rfl, rfl⟩))
              go_roundw
              case rel =>
                have e := told_succ p q
                rw [HPQ.out, if_neg (by simp), List.append_nil] at e
                exact ⟨q + 1, by omega, by go_num, by rw [e]; exact hown, hBw⟩
              case measure => simp [intOf]; omega
        · skip
          have dk : ¬ (q : Int) < (k : Int) := by omega
          have cjB := Lib.hid (cB.out wr q hWr hqm)
          have dm : (q : Int) < (N : Int) := by omega
          obtain ⟨bu, hbu⟩ : ∃ b, Hid (bitAt us q = b) := ⟨_, Lib.hid rfl⟩
          obtain ⟨bv, hbv⟩ : ∃ b, Hid (bitAt vs q = b) := ⟨_, Lib.hid rfl⟩
          obtain rfl : bu = false := hbu.out.symm.trans (HO1.out.clear (by omega))
          rw [hbv.out] at cjB
          clear hWr
          cases bv with
          | true =>
            have tokB : True := trivial
            have HPQ : Hid (p q = false) := by show _ = _; rw [HP.out, hbu.out, hbv.out]; rfl
            go_wp2_with (first
              | (have _t := tokB; go_at_call 42; refine cjB.out.mono ?_; clear _t tokB; rintro e w3 ⟨rfl, rfl⟩))
            go_roundw
            case rel =>
              have e := told_succ p q
              rw [HPQ.out, if_neg (by simp), List.append_nil] at e
              exact ⟨q + 1, by omega, by go_num, by rw [e]; exact hown, hBw⟩
            case measure => simp [intOf]; omega
          | false =>
            have tokB : True := trivial
            have HPQ : Hid (p q = false) := by show _ = _; rw [HP.out, hbu.out, hbv.out]; rfl
            go_wp2_with (first
              | (have _t := tokB; go_at_call 42; refine cjB.out.mono ?_; clear _t tokB; rintro e w3 ⟨rfl, rfl⟩))
            go_roundw
            case rel =>
              have e := told_succ p q
              rw [HPQ.out, if_neg (by simp), List.append_nil] at e
              exact ⟨q + 1, by omega, by go_num, by rw [e]; exact hown, hBw⟩
            case measure => simp [intOf]; omega
      · obtain rfl : q = N := by omega
        obtain ⟨al, cl, rfl, hIs⟩ := is_of_owns hown.out
        have htl := told_le p q
        have HOf := Lib.hid (Of_ref (q : Int) al ((told p q).map fun (x : Nat) => (x : Int)) cl wr hIs (by rw [List.length_map]; omega))
        rw [HCL.out, HKK.out, List.length_map] at HOf
        obtain ⟨z0, z1, f0, f1⟩ := HR.out.below hBw.out HR.out.lt
        have HRr := Lib.hid (HR.out.below hBw.out HR.out.lt)
        have HWr := Lib.hid hWr
        obtain ⟨T, hT⟩ : ∃ T, (told p q).length = T := ⟨_, rfl⟩
        rw [hT] at HOf
        clear hIs hWr
        go_wp2_with fail
        refine HOf.out.mono ?_
        clear HOf z0 z1 f0 f1 x0 x1 y0 y1
        rintro e w5 ⟨g, rfl, hF, hb⟩
        have hg := hF.1
        have HF := Lib.hid hF
        have HB5 := Lib.hid (HWr.out.trans (hb.mono HWr.out.size))
        have hRlt := HRr.out.lt
        obtain ⟨z0, z1, f0, f1⟩ := HRr.out.below hb HRr.out.lt
        have hsz := HWr.out.size
        clear hF hb
        go_wp2_with fail
        exact bodyPost_ret (v := .agg #[.int .i64 (q : Int), .slice (some ⟨g, 0, none⟩) K K]) (by simp [results, Tryd.results54, go_sem, z0, z1]) rfl
          ⟨g, rfl, (HF.out.base hsz).block (heap_put2 _ _ _ _ _ (by omega)), below_put2 HB5.out (by omega) _ _⟩
  · have e : N = k := by rw [hmx, if_neg hkm]
    subst e
    have hki : ¬ (N : Int) < (m : Int) := by omega
    clear hmx hkm
    have hW1 : Below w.heap.size w (((w.alloc (.cells #[.int .i64 n1, .slice a1 L1 cap1] 24)).alloc (.cells #[.int .i64 n2, .slice a2 L2 cap2] 24)).alloc (.cells #[.int .i64 0, .slice none 0 0] 24)) := (((Below.refl _ _).alloc (Nat.le_refl _) _).alloc (by simp) _).alloc (by simp <;> omega) _
    have BA := ((Box.new w (.int .i64 n1) (.slice a1 L1 cap1) 24).alloc (.cells #[.int .i64 n2, .slice a2 L2 cap2] 24)).alloc (.cells #[.int .i64 0, .slice none 0 0] 24)
    have BB := (Box.new (w.alloc (.cells #[.int .i64 n1, .slice a1 L1 cap1] 24)) (.int .i64 n2) (.slice a2 L2 cap2) 24).alloc (.cells #[.int .i64 0, .slice none 0 0] 24)
    have BR := Box.new ((w.alloc (.cells #[.int .i64 n1, .slice a1 L1 cap1] 24)).alloc (.cells #[.int .i64 n2, .slice a2 L2 cap2] 24)) (.int .i64 0) (.slice none 0 0) 24
    simp only [World.size_alloc] at BB BR
    generalize hW : ((w.alloc (.cells #[.int .i64 n1, .slice a1 L1 cap1] 24)).alloc (.cells #[.int .i64 n2, .slice a2 L2 cap2] 24)).alloc (.cells #[.int .i64 0, .slice none 0 0] 24) = W1 at *
    have HA := Lib.hid BA
    have HB := Lib.hid BB
    have HR := Lib.hid BR
    have HW := Lib.hid hW1
    obtain ⟨x0, x1, -, -⟩ := BA
    clear BB BR hW1
    go_enter Tryd.func54, Tryd.ntmps54
    go_wp2_with fail
    refine (sA.out _ HW.out).mono ?_
    clear x0 x1 hW
    rintro e w1 ⟨rfl, hb⟩
    have HA1 := Lib.hid (HA.out.below hb HA.out.lt)
    have HB1 := Lib.hid (HB.out.below hb HB.out.lt)
    have HR1 := Lib.hid (HR.out.below hb HR.out.lt)
    have HW1 := Lib.hid (HW.out.trans (hb.mono HW.out.size))
    clear HA HB HR HW hb
    obtain ⟨x0, x1, -, -⟩ := id HB1.out
    go_wp2_with fail
    refine (sB.out _ HW1.out).mono ?_
    clear x0 x1
    rintro e w2 ⟨rfl, hb⟩
    have HA := Lib.hid (HA1.out.below hb HA1.out.lt)
    have HB := Lib.hid (HB1.out.below hb HB1.out.lt)
    have HR := Lib.hid (HR1.out.below hb HR1.out.lt)
    have HW := Lib.hid (HW1.out.trans (hb.mono HW1.out.size))
    clear HA1 HB1 HR1 HW1 hb sA sB
    go_wp2_with fail
    go_loopw [10, 11] (fun v i wr => ∃ q : Nat, q ≤ N ∧ i = .int .i64 q ∧ Hid (wr.ownsRow w2.heap.size 3 1 v (told p q).length ((told p q).map encI)) ∧ Hid (Below w2.heap.size w2 wr)) (fun _ i _ => N - (intOf i).toNat)
    case atStart => exact ⟨0, Nat.zero_le _, rfl, World.ownsRow_nil _ _ _ _, Below.refl _ _⟩
    case round =>
      obtain ⟨q, hq, rfl, hown, hBw⟩ := hrel
      have hWr := HW.out.trans (hBw.out.mono HW.out.size)
      obtain ⟨x0, x1, -, -⟩ := HA.out.below hBw.out HA.out.lt
      obtain ⟨y0, y1, -, -⟩ := HB.out.below hBw.out HB.out.lt
      by_cases hlt : q < N
      · have hqi : (q : Int) < (N : Int) := by omega
        have htl := told_le p q
        have h63 : (told p q).length + 1 ≤ maxLen := by unfold maxLen; omega
        have hby : ((told p q).length + 1) * 8 ≤ 140737488355328 := by omega
        have hqk : q < N := hlt
        by_cases hqm : q < m
        · skip
          have cjA := Lib.hid (cA.out wr q hWr hqk)
          have dk : (q : Int) < (N : Int) := by omega
          have cjB := Lib.hid (cB.out wr q hWr hqm)
          have dm : (q : Int) < (m : Int) := by omega
          obtain ⟨bu, hbu⟩ : ∃ b, Hid (bitAt us q = b) := ⟨_, Lib.hid rfl⟩
          obtain ⟨bv, hbv⟩ : ∃ b, Hid (bitAt vs q = b) := ⟨_, Lib.hid rfl⟩
          rw [hbu.out] at cjA
          rw [hbv.out] at cjB
          clear hWr
          cases bu with
          | true =>
            cases bv with
            | true =>
              have tokA : True := trivial
              have tokB : True := trivial
              have HPQ : Hid (p q = true) := by show _ = _; rw [HP.out, hbu.out, hbv.out]; rfl
              go_wp2_with (first
                | (have _t := tokA; go_at_call 42; refine cjA.out.mono ?_; clear _t tokA; rintro e w3 ⟨rfl, rfl⟩)
                | (have _t := tokB; go_at_call 42; refine cjB.out.mono ?_; clear _t tokB; rintro e w3 ⟨rfl, rfl⟩)
                | (at_builtin; refine wpList_append_own _ rfl _ _ 25 rfl w2.heap.size 3 i0 (.int .i64 0) 1 8 Tryd.underlying25 hi hz0 hz1 hz2 rfl (by decide) _ _ _ rfl (hown.out.alloc _) ⟨_, 0, none⟩ 1 1 [.int .i64 (q : Int)] rfl rfl (cell_one_new _ _ _) (by simp [Value.oneCell']) h63 hby (by have := hBw.out.size; simp; omega) ?_; intro v' w4 hown' hgrow _; have HO := Lib.hid hown'; have HG := Lib.hid hgrow; clear hown' hgrow))
              go_roundw
              case rel =>
                have e := told_succ p q
                rw [HPQ.out, if_pos rfl] at e
                refine ⟨q + 1, by omega, by go_num, ?_, ?_⟩
                · show w4.ownsRow _ 3 1 _ (told p (q + 1)).length ((told p (q + 1)).map encI)
                  rw [e]
                  simpa [encI] using HO.out
                · exact owns_grown (hBw.out.alloc hBw.out.size _) (hown.out.alloc _) HG.out (by have := hBw.out.size; simp; omega)
              case measure => simp [intOf]; omega
            | false =>
              have tokA : True := trivial
              have tokB : True := trivial
              have HPQ : Hid (p q = false) := by show _ = _; rw [HP.out, hbu.out, hbv.out]; rfl
              go_wp2_with (first
                | (have _t := tokA; go_at_call 42; refine cjA.out.mono ?_; clear _t tokA; rintro e w3 ⟨rfl, rfl⟩)
                | (have _t := tokB; go_at_call 42; refine cjB.out.mono ?_; clear _t tokB; rintro e w3 ⟨rfl, rfl⟩))
              go_roundw
              case rel =>
                have e := told_succ p q
                rw [HPQ.out, if_neg (by simp), List.append_nil] at e
                exact ⟨q + 1, by omega, by go_num, by rw [e]; exact hown, hBw⟩
              case measure => simp [intOf]; omega
          | false =>
            cases bv with
            | true =>
              have tokA : True := trivial
              have tokB : True := trivial
              have HPQ : Hid (p q = false) := by show _ = _; rw [HP.out, hbu.out, hbv.out]; rfl
              go_wp2_with (first
                | (have _t := tokA; go_at_call 42; refine cjA.out.mono ?_; clear _t tokA; rintro e w3 ⟨rfl, rfl⟩)
                | (have _t := tokB; go_at_call 42; refine cjB.out.mono ?_; clear _t tokB; rintro e w3 ⟨rfl, rfl⟩))
              go_roundw
              case rel =>
                have e := told_succ p q
                rw [HPQ.out, if_neg (by simp), List.append_nil] at e
                exact ⟨q + 1, by omega, by go_num, by rw [e]; exact hown, hBw⟩
              case measure => simp [intOf]; omega
            | false =>
              have tokA : True := trivial
              have tokB : True := trivial
              have HPQ : Hid (p q = false) := by show _ = _; rw [HP.out, hbu.out, hbv.out]; rfl
              go_wp2_with (first
                | (have _t := tokA; go_at_call 42; refine cjA.out.mono ?_; clear _t tokA; rintro e w3 ⟨rfl, rfl⟩)
                | (have _t := tokB; go_at_call 42; refine cjB.out.mono ?_; clear _t tokB; rintro e w3 ⟨rfl, rfl⟩))
              go_roundw
              case rel =>
                have e := told_succ p q
                rw [HPQ.out, if_neg (by simp), List.append_nil] at e
                exact ⟨q + 1, by omega, by go_num, by rw [e]; exact hown, hBw⟩
              case measure => simp [intOf]; omega
        · skip
          have cjA := Lib.hid (cA.out wr q hWr hqk)
          have dk : (q : Int) < (N : Int) := by omega
          have dm : ¬ (q : Int) < (m : Int) := by omega
          obtain ⟨bu, hbu⟩ : ∃ b, Hid (bitAt us q = b) := ⟨_, Lib.hid rfl⟩
          obtain ⟨bv, hbv⟩ : ∃ b, Hid (bitAt vs q = b) := ⟨_, Lib.hid rfl⟩
          rw [hbu.out] at cjA
          obtain rfl : bv = false := hbv.out.symm.trans (HO2.out.clear (by omega))
          clear hWr
          cases bu with
          | true =>
            have tokA : True := trivial
            have HPQ : Hid (p q = false) := by show _ = _; rw [HP.out, hbu.out, hbv.out]; rfl
            go_wp2_with (first
              | (have _t := tokA; go_at_call 42; refine cjA.out.mono ?_; clear _t tokA; rintro e w3 ⟨rfl, rfl⟩))
            go_roundw
            case rel =>
              have e := told_succ p q
              rw [HPQ.out, if_neg (by simp), List.append_nil] at e
              exact ⟨q + 1, by omega, by go_num, by rw [e]; exact hown, hBw⟩
            case measure => simp [intOf]; omega
          | false =>
            have tokA : True := trivial
            have HPQ : Hid (p q = false) := by show _ = _; rw [HP.out, hbu.out, hbv.out]; rfl
            go_wp2_with (first
              | (have _t := tokA; go_at_call 42; refine cjA.out.mono ?_; clear _t tokA; rintro e w3 ⟨rfl, rfl⟩))
            go_roundw
            case rel =>
              have e := told_succ p q
              rw [HPQ.out, if_neg (by simp), List.append_nil] at e
              exact ⟨q + 1, by omega, by go_num, by rw [e]; exact hown, hBw⟩
            case measure => simp [intOf]; omega
      · obtain rfl : q = N := by omega
        obtain ⟨al, cl, rfl, hIs⟩ := is_of_owns hown.out
        have htl := told_le p q
        have HOf := Lib.hid (Of_ref (q : Int) al ((told p q).map fun (x : Nat) => (x : Int)) cl wr hIs (by rw [List.length_map]; omega))
        rw [HCL.out, HKK.out, List.length_map] at HOf
        obtain ⟨z0, z1, f0, f1⟩ := HR.out.below hBw.out HR.out.lt
        have HRr := Lib.hid (HR.out.below hBw.out HR.out.lt)
        have HWr := Lib.hid hWr
        obtain ⟨T, hT⟩ : ∃ T, (told p q).length = T := ⟨_, rfl⟩
        rw [hT] at HOf
        clear hIs hWr
        go_wp2_with fail
        refine HOf.out.mono ?_
        clear HOf z0 z1 f0 f1 x0 x1 y0 y1
        rintro e w5 ⟨g, rfl, hF, hb⟩
        have hg := hF.1
        have HF := Lib.hid hF
        have HB5 := Lib.hid (HWr.out.trans (hb.mono HWr.out.size))
        have hRlt := HRr.out.lt
        obtain ⟨z0, z1, f0, f1⟩ := HRr.out.below hb HRr.out.lt
        have hsz := HWr.out.size
        clear hF hb
        go_wp2_with fail
        exact bodyPost_ret (v := .agg #[.int .i64 (q : Int), .slice (some ⟨g, 0, none⟩) K K]) (by simp [results, Tryd.results54, go_sem, z0, z1]) rfl
          ⟨g, rfl, (HF.out.base hsz).block (heap_put2 _ _ _ _ _ (by omega)), below_put2 HB5.out (by omega) _ _⟩
end Go.Proofs.YtjlofjoekpoepaaDoor
