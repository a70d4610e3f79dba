import Derived.Test.YtjlofjoekpoepaaDoorCd
import Derived.Test.YtjlofjoekpoepaaDoorRl
import Derived.Test.YtjlofjoekpoepaaDoorRe
namespace Go.Proofs.YtjlofjoekpoepaaDoor
open Go Go.RowKit Go.Sort

theorem Equal_two {W : World} {a a' : Option Addr} {c c' N K : Nat} {ws : List Nat} (h : Wd W.heap.size W a ws) (h' : Wd W.heap.size W a' ws) (hK : ws.length = K) (hl : K ≤ 30) :
    Calls Tryd.prog 18 #[.agg #[.int .i64 (N : Int), .slice a K c], .agg #[.int .i64 (N : Int), .slice a' K c']] W fun e w' => e = .returned (.bool true) ∧ Below W.heap.size W w' := by
  have e := Equal_ref (N : Int) (N : Int) a a' ws ws c c' W h h' (by omega)
  rw [hK, show decide ((N : Int) = (N : Int) ∧ ws = ws) = true by simp] at e
  exact e

set_option maxRecDepth 100000 in
set_option maxHeartbeats 8000000 in
theorem are_law (n1 : Int) (a1 : Option Addr) (ws1 : List Nat) (cap1 : Nat) (i n : Int) (al : Option Addr) (l : List Int) (capl : Nat) (w : World) (hWd1 : Wd w.heap.size w a1 ws1) (hWB1 : WB ws1) (hIs : Is w.heap.size w al l) (hlm : l.length ≤ maxLen) (hT : Tab w) :
    Calls Tryd.prog 3 #[.agg #[.int .i64 n1, .slice a1 ws1.length cap1], .int .i64 i, .int .i64 n, .slice al l.length capl] w fun e w' => e = .returned (.bool true) ∧ Below w.heap.size w w' := by
  have hsv1 : SV w (.agg #[.int .i64 n1, .slice a1 ws1.length cap1]) n1 ws1 := ⟨a1, cap1, rfl, hWd1⟩
  obtain ⟨L1, hL1⟩ : ∃ L, ws1.length = L := ⟨_, rfl⟩
  obtain ⟨Ll, hLl⟩ : ∃ L, l.length = L := ⟨_, rfl⟩
  rw [hL1] at hsv1 ⊢
  rw [hLl] at hlm ⊢
  unfold maxLen at hlm
  have hW1 : Below w.heap.size w (w.alloc (.cells #[.int .i64 n1, .slice a1 L1 cap1] 24)) := (Below.refl _ _).alloc (Nat.le_refl _) _
  have BA := Box.new w (.int .i64 n1) (.slice a1 L1 cap1) 24
  generalize hW : w.alloc (.cells #[.int .i64 n1, .slice a1 L1 cap1] 24) = W1 at *
  have HAw := Lib.hid (awake_any W1 (hT.below hW1))
  have HBN := Lib.hid hW1
  have HA := Lib.hid BA
  have HSV1 := Lib.hid hsv1
  have HL1 := Lib.hid hL1
  have HLl := Lib.hid hLl
  have HIs := Lib.hid hIs
  have HT := Lib.hid hT
  clear hsv1 hL1 hLl hT hWd1 hW1 BA hIs
  go_enter Tryd.func3, Tryd.ntmps3
  go_wp2_with fail
  refine HAw.out.mono ?_
  clear HAw hW
  rintro e w1 ⟨rfl, hb⟩
  have TT := HA.out.below hb HA.out.lt
  clear HA
  have HA := Lib.hid TT
  clear TT
  have TT := HBN.out.trans (hb.mono HBN.out.size)
  clear HBN
  have HBN := Lib.hid TT
  clear TT hb
  obtain ⟨cA0, cA1, -, -⟩ := id HA.out
  go_wp2_with fail
  clear cA0 cA1
  by_cases h31 : L1 ≤ 30
  rotate_left
  · have hd : decide ((L1 : Int) ≤ 30) = false := by simp; omega
    refine (few_any n1 a1 L1 cap1 false hd w1).mono ?_
    rintro e wq ⟨rfl, hbq⟩
    have HB3 := Lib.hid (HBN.out.trans (hbq.mono HBN.out.size))
    clear hbq hd HBN HA
    go_wp2
    go_ret
    exact ⟨rfl, HB3.out⟩
  have hd : decide ((L1 : Int) ≤ 30) = true := by simp; omega
  refine (few_any n1 a1 L1 cap1 true hd w1).mono ?_
  rintro e w2 ⟨rfl, hb⟩
  clear hd
  have TT := HA.out.below hb HA.out.lt
  clear HA
  have HA := Lib.hid TT
  clear TT
  have TT := HBN.out.trans (hb.mono HBN.out.size)
  clear HBN
  have HBN := Lib.hid TT
  clear TT hb
  by_cases hbig : 300 < Ll
  · have d3 : (300 : Int) < (Ll : Int) := by omega
    clear HA
    go_wp2
    go_ret
    exact ⟨rfl, HBN.out⟩
  have d3 : ¬ (300 : Int) < (Ll : Int) := by omega
  have HA1 := Lib.hid (Acts.raw HSV1.out (by rw [HL1.out]; exact h31) hWB1)
  have HW1 := Lib.hid (show Wd w.heap.size w a1 ws1 from let ⟨_, _, e, h⟩ := HSV1.out; by cases e; exact h)
  obtain ⟨sn, hsn⟩ : ∃ b, Hid (saneB n1 ws1 = b) := ⟨_, Lib.hid rfl⟩
  obtain ⟨k, hk⟩ : ∃ x, nrm n1 ws1 = x := ⟨_, rfl⟩
  obtain ⟨us, hus⟩ : ∃ x, nrmW n1 ws1 = x := ⟨_, rfl⟩
  rw [hk, hus] at HA1
  have HKU := Lib.hid (And.intro hk hus)
  clear hk hus
  obtain ⟨cA0, cA1, -, -⟩ := id HA.out
  go_wp2_with fail
  clear cA0 cA1
  refine (ours_any n1 a1 L1 cap1 _).mono ?_
  rintro e u1 ⟨rfl, hb⟩
  have TT := HA.out.below hb HA.out.lt
  clear HA
  have HA := Lib.hid TT
  clear TT
  have TT := HBN.out.trans (hb.mono HBN.out.size)
  clear HBN
  have HBN := Lib.hid TT
  clear TT hb
  have TT := HA.out.alloc (.cells #[.int .i64 n1, .slice a1 L1 cap1] 28)
  clear HA
  have HA := Lib.hid TT
  clear TT
  have HX := Lib.hid (Box.new u1 (.int .i64 n1) (.slice a1 L1 cap1) 28)
  have TT := HBN.out.trans (((Below.refl u1.heap.size u1).alloc (Nat.le_refl _) (.cells #[.int .i64 n1, .slice a1 L1 cap1] 28)).mono HBN.out.size)
  clear HBN
  have HBN := Lib.hid TT
  clear TT
  obtain ⟨cA0, cA1, -, -⟩ := id HA.out
  go_wp2_with fail
  clear cA0 cA1
  obtain ⟨b10, hbb⟩ : ∃ b10, u1.heap.size = b10 := ⟨_, rfl⟩
  rw [hbb]
  rw [hbb] at HX
  clear hbb
  generalize u1.alloc (.cells #[.int .i64 n1, .slice a1 L1 cap1] 28) = y1 at *
  obtain ⟨T, hT⟩ : ∃ T, Hid ((nums us).length = T) := ⟨_, Lib.hid rfl⟩
  have hLr := List_racts (HA1.out.below HBN.out)
  rw [hT.out] at hLr
  refine hLr.mono ?_
  clear hLr
  rintro e y2 ⟨ar, cr, rfl, hIr, hb⟩
  have HIr := Lib.hid hIr
  clear hIr
  have TT := HA.out.below hb HA.out.lt
  clear HA
  have HA := Lib.hid TT
  clear TT
  have TT := HX.out.below hb HX.out.lt
  clear HX
  have HX := Lib.hid TT
  clear TT
  have TT := HBN.out.trans (hb.mono HBN.out.size)
  clear HBN
  have HBN := Lib.hid TT
  clear TT hb
  obtain ⟨cA0, cA1, -, -⟩ := id HA.out
  obtain ⟨cX0, cX1, -, -⟩ := id HX.out
  go_wp2_with fail
  clear cA0 cA1 cX0 cX1
  have hAX := HA1.out.below HBN.out
  have hTr := HT.out.below HBN.out
  have ok1 := hAX.ok
  obtain ⟨K, hK⟩ : ∃ K, wcount k = K := ⟨_, rfl⟩
  have hul : us.length = K := by rw [ok1.len, hK]
  have hK30 : K ≤ 30 := by have := ok1.len16; omega
  obtain ⟨pw, hpw⟩ : ∃ x, putW k us i = x := ⟨_, rfl⟩
  obtain ⟨dw, hdw⟩ : ∃ x, dropW k us i = x := ⟨_, rfl⟩
  have hpl : pw.length = K := by rw [← hpw, putW_length, hul]
  have hdl : dw.length = K := by rw [← hdw, dropW_length, hul]
  obtain ⟨h, hh⟩ : ∃ x, hasB k us i = x := ⟨_, rfl⟩
  have hc1 := clampN_le n
  obtain ⟨c, hc⟩ : ∃ x, clampN n = x := ⟨_, rfl⟩
  rw [hc] at hc1
  obtain ⟨Kc, hKc⟩ : ∃ x, wcount c = x := ⟨_, rfl⟩
  have hKc30 : Kc ≤ 30 := by rw [← hKc]; have := wcount_le hc1; omega
  obtain ⟨ow, how⟩ : ∃ x, ofW c l = x := ⟨_, rfl⟩
  obtain ⟨zw, hzw⟩ : ∃ x, List.replicate Kc 0 = x := ⟨_, rfl⟩
  have hol : ow.length = Kc := by rw [← how, ofW_length, hKc]
  have hzl : zw.length = Kc := by rw [← hzw, List.length_replicate]
  obtain ⟨nl, hnl⟩ : ∃ x : List Int, ((nums us).map fun (x : Nat) => (x : Int)) = x := ⟨_, rfl⟩
  have hT2 : T ≤ 1024 := by rw [← hT.out]; have := count_le ok1; have := ok1.le; omega
  have hnll : nl.length = T := by rw [← hnl, List.length_map, hT.out]
  rw [hnl] at HIr
  have HX0 : Hid (∀ W, Below y2.heap.size y2 W → SV W (.agg #[.int .i64 n1, .slice a1 L1 cap1]) n1 ws1) := fun W hW => HSV1.out.below (HBN.out.trans (hW.mono HBN.out.size))
  have hl30 : ws1.length ≤ 30 := by rw [HL1.out]; exact h31
  have HWdW : Hid (∀ W, Below y2.heap.size y2 W → Wd W.heap.size W a1 ws1) := fun W hW => (HW1.out.below (HBN.out.trans (hW.mono HBN.out.size))).mono (HBN.out.trans (hW.mono HBN.out.size)).size
  have HIl : Hid (∀ W, Below y2.heap.size y2 W → Is W.heap.size W al l) := fun W hW => (HIs.out.below (HBN.out.trans (hW.mono HBN.out.size))).mono (HBN.out.trans (hW.mono HBN.out.size)).size
  have F1 : Hid (∀ W, Below y2.heap.size y2 W → Calls Tryd.prog 14 #[.agg #[.int .i64 n1, .slice a1 L1 cap1]] W fun e w' => e = .returned (.bool sn) ∧ Below W.heap.size W w') := fun W hW => by
    have h := sane_any n1 a1 ws1 cap1 W (HWdW.out W hW) hl30
    rw [HL1.out, hsn.out] at h
    exact h
  have F2 : Hid (∀ W, Below y2.heap.size y2 W → Calls Tryd.prog 15 #[.agg #[.int .i64 n1, .slice a1 L1 cap1]] W fun e w' => e = .returned (.bool sn) ∧ Below W.heap.size W w') := fun W hW => by
    have h := Sane_ref n1 a1 ws1 cap1 W (HWdW.out W hW) hWB1 hl30
    rw [HL1.out, hsn.out] at h
    exact h
  have F3 : Hid (∀ W, Below y2.heap.size y2 W → Calls Tryd.prog 16 #[.agg #[.int .i64 n1, .slice a1 L1 cap1], .int .i64 i] W fun e w' => e = .returned (.bool h) ∧ Below W.heap.size W w') := fun W hW => by
    have h := Has_any _ n1 ws1 i W (HX0.out W hW) hl30 hWB1
    rw [HKU.out.1, HKU.out.2, hh] at h
    exact h
  have F4 : Hid (∀ W, Below y2.heap.size y2 W → Calls Tryd.prog 17 #[.agg #[.int .i64 n1, .slice a1 L1 cap1], .int .i64 i] W fun e w' => e = .returned (.bool h) ∧ Below W.heap.size W w') := fun W hW => Has_racts (hAX.below hW) i hh
  have F5 : Hid (∀ W, Below y2.heap.size y2 W → Calls Tryd.prog 20 #[.agg #[.int .i64 n1, .slice a1 L1 cap1], .int .i64 i] W fun e w' => ∃ a' cap', e = .returned (.agg #[.int .i64 (k : Int), .slice a' K cap']) ∧ FreshV 0 w' a' pw ∧ Below W.heap.size W w') := fun W hW => by
    have h := With_any _ n1 ws1 i W (HX0.out W hW) hl30 hWB1
    rw [HKU.out.1, HKU.out.2, hul, hpw] at h
    exact h.mono fun e w' ⟨a', cap', he, hF, hb⟩ => ⟨a', cap', he, hF.base (Nat.zero_le _), hb⟩
  have F7 : Hid (∀ W, Below y2.heap.size y2 W → Calls Tryd.prog 21 #[.agg #[.int .i64 n1, .slice a1 L1 cap1], .int .i64 i] W fun e w' => ∃ g, e = .returned (.agg #[.int .i64 (k : Int), .slice (some ⟨g, 0, none⟩) K K]) ∧ Fresh 0 w' g pw ∧ Below W.heap.size W w') := fun W hW => by
    have h := With_racts (hAX.below hW) i hK
    rw [hpw] at h
    exact h.mono fun e w' ⟨g, he, hF, hb⟩ => ⟨g, he, hF.base (Nat.zero_le _), hb⟩
  have F9 : Hid (∀ W, Below y2.heap.size y2 W → Calls Tryd.prog 22 #[.agg #[.int .i64 n1, .slice a1 L1 cap1], .int .i64 i] W fun e w' => ∃ a' cap', e = .returned (.agg #[.int .i64 (k : Int), .slice a' K cap']) ∧ FreshV 0 w' a' dw ∧ Below W.heap.size W w') := fun W hW => by
    have h := Without_any _ n1 ws1 i W (HX0.out W hW) hl30 hWB1
    rw [HKU.out.1, HKU.out.2, hul, hdw] at h
    exact h.mono fun e w' ⟨a', cap', he, hF, hb⟩ => ⟨a', cap', he, hF.base (Nat.zero_le _), hb⟩
  have F11 : Hid (∀ W, Below y2.heap.size y2 W → Calls Tryd.prog 23 #[.agg #[.int .i64 n1, .slice a1 L1 cap1], .int .i64 i] W fun e w' => ∃ g, e = .returned (.agg #[.int .i64 (k : Int), .slice (some ⟨g, 0, none⟩) K K]) ∧ Fresh 0 w' g dw ∧ Below W.heap.size W w') := fun W hW => by
    have h := Without_racts (hAX.below hW) i hK
    rw [hdw] at h
    exact h.mono fun e w' ⟨g, he, hF, hb⟩ => ⟨g, he, hF.base (Nat.zero_le _), hb⟩
  have FT : Hid (∀ W n a len cap, Calls Tryd.prog 19 #[.agg #[.int .i64 n, .slice a len cap]] W fun e w' => e = .returned (.agg #[.int .i64 n, .slice a len cap]) ∧ Below W.heap.size W w') := fun W n a len cap => theirs_any n a len cap W
  have E8 : Hid (∀ W a cp g, FreshV 0 W a pw → Fresh 0 W g pw → Calls Tryd.prog 18 #[.agg #[.int .i64 (k : Int), .slice a K cp], .agg #[.int .i64 (k : Int), .slice (some ⟨g, 0, none⟩) K K]] W fun e w' => e = .returned (.bool true) ∧ Below W.heap.size W w') := fun W a cp g h1 h2 => Equal_two h1.wd h2.wd hpl hK30
  have E12 : Hid (∀ W a cp g, FreshV 0 W a dw → Fresh 0 W g dw → Calls Tryd.prog 18 #[.agg #[.int .i64 (k : Int), .slice a K cp], .agg #[.int .i64 (k : Int), .slice (some ⟨g, 0, none⟩) K K]] W fun e w' => e = .returned (.bool true) ∧ Below W.heap.size W w') := fun W a cp g h1 h2 => Equal_two h1.wd h2.wd hdl hK30
  have E19 : Hid (∀ W g' g, Fresh 0 W g' ow → Fresh 0 W g ow → Calls Tryd.prog 18 #[.agg #[.int .i64 (c : Int), .slice (some ⟨g', 0, none⟩) Kc Kc], .agg #[.int .i64 (c : Int), .slice (some ⟨g, 0, none⟩) Kc Kc]] W fun e w' => e = .returned (.bool true) ∧ Below W.heap.size W w') := fun W g' g h1 h2 => Equal_two h1.wd h2.wd hol hKc30
  have E23 : Hid (∀ W g' g, Fresh 0 W g' zw → Fresh 0 W g zw → Calls Tryd.prog 18 #[.agg #[.int .i64 (c : Int), .slice (some ⟨g', 0, none⟩) Kc Kc], .agg #[.int .i64 (c : Int), .slice (some ⟨g, 0, none⟩) Kc Kc]] W fun e w' => e = .returned (.bool true) ∧ Below W.heap.size W w') := fun W g' g h1 h2 => Equal_two h1.wd h2.wd hzl hKc30
  have F13 : Hid (∀ W, Below y2.heap.size y2 W → Calls Tryd.prog 25 #[.agg #[.int .i64 n1, .slice a1 L1 cap1]] W fun e w' => ∃ a cap, e = .returned (.slice a T cap) ∧ Is w'.heap.size w' a nl ∧ Below W.heap.size W w') := fun W hW => by
    have h := List_any _ n1 ws1 W (HX0.out W hW) hl30 hWB1 (hTr.below hW)
    rw [HKU.out.2] at h
    refine h.mono ?_
    rintro e w' ⟨u, rfl, hown, hb⟩
    obtain ⟨a, cap, rfl, hI⟩ := is_of_owns hown
    rw [hnl] at hI
    exact ⟨a, cap, by rw [hT.out], hI, hb⟩
  have F14 : Hid (∀ W a cp, Below y2.heap.size y2 W → Is W.heap.size W a nl → Calls Tryd.prog 24 #[.slice a T cp, .slice ar T cr] W fun e w' => e = .returned (.bool true) ∧ Below W.heap.size W w') := fun W a cp hW hI => by
    have h := Ints_ref a ar nl nl cp cr W hI ((HIr.out.below hW).mono hW.size) (by omega)
    rw [hnll, show decide (nl = nl) = true by simp] at h
    exact h
  have F15 : Hid (∀ W, Below y2.heap.size y2 W → Calls Tryd.prog 26 #[.agg #[.int .i64 n1, .slice a1 L1 cap1]] W fun e w' => e = .returned (.int .i64 (T : Int)) ∧ Below W.heap.size W w') := fun W hW => Count_acts (hAX.below hW) (hTr.below hW) hT.out
  have F16 : Hid (∀ W, Below y2.heap.size y2 W → Calls Tryd.prog 27 #[.int .i64 n, .slice al Ll capl] W fun e w' => ∃ g, e = .returned (.agg #[.int .i64 (c : Int), .slice (some ⟨g, 0, none⟩) Kc Kc]) ∧ Fresh 0 w' g ow ∧ Below W.heap.size W w') := fun W hW => by
    have h := Of_any n al l capl W (HIl.out W hW) (by have := HLl.out; omega)
    rw [HLl.out, hc, hKc, how] at h
    exact h.mono fun e w' ⟨g, he, hF, hb⟩ => ⟨g, he, hF.base (Nat.zero_le _), hb⟩
  have F18 : Hid (∀ W, Below y2.heap.size y2 W → Calls Tryd.prog 28 #[.int .i64 n, .slice al Ll capl] W fun e w' => ∃ g, e = .returned (.agg #[.int .i64 (c : Int), .slice (some ⟨g, 0, none⟩) Kc Kc]) ∧ Fresh 0 w' g ow ∧ Below W.heap.size W w') := fun W hW => by
    have h := Of_ref n al l capl W (HIl.out W hW) (by have := HLl.out; omega)
    rw [HLl.out, hc, hKc, how] at h
    exact h.mono fun e w' ⟨g, he, hF, hb⟩ => ⟨g, he, hF.base (Nat.zero_le _), hb⟩
  have F20 : Hid (∀ W, Below y2.heap.size y2 W → Calls Tryd.prog 29 #[.int .i64 n] W fun e w' => ∃ g, e = .returned (.agg #[.int .i64 (c : Int), .slice (some ⟨g, 0, none⟩) Kc Kc]) ∧ Fresh 0 w' g zw ∧ Below W.heap.size W w') := fun W hW => by
    have h := new_any n W
    rw [hc, hKc, hzw] at h
    exact h.mono fun e w' ⟨g, he, hF, hb⟩ => ⟨g, he, hF.base (Nat.zero_le _), hb⟩
  have F22 : Hid (∀ W, Below y2.heap.size y2 W → Calls Tryd.prog 30 #[.int .i64 n] W fun e w' => ∃ g, e = .returned (.agg #[.int .i64 (c : Int), .slice (some ⟨g, 0, none⟩) Kc Kc]) ∧ Fresh 0 w' g zw ∧ Below W.heap.size W w') := fun W hW => by
    have h := New_ref n W
    rw [hc, hKc, hzw] at h
    exact h.mono fun e w' ⟨g, he, hF, hb⟩ => ⟨g, he, hF.base (Nat.zero_le _), hb⟩
  have hS : Hid (∀ w', Below y2.heap.size y2 w' → w'.cell? ⟨w.heap.size, 0, none⟩ = some (.int .i64 n1) ∧ w'.cell? ⟨w.heap.size, 1, none⟩ = some (.slice a1 L1 cap1) ∧ w'.cell? ⟨b10, 0, none⟩ = some (.int .i64 n1) ∧ w'.cell? ⟨b10, 1, none⟩ = some (.slice a1 L1 cap1)) := fun W h =>
    ⟨(h.cell (p := ⟨w.heap.size, 0, none⟩) HA.out.lt).trans HA.out.c0, (h.cell (p := ⟨w.heap.size, 1, none⟩) HA.out.lt).trans HA.out.c1, (h.cell (p := ⟨b10, 0, none⟩) HX.out.lt).trans HX.out.c0, (h.cell (p := ⟨b10, 1, none⟩) HX.out.lt).trans HX.out.c1⟩
  have g1 : (sn == sn) = true := by simp
  have g2 : (h == h) = true := by simp
  have g3 : ((T : Int) == (T : Int)) = true := by simp
  have HW0 := HBN
  clear HBN
  have HBN : Hid (Below y2.heap.size y2 y2.drew) := (Below.refl _ _).drew
  clear HA1 HT hTr hAX ok1 hK hul hK30 hpw hdw hpl hdl hh hc1 hc hKc hKc30 how hzw hol hzl hnl hnll HX0 hl30 HWdW HIl HA HX HSV1 HL1 HLl HIs HKU HW1 hsn hT HIr hWB1
  have tok1 : True := trivial
  have tok2 : True := trivial
  have tok3 : True := trivial
  have tok4 : True := trivial
  have tok5 : True := trivial
  have tok6 : True := trivial
  have tok7 : True := trivial
  have tok8 : True := trivial
  have tok9 : True := trivial
  have tok10 : True := trivial
  have tok11 : True := trivial
  have tok12 : True := trivial
  have tok13 : True := trivial
  have tok14 : True := trivial
  have tok15 : True := trivial
  have tok16 : True := trivial
  have tok17 : True := trivial
  have tok18 : True := trivial
  have tok19 : True := trivial
  have tok20 : True := trivial
  have tok21 : True := trivial
  have tok22 : True := trivial
  have tok23 : True := trivial
  simp only [List.append_eq, List.cons_append, List.nil_append]
  go_region_held3 (fun w' => w'.cell? ⟨w.heap.size, 0, none⟩ = some (.int .i64 n1) ∧ w'.cell? ⟨w.heap.size, 1, none⟩ = some (.slice a1 L1 cap1) ∧ w'.cell? ⟨b10, 0, none⟩ = some (.int .i64 n1) ∧ w'.cell? ⟨b10, 1, none⟩ = some (.slice a1 L1 cap1))
    (first | exact hS.out _ HBN.out)
    (first
      | (have _t := tok1; go_at_call 14; refine (F1.out _ HBN.out).mono ?_; clear _t tok1; rintro e wn ⟨rfl, hbn⟩; have hbx := HBN.out.trans (hbn.mono HBN.out.size); clear HBN hbn; have HBN := Lib.hid hbx; clear hbx)
      | (have _t := tok2; go_at_call 15; refine (F2.out _ HBN.out).mono ?_; clear _t tok2; rintro e wn ⟨rfl, hbn⟩; have hbx := HBN.out.trans (hbn.mono HBN.out.size); clear HBN hbn; have HBN := Lib.hid hbx; clear hbx)
      | (have _t := tok3; go_at_call 16; refine (F3.out _ HBN.out).mono ?_; clear _t tok3; rintro e wn ⟨rfl, hbn⟩; have hbx := HBN.out.trans (hbn.mono HBN.out.size); clear HBN hbn; have HBN := Lib.hid hbx; clear hbx)
      | (have _t := tok4; go_at_call 17; refine (F4.out _ HBN.out).mono ?_; clear _t tok4; rintro e wn ⟨rfl, hbn⟩; have hbx := HBN.out.trans (hbn.mono HBN.out.size); clear HBN hbn; have HBN := Lib.hid hbx; clear hbx)
      | (have _t := tok5; go_at_call 20; refine (F5.out _ HBN.out).mono ?_; clear _t tok5; rintro e wn ⟨a5, cap5, rfl, hF, hbn⟩; have hbx := HBN.out.trans (hbn.mono HBN.out.size); clear HBN hbn; have HBN := Lib.hid hbx; clear hbx; have Hv5 := Lib.hid hF; clear hF)
      | (have _t := tok6; go_at_call 19; refine (FT.out _ _ _ _ _).mono ?_; clear _t tok6; rintro e wn ⟨rfl, hbn⟩; have hFv5 := Hv5.out.below hbn; clear Hv5; have Hv5 := Lib.hid hFv5; clear hFv5; have hbx := HBN.out.trans (hbn.mono HBN.out.size); clear HBN hbn; have HBN := Lib.hid hbx; clear hbx)
      | (have _t := tok7; go_at_call 21; refine (F7.out _ HBN.out).mono ?_; clear _t tok7; rintro e wn ⟨g7, rfl, hF, hbn⟩; have hFv5 := Hv5.out.below hbn; clear Hv5; have Hv5 := Lib.hid hFv5; clear hFv5; have hbx := HBN.out.trans (hbn.mono HBN.out.size); clear HBN hbn; have HBN := Lib.hid hbx; clear hbx; have Hg7 := Lib.hid hF; clear hF)
      | (have _t := tok8; go_at_call 18; refine (E8.out _ _ _ _ Hv5.out Hg7.out).mono ?_; clear _t tok8; rintro e wn ⟨rfl, hbn⟩; have hbx := HBN.out.trans (hbn.mono HBN.out.size); clear HBN hbn; have HBN := Lib.hid hbx; clear hbx)
      | (have _t := tok9; go_at_call 22; refine (F9.out _ HBN.out).mono ?_; clear _t tok9; rintro e wn ⟨a9, cap9, rfl, hF, hbn⟩; have hbx := HBN.out.trans (hbn.mono HBN.out.size); clear HBN hbn; have HBN := Lib.hid hbx; clear hbx; have Hv9 := Lib.hid hF; clear hF)
      | (have _t := tok10; go_at_call 19; refine (FT.out _ _ _ _ _).mono ?_; clear _t tok10; rintro e wn ⟨rfl, hbn⟩; have hFv9 := Hv9.out.below hbn; clear Hv9; have Hv9 := Lib.hid hFv9; clear hFv9; have hbx := HBN.out.trans (hbn.mono HBN.out.size); clear HBN hbn; have HBN := Lib.hid hbx; clear hbx)
      | (have _t := tok11; go_at_call 23; refine (F11.out _ HBN.out).mono ?_; clear _t tok11; rintro e wn ⟨g11, rfl, hF, hbn⟩; have hFv9 := Hv9.out.below hbn; clear Hv9; have Hv9 := Lib.hid hFv9; clear hFv9; have hbx := HBN.out.trans (hbn.mono HBN.out.size); clear HBN hbn; have HBN := Lib.hid hbx; clear hbx; have Hg11 := Lib.hid hF; clear hF)
      | (have _t := tok12; go_at_call 18; refine (E12.out _ _ _ _ Hv9.out Hg11.out).mono ?_; clear _t tok12; rintro e wn ⟨rfl, hbn⟩; have hbx := HBN.out.trans (hbn.mono HBN.out.size); clear HBN hbn; have HBN := Lib.hid hbx; clear hbx)
      | (have _t := tok13; go_at_call 25; refine (F13.out _ HBN.out).mono ?_; clear _t tok13; rintro e wn ⟨a13, cap13, rfl, hF, hbn⟩; have hbx := HBN.out.trans (hbn.mono HBN.out.size); clear HBN hbn; have HBN := Lib.hid hbx; clear hbx; have Hv13 := Lib.hid hF; clear hF)
      | (have _t := tok14; go_at_call 24; refine (F14.out _ _ _ HBN.out Hv13.out).mono ?_; clear _t tok14; rintro e wn ⟨rfl, hbn⟩; have hbx := HBN.out.trans (hbn.mono HBN.out.size); clear HBN hbn; have HBN := Lib.hid hbx; clear hbx)
      | (have _t := tok15; go_at_call 26; refine (F15.out _ HBN.out).mono ?_; clear _t tok15; rintro e wn ⟨rfl, hbn⟩; have hbx := HBN.out.trans (hbn.mono HBN.out.size); clear HBN hbn; have HBN := Lib.hid hbx; clear hbx)
      | (have _t := tok16; go_at_call 27; refine (F16.out _ HBN.out).mono ?_; clear _t tok16; rintro e wn ⟨g16, rfl, hF, hbn⟩; have hbx := HBN.out.trans (hbn.mono HBN.out.size); clear HBN hbn; have HBN := Lib.hid hbx; clear hbx; have Hg16 := Lib.hid hF; clear hF)
      | (have _t := tok17; go_at_call 19; refine (FT.out _ _ _ _ _).mono ?_; clear _t tok17; rintro e wn ⟨rfl, hbn⟩; have hFg16 := Hg16.out.below hbn Hg16.out.lt; clear Hg16; have Hg16 := Lib.hid hFg16; clear hFg16; have hbx := HBN.out.trans (hbn.mono HBN.out.size); clear HBN hbn; have HBN := Lib.hid hbx; clear hbx)
      | (have _t := tok18; go_at_call 28; refine (F18.out _ HBN.out).mono ?_; clear _t tok18; rintro e wn ⟨g18, rfl, hF, hbn⟩; have hFg16 := Hg16.out.below hbn Hg16.out.lt; clear Hg16; have Hg16 := Lib.hid hFg16; clear hFg16; have hbx := HBN.out.trans (hbn.mono HBN.out.size); clear HBN hbn; have HBN := Lib.hid hbx; clear hbx; have Hg18 := Lib.hid hF; clear hF)
      | (have _t := tok19; go_at_call 18; refine (E19.out _ _ _ Hg16.out Hg18.out).mono ?_; clear _t tok19; rintro e wn ⟨rfl, hbn⟩; have hbx := HBN.out.trans (hbn.mono HBN.out.size); clear HBN hbn; have HBN := Lib.hid hbx; clear hbx)
      | (have _t := tok20; go_at_call 29; refine (F20.out _ HBN.out).mono ?_; clear _t tok20; rintro e wn ⟨g20, rfl, hF, hbn⟩; have hbx := HBN.out.trans (hbn.mono HBN.out.size); clear HBN hbn; have HBN := Lib.hid hbx; clear hbx; have Hg20 := Lib.hid hF; clear hF)
      | (have _t := tok21; go_at_call 19; refine (FT.out _ _ _ _ _).mono ?_; clear _t tok21; rintro e wn ⟨rfl, hbn⟩; have hFg20 := Hg20.out.below hbn Hg20.out.lt; clear Hg20; have Hg20 := Lib.hid hFg20; clear hFg20; have hbx := HBN.out.trans (hbn.mono HBN.out.size); clear HBN hbn; have HBN := Lib.hid hbx; clear hbx)
      | (have _t := tok22; go_at_call 30; refine (F22.out _ HBN.out).mono ?_; clear _t tok22; rintro e wn ⟨g22, rfl, hF, hbn⟩; have hFg20 := Hg20.out.below hbn Hg20.out.lt; clear Hg20; have Hg20 := Lib.hid hFg20; clear hFg20; have hbx := HBN.out.trans (hbn.mono HBN.out.size); clear HBN hbn; have HBN := Lib.hid hbx; clear hbx; have Hg22 := Lib.hid hF; clear hF)
      | (have _t := tok23; go_at_call 18; refine (E23.out _ _ _ Hg20.out Hg22.out).mono ?_; clear _t tok23; rintro e wn ⟨rfl, hbn⟩; have hbx := HBN.out.trans (hbn.mono HBN.out.size); clear HBN hbn; have HBN := Lib.hid hbx; clear hbx))
  all_goals
    go_wp2_with fail
    go_ret
    exact ⟨rfl, HW0.out.trans (HBN.out.mono HW0.out.size)⟩
end Go.Proofs.YtjlofjoekpoepaaDoor
