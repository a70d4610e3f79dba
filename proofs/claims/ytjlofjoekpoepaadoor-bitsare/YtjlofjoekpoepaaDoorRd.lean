import Derived.Test.YtjlofjoekpoepaaDoorRc
namespace Go.Proofs.YtjlofjoekpoepaaDoor
open Go Go.RowKit Go.Sort

set_option maxRecDepth 100000 in
set_option maxHeartbeats 2000000 in
/-- Of, of the document's answer. -/
theorem Of_ref (n : Int) (a : Option Addr) (l : List Int) (cap : Nat) (w : World) (hIs : Is w.heap.size w a l) (hl : l.length ≤ 2000) :
    Calls Tryd.prog 28 #[.int .i64 n, .slice a l.length cap] w fun e w' => ∃ g, e = .returned (.agg #[.int .i64 (clampN n : Nat), .slice (some ⟨g, 0, none⟩) (wcount (clampN n)) (wcount (clampN n))]) ∧
      Fresh w.heap.size w' g (ofW (clampN n) l) ∧ Below w.heap.size w w' := by
  have hW1 : Below w.heap.size w (w.alloc (.cells #[.int .i64 0, .slice none 0 0] 24)) := (Below.refl _ _).alloc (Nat.le_refl _) _
  have BR := Box.new w (.int .i64 0) (.slice none 0 0) 24
  have hs1 : (w.alloc (.cells #[.int .i64 0, .slice none 0 0] 24)).heap.size = w.heap.size + 1 := by simp
  generalize hW : w.alloc (.cells #[.int .i64 0, .slice none 0 0] 24) = W1 at *
  have HN := Lib.hid (New_ref n W1)
  have hcl := clampN_le n
  generalize clampN n = c at *
  obtain ⟨k, hk⟩ : ∃ k, wcount c = k := ⟨_, rfl⟩
  rw [hk] at HN ⊢
  have HK := Lib.hid hk
  have HIs := Lib.hid hIs
  obtain ⟨L, hL⟩ : ∃ L, l.length = L := ⟨_, rfl⟩
  rw [hL] at hl ⊢
  have HL := Lib.hid hL
  have HW1 := Lib.hid hW1
  clear hIs hL hk hW1
  go_enter Tryd.func28, Tryd.ntmps28
  go_wp2_with fail
  refine HN.out.mono ?_
  clear HN
  rintro e w1 ⟨g, rfl, hF, hb⟩
  have BR1 := BR.below hb BR.lt
  have hgl := hF.lt
  have hg1 := hF.1
  have HF := Lib.hid hF
  have HB := Lib.hid hb
  clear hF hb hW BR
  go_wp2_with fail
  have hb1 : Below w.heap.size w w1 := HW1.out.trans (HB.out.mono HW1.out.size)
  have BX := Box.new w1 (.int .i64 (c : Int)) (.slice (some ⟨g, 0, none⟩) k k) 24
  have BR2 := BR1.alloc (.cells #[.int .i64 (c : Int), .slice (some ⟨g, 0, none⟩) k k] 24)
  have hb2 := hb1.alloc hb1.size (.cells #[.int .i64 (c : Int), .slice (some ⟨g, 0, none⟩) k k] 24)
  have hF2 : Fresh w.heap.size (w1.alloc (.cells #[.int .i64 (c : Int), .slice (some ⟨g, 0, none⟩) k k] 24)) g (ofW c []) := by
    have h1 := HF.out.below ((Below.refl w1.heap.size w1).alloc (Nat.le_refl _) (.cells #[.int .i64 (c : Int), .slice (some ⟨g, 0, none⟩) k k] 24)) hgl
    have e : ofW c [] = List.replicate k 0 := by simp [ofW, HK.out]
    rw [e]
    exact h1.base (by omega)
  obtain ⟨b5, hb5⟩ : ∃ b5, w1.heap.size = b5 := ⟨_, rfl⟩
  rw [hb5] at BX ⊢
  rw [hb5] at hgl
  have HB5 := Lib.hid hb5
  clear hb5 BR1 hb1
  generalize w1.alloc (.cells #[.int .i64 (c : Int), .slice (some ⟨g, 0, none⟩) k k] 24) = W2 at *
  go_loopw [6] (fun i wr => ∃ q : Nat, q ≤ L ∧ i = .int .i64 q ∧ Hid (Fresh w.heap.size wr g (ofW c (l.take q))) ∧ Hid (Box wr b5 (.int .i64 (c : Int)) (.slice (some ⟨g, 0, none⟩) k k)) ∧ Hid (Box wr w.heap.size (.int .i64 0) (.slice none 0 0)) ∧ Hid (Below w.heap.size w wr)) (fun i _ => L - (intOf i).toNat)
  case atStart => exact ⟨0, Nat.zero_le _, rfl, hF2, BX, BR2, hb2⟩
  case round =>
    clear hF2 BX BR2 hb2
    obtain ⟨q, hq, rfl, hF, hBX, hBR, hB⟩ := hrel
    by_cases hlt : q < L
    · obtain ⟨b, o, rfl, hbl, hcell⟩ := HIs.out q (by rw [HL.out]; exact hlt)
      have hcx := (hB.out.cell (p := ⟨b, o + q, none⟩) hbl).trans hcell
      obtain ⟨x, hx⟩ : ∃ x, l[q]?.getD 0 = x := ⟨_, rfl⟩
      rw [hx] at hcx
      have HX : Hid (l.take (q + 1) = l.take q ++ [x]) := by
        have hi : q < l.length := by rw [HL.out]; exact hlt
        have e : l.take (q + 1) = l.take q ++ [l[q]] := List.take_succ_eq_append_getElem hi
        rw [Hid, e, ← hx]
        simp [hi]
      have hlw : (ofW c (l.take q)).length = k := by rw [ofW_length]; exact HK.out
      obtain ⟨x0, x1, _, _⟩ := hBX.out
      have hqi : (q : Int) < (L : Int) := by omega
      have kc := hcx
      by_cases hin : 0 ≤ x ∧ x < (c : Int)
      · obtain ⟨j, rfl⟩ := Int.eq_ofNat_of_zero_le hin.1
        have d0 : decide (0 ≤ (j : Int)) = true := by simp
        have d1 : decide ((j : Int) < (c : Int)) = true := by simp; omega
        have hjc : j < c := by omega
        have HLW := Lib.hid hlw
        have HJC := Lib.hid hjc
        clear hcell hx hlw hjc
        go_wp2_with fail
        go_quiet (fail)
        go_wp2_with fail
        clear x0 x1 kc
        have hd := below_drewN (Below.refl wr.heap.size wr) nq
        have hF2 := hF.out.below hd hF.out.lt
        have BX2 := hBX.out.below hd hBX.out.lt
        have BR2 := hBR.out.below hd hBR.out.lt
        have hB2 := hB.out.trans (hd.mono hB.out.size)
        have hc2 := (hd.cell (p := ⟨b, o + q, none⟩) (Nat.lt_of_lt_of_le hbl hB.out.size)).trans hcx
        clear hcx hd
        generalize wr.drewN nq = wq at *
        have HP := Lib.hid (put_ref w.heap.size c g k (ofW c (l.take q)) j wq.drew (hF2.below (Below.refl _ wq).drew hF2.lt) hcl (ofW_length _ _) (ofW_wb _ _) HJC.out)
        rw [HLW.out] at HP
        have HG1 := Lib.hid hF2.1
        have HBX := Lib.hid BX2.drew
        have HBR := Lib.hid BR2.drew
        have HB2 := Lib.hid hB2.drew
        obtain ⟨x0, x1, _, _⟩ := BX2
        clear hF2 BR2 hB2 hF hBX hBR hB
        go_region_with (go_at_call 51; refine HP.out.mono ?_; clear HP x0 x1 hc2; rintro e w3 ⟨rfl, hF3, hg3⟩; have hBX3 := HBX.out.grown hg3 (by simp; omega); have H4 := Lib.hid hBX3; have H5 := Lib.hid (HBR.out.grown hg3 (by simp; have := HG1.out; omega)); have H6 := Lib.hid (Below.grownBy HB2.out hg3 HB2.out.size HG1.out); have H3 := Lib.hid hF3; obtain ⟨y0, y1, y2, y3⟩ := hBX3; clear hF3 hg3)
        all_goals
          have B7 := Lib.hid (H4.out.put (.int .i64 (c : Int)) (.slice (some ⟨g, 0, none⟩) k k))
          have R7 := Lib.hid (H5.out.other (b' := b5) (by omega) (.int .i64 (c : Int)) (.slice (some ⟨g, 0, none⟩) k k))
          have F7 := Lib.hid (H3.out.block (heap_put2 w3 b5 g (.int .i64 (c : Int)) (.slice (some ⟨g, 0, none⟩) k k) (by omega)))
          have W7 := Lib.hid (below_put2 H6.out (b := b5) (by omega) (.int .i64 (c : Int)) (.slice (some ⟨g, 0, none⟩) k k))
          go_wp2
          go_roundw
          case rel => exact ⟨q + 1, by omega, by go_num, by rw [HX.out, ofW_snoc]; exact F7, B7, R7, W7⟩
          case measure => simp [intOf]; omega
      · have HPW : Hid (putW c (ofW c (l.take q)) x = ofW c (l.take q)) := by show _ = _; simp [putW, hin]
        have hd := fun nq => below_drewN (Below.refl wr.heap.size wr) nq
        have HD := Lib.hid hd
        clear hcell hx hlw hd
        by_cases hx0 : 0 ≤ x
        · have d0 : decide (0 ≤ x) = true := by simpa using hx0
          have d1 : decide (x < (c : Int)) = false := by simp; omega
          go_wp2_with fail
          go_quiet (fail)
          go_wp2_with fail
          go_roundw
          case rel => exact ⟨q + 1, by omega, by go_num, by rw [HX.out, ofW_snoc, HPW.out]; exact hF.out.below (HD.out _) hF.out.lt, hBX.out.below (HD.out _) hBX.out.lt, hBR.out.below (HD.out _) hBR.out.lt, hB.out.trans ((HD.out _).mono hB.out.size)⟩
          case measure => simp [intOf]; omega
        · have d0 : decide (0 ≤ x) = false := by simpa using hx0
          go_wp2_with fail
          go_quiet (fail)
          go_wp2_with fail
          go_roundw
          case rel => exact ⟨q + 1, by omega, by go_num, by rw [HX.out, ofW_snoc, HPW.out]; exact hF.out.below (HD.out _) hF.out.lt, hBX.out.below (HD.out _) hBX.out.lt, hBR.out.below (HD.out _) hBR.out.lt, hB.out.trans ((HD.out _).mono hB.out.size)⟩
          case measure => simp [intOf]; omega
    · obtain rfl : q = L := by omega
      have hF' := hF.out
      rw [List.take_of_length_le (by rw [HL.out]; exact Nat.le_refl _)] at hF'
      have HF' := Lib.hid hF'
      obtain ⟨x0, x1, _, _⟩ := hBX.out
      obtain ⟨y0, y1, f0, f1⟩ := hBR.out
      clear hF hF'
      go_wp2
      have hput := below_put2 hB.out (b := w.heap.size) (Nat.le_refl _) (.int .i64 (c : Int)) (.slice (some ⟨g, 0, none⟩) k k)
      refine bodyPost_ret (v := .agg #[.int .i64 (c : Int), .slice (some ⟨g, 0, none⟩) k k]) (by simp [results, Tryd.results28, go_sem, y0, y1]) rfl ⟨g, rfl, HF'.out.block (heap_put2 _ _ _ _ _ (by omega)), hput⟩
end Go.Proofs.YtjlofjoekpoepaaDoor
