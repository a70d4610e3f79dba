import Derived.Test.YtjlofjoekpoepaaDoorP
namespace Go.Proofs.YtjlofjoekpoepaaDoor
open Go Go.RowKit Go.Sort

set_option maxRecDepth 100000 in
set_option maxHeartbeats 2000000 in
/-- Equal, of the document's answer: the same, word by word. -/
theorem Equal_ref (n1 n2 : Int) (a1 a2 : Option Addr) (w1 w2 : List Nat) (c1 c2 : Nat) (w : World) (h1 : Wd w.heap.size w a1 w1) (h2 : Wd w.heap.size w a2 w2) (hl1 : w1.length ≤ 30) :
    Calls Tryd.prog 18 #[.agg #[.int .i64 n1, .slice a1 w1.length c1], .agg #[.int .i64 n2, .slice a2 w2.length c2]] w fun e w' => e = .returned (.bool (decide (n1 = n2 ∧ w1 = w2))) ∧ Below w.heap.size w w' := by
  obtain ⟨L, hL⟩ : ∃ L, w1.length = L := ⟨_, rfl⟩
  obtain ⟨M, hM⟩ : ∃ M, w2.length = M := ⟨_, rfl⟩
  rw [hL, hM]
  have hW1 : Below w.heap.size w ((w.alloc (.cells #[.int .i64 n1, .slice a1 L c1] 24)).alloc (.cells #[.int .i64 n2, .slice a2 M c2] 24)) := ((Below.refl _ _).alloc (Nat.le_refl _) _).alloc (by simp) _
  have BX := (Box.new w (.int .i64 n1) (.slice a1 L c1) 24).alloc (.cells #[.int .i64 n2, .slice a2 M c2] 24)
  have BY := Box.new (w.alloc (.cells #[.int .i64 n1, .slice a1 L c1] 24)) (.int .i64 n2) (.slice a2 M c2) 24
  simp only [World.size_alloc] at BY
  generalize hW : (w.alloc (.cells #[.int .i64 n1, .slice a1 L c1] 24)).alloc (.cells #[.int .i64 n2, .slice a2 M c2] 24) = W1 at *
  obtain ⟨x0, x1, -, -⟩ := id BX
  obtain ⟨y0, y1, -, -⟩ := id BY
  have HBX := Lib.hid BX
  have HBY := Lib.hid BY
  have HW1 := Lib.hid hW1
  clear BX BY hW1
  by_cases hn : n1 = n2
  · have hbn : (n1 != n2) = false := by simp [hn]
    have HE : Hid (decide (n1 = n2 ∧ w1 = w2) = decide (w1 = w2)) := by show _ = _; simp [hn]
    clear hn
    by_cases hl : L = M
    · subst hl
      have hb0 : ((L : Int) != (L : Int)) = false := by simp
      have H1 := Lib.hid h1
      have H2 := Lib.hid h2
      rw [hL] at hl1
      have HL := Lib.hid hL
      have HL2 := Lib.hid hM
      rw [HE.out]
      clear h1 h2 hL hM HE
      go_enter Tryd.func18, Tryd.ntmps18
      go_wp2
      clear x0 x1 y0 y1 hW
      go_loopw [5] (fun i wr => ∃ k : Nat, k ≤ L ∧ i = .int .i64 k ∧ Hid (w1.take k = w2.take k) ∧ Hid (Below W1.heap.size W1 wr)) (fun i _ => L - (intOf i).toNat)
      case atStart => exact ⟨0, Nat.zero_le _, rfl, Lib.hid rfl, Below.refl _ _⟩
      case round =>
        obtain ⟨k, hk, rfl, hpre, hnx⟩ := hrel
        obtain ⟨x0, x1, -, -⟩ := HBX.out.below hnx.out HBX.out.lt
        obtain ⟨y0, y1, -, -⟩ := HBY.out.below hnx.out HBY.out.lt
        have HB := Lib.hid (HW1.out.trans (hnx.out.mono HW1.out.size))
        by_cases hlt : k < L
        · obtain ⟨b1, o1, rfl, hb1, e1⟩ := H1.out k (by rw [HL.out]; exact hlt)
          obtain ⟨b2, o2, rfl, hb2, e2⟩ := H2.out k (by rw [HL2.out]; exact hlt)
          have g1 := (HB.out.cell (p := ⟨b1, o1 + k, none⟩) hb1).trans e1
          have g2 := (HB.out.cell (p := ⟨b2, o2 + k, none⟩) hb2).trans e2
          obtain ⟨x, hx⟩ : ∃ x, w1[k]?.getD 0 = x := ⟨_, rfl⟩
          obtain ⟨y, hy⟩ : ∃ y, w2[k]?.getD 0 = y := ⟨_, rfl⟩
          rw [hx] at g1
          rw [hy] at g2
          have HX := Lib.hid hx
          have HY := Lib.hid hy
          have hki : (k : Int) < (L : Int) := by omega
          clear e1 e2 hx hy
          by_cases hxy : x = y
          · subst hxy
            have hbb : ((x : Int) != (x : Int)) = false := by simp
            go_wp2
            go_quiet (fail)
            go_wp2
            go_roundw
            case rel =>
              refine ⟨k + 1, by omega, by go_num, ?_, below_drewN hnx.out _⟩
              have i1 : k < w1.length := by rw [HL.out]; exact hlt
              have i2 : k < w2.length := by rw [HL2.out]; exact hlt
              have e1 := HX.out
              have e2 := HY.out
              simp only [i1, i2, List.getElem?_eq_getElem, Option.getD_some] at e1 e2
              show w1.take (k + 1) = w2.take (k + 1)
              rw [List.take_succ_eq_append_getElem i1, List.take_succ_eq_append_getElem i2, hpre.out, e1, e2]
            case measure => simp [intOf]; omega
          · have hbb : ((x : Int) != (y : Int)) = true := by rw [bne_iff_ne]; omega
            have HXY := Lib.hid hxy
            clear hxy
            go_wp2
            go_quiet (fail)
            go_wp2
            go_ret
            refine ⟨ret_bool ?_, below_drewN HB.out _⟩
            rw [eq_comm, decide_eq_false_iff_not]
            intro he
            apply HXY.out
            rw [← HX.out, ← HY.out, he]
        · obtain rfl : k = L := by omega
          go_wp2
          go_ret
          refine ⟨ret_bool ?_, HB.out⟩
          have := hpre.out
          rw [List.take_of_length_le (by rw [HL.out]; exact Nat.le_refl _), List.take_of_length_le (by rw [HL2.out]; exact Nat.le_refl _)] at this
          simp [this]
    · have hb0 : ((L : Int) != (M : Int)) = true := by rw [bne_iff_ne]; omega
      have hd : decide (n1 = n2 ∧ w1 = w2) = false := by
        rw [decide_eq_false_iff_not]
        intro h
        apply hl
        rw [← hL, ← hM, h.2]
      rw [hd]
      clear h1 h2 hl hd hL hM
      go_enter Tryd.func18, Tryd.ntmps18
      go_wp2
      go_ret
      exact ⟨rfl, HW1.out⟩
  · have hbn : (n1 != n2) = true := by simpa using hn
    have hd : decide (n1 = n2 ∧ w1 = w2) = false := by simp [hn]
    rw [hd]
    clear h1 h2 hd hL hM hn
    go_enter Tryd.func18, Tryd.ntmps18
    go_wp2
    go_ret
    exact ⟨rfl, HW1.out⟩
end Go.Proofs.YtjlofjoekpoepaaDoor
