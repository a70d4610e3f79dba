import Derived.Deep.RegionWith
import Derived.Deep.DeepCutAuto
import Derived.Test.YtjlofjoekpoepaaDoorD
namespace Go.Proofs.YtjlofjoekpoepaaDoor
open Go Go.RowKit Go.Sort

set_option maxHeartbeats 1000000 in
theorem Equal_any (a1 a2 : Option Addr) (w1 w2 : List Nat) (c1 c2 : Nat) (w : World) (h1 : Wd w.heap.size w a1 w1) (h2 : Wd w.heap.size w a2 w2) (hl1 : w1.length ≤ 16) :
    Calls Tryd.prog 57 #[.slice a1 w1.length c1, .slice a2 w2.length c2] w fun e w' => e = .returned (.bool (decide (w1 = w2))) ∧ Below w.heap.size w w' := by
  by_cases hl : w1.length = w2.length
  · have H1 := Lib.hid h1
    have H2 := Lib.hid h2
    obtain ⟨L, hL⟩ : ∃ L, w1.length = L := ⟨_, rfl⟩
    have hL2 : w2.length = L := by omega
    rw [hL] at hl1
    rw [hL, hL2]
    have HL := Lib.hid hL
    have HL2 := Lib.hid hL2
    have hb0 : ((L : Int) != (L : Int)) = false := by simp
    clear h1 h2 hl hL hL2
    go_enter Tryd.func57, Tryd.ntmps57
    go_wp2
    go_loopw [13] (fun i wr => ∃ k : Nat, k ≤ L ∧ i = .int .i64 k ∧ Hid (w1.take k = w2.take k) ∧ Below w.heap.size w wr) (fun i _ => L - (intOf i).toNat)
    case atStart => exact ⟨0, Nat.zero_le _, rfl, Lib.hid rfl, Below.refl _ _⟩
    case round =>
      obtain ⟨k, hk, rfl, hpre, hnx⟩ := hrel
      by_cases hlt : k < L
      · obtain ⟨b1, o1, rfl, hb1, e1⟩ := H1.out k (by rw [HL.out]; exact hlt)
        obtain ⟨b2, o2, rfl, hb2, e2⟩ := H2.out k (by rw [HL2.out]; exact hlt)
        have g1 := (hnx.cell (p := ⟨b1, o1 + k, none⟩) hb1).trans e1
        have g2 := (hnx.cell (p := ⟨b2, o2 + k, none⟩) hb2).trans e2
        obtain ⟨x, hx⟩ : ∃ x, w1[k]?.getD 0 = x := ⟨_, rfl⟩
        obtain ⟨y, hy⟩ : ∃ y, w2[k]?.getD 0 = y := ⟨_, rfl⟩
        rw [hx] at g1
        rw [hy] at g2
        have HX := Lib.hid hx
        have HY := Lib.hid hy
        have hki : (k : Int) < (L : Int) := by omega
        clear e1 e2 hx hy
        by_cases hxy : x = y
        · subst hxy
          have hbb : ((x : Int) != (x : Int)) = false := by simp
          go_wp2
          go_quiet (fail)
          go_wp2
          go_roundw
          case rel =>
            refine ⟨k + 1, by omega, by go_num, ?_, below_drewN hnx _⟩
            have i1 : k < w1.length := by rw [HL.out]; exact hlt
            have i2 : k < w2.length := by rw [HL2.out]; exact hlt
            have e1 := HX.out
            have e2 := HY.out
            simp only [i1, i2, List.getElem?_eq_getElem, Option.getD_some] at e1 e2
            show w1.take (k + 1) = w2.take (k + 1)
            rw [List.take_succ_eq_append_getElem i1, List.take_succ_eq_append_getElem i2, hpre.out, e1, e2]
          case measure => simp [intOf]; omega
        · have hbb : ((x : Int) != (y : Int)) = true := by rw [bne_iff_ne]; omega
          have HXY := Lib.hid hxy
          clear hxy
          go_wp2
          go_quiet (fail)
          go_wp2
          go_ret
          refine ⟨ret_bool ?_, below_drewN hnx _⟩
          rw [eq_comm, decide_eq_false_iff_not]
          intro he
          apply HXY.out
          rw [← HX.out, ← HY.out, he]
      · obtain rfl : k = L := by omega
        go_wp2
        go_ret
        refine ⟨ret_bool ?_, hnx⟩
        have := hpre.out
        rw [List.take_of_length_le (by rw [HL.out]; exact Nat.le_refl _), List.take_of_length_le (by rw [HL2.out]; exact Nat.le_refl _)] at this
        simp [this]
  · have hne : ¬ w1 = w2 := fun e => hl (by rw [e])
    have hb0 : ((w1.length : Int) != (w2.length : Int)) = true := by rw [bne_iff_ne]; omega
    have hd : decide (w1 = w2) = false := by simp [hne]
    rw [hd]
    clear h1 h2 hl hne hd
    go_enter Tryd.func57, Tryd.ntmps57
    go_wp2
    go_ret
    exact ⟨rfl, Below.refl _ _⟩

theorem Box.drew {W : World} {b : Nat} {x y : Value} (h : Box W b x y) : Box W.drew b x y := ⟨h.c0, h.c1, h.f0, h.f1⟩

theorem Box.put {W : World} {b : Nat} {x y : Value} (h : Box W b x y) (x' y' : Value) : Box ((W.setCell ⟨b, 0, none⟩ x').setCell ⟨b, 1, none⟩ y') b x' y' := by
  obtain ⟨c0, c1, f0, f1⟩ := h
  have k0 : (W.setCell ⟨b, 0, none⟩ x').cell? ⟨b, 0, none⟩ = some x' := World.cell?_setCell_same' _ _ _ (by rw [c0]; rfl)
  have k1 : (W.setCell ⟨b, 0, none⟩ x').cell? ⟨b, 1, none⟩ = some y := by rw [World.cell?_setCell_other _ _ _ _ (by simp)]; exact c1
  refine ⟨?_, World.cell?_setCell_same' _ _ _ (by rw [k1]; rfl), by rw [World.frozen?_setCell, World.frozen?_setCell]; exact f0, by rw [World.frozen?_setCell, World.frozen?_setCell]; exact f1⟩
  rw [World.cell?_setCell_other _ _ _ _ (by simp)]; exact k0

theorem Wd.back {B : Nat} {W W' : World} {a : Option Addr} {ws : List Nat} (h : Wd B W' a ws) (hb : Below B W W') : Wd B W a ws :=
  fun j hj => let ⟨b, o, e, hlt, hc⟩ := h j hj; ⟨b, o, e, hlt, (hb.cell (p := ⟨b, o + j, none⟩) hlt).symm.trans hc⟩

theorem heap_put2 (W : World) (b k : Nat) (x y : Value) (h : k ≠ b) : ((W.setCell ⟨b, 0, none⟩ x).setCell ⟨b, 1, none⟩ y).heap[k]? = W.heap[k]? := by
  rw [Below.heap_setCell _ _ _ _ (by simpa using h), Below.heap_setCell _ _ _ _ (by simpa using h)]

theorem below_put2 {B : Nat} {w W : World} (h : Below B w W) {b : Nat} (hb : B ≤ b) (x y : Value) : Below B w ((W.setCell ⟨b, 0, none⟩ x).setCell ⟨b, 1, none⟩ y) :=
  (h.setCell (p := ⟨b, 0, none⟩) hb x).setCell (p := ⟨b, 1, none⟩) hb y

theorem size_put2 (W : World) (b : Nat) (x y : Value) : ((W.setCell ⟨b, 0, none⟩ x).setCell ⟨b, 1, none⟩ y).heap.size = W.heap.size := by simp [World.setCell]

theorem Box.other {W : World} {b : Nat} {x y : Value} (h : Box W b x y) {b' : Nat} (hne : b ≠ b') (x' y' : Value) : Box ((W.setCell ⟨b', 0, none⟩ x').setCell ⟨b', 1, none⟩ y') b x y := by
  have e := heap_put2 W b' b x' y' hne
  exact ⟨(World.cell?_of_block (w := W) e).trans h.c0, (World.cell?_of_block (w := W) e).trans h.c1, (World.frozen?_of_block (w := W) e).trans h.f0, (World.frozen?_of_block (w := W) e).trans h.f1⟩

set_option maxHeartbeats 2000000 in
theorem Same_any (va vb : Value) (na nb : Int) (wa wb : List Nat) (w : World) (hva : SV w va na wa) (hvb : SV w vb nb wb) (hla : wa.length ≤ 30) (hlb : wb.length ≤ 30) (hBa : WB wa) (hBb : WB wb) :
    Calls Tryd.prog 39 #[va, vb] w fun e w' => e = .returned (.bool (decide (nrm na wa = nrm nb wb ∧ nrmW na wa = nrmW nb wb))) ∧ Below w.heap.size w w' := by
  have hva0 := hva
  have hvb0 := hvb
  obtain ⟨aa, capa, rfl, hWda⟩ := hva
  obtain ⟨ab, capb, rfl, hWdb⟩ := hvb
  have hW2 : Below w.heap.size w ((w.alloc (.cells #[.int .i64 na, .slice aa wa.length capa] 28)).alloc (.cells #[.int .i64 nb, .slice ab wb.length capb] 28)) := ((Below.refl _ _).alloc (Nat.le_refl _) _).alloc (by simp) _
  have HSb := Lib.hid (fun W (hW : Below w.heap.size w W) => saneOrEmpty_any w.heap.size _ nb wb W (SVB.below hvb0 hW) hW.size hlb)
  have HSa := Lib.hid (fun W (hW : Below w.heap.size w W) => saneOrEmpty_any w.heap.size _ na wa W (SVB.below hva0 hW) hW.size hla)
  have HOa := Lib.hid (nrm_ok (n := na) hBa)
  have HOb := Lib.hid (nrm_ok (n := nb) hBb)
  have BA := ((Box.new w (.int .i64 na) (.slice aa wa.length capa) 28).alloc (.cells #[.int .i64 nb, .slice ab wb.length capb] 28)).drew
  have BB := (Box.new (w.alloc (.cells #[.int .i64 na, .slice aa wa.length capa] 28)) (.int .i64 nb) (.slice ab wb.length capb) 28).drew
  have hz2 : ((w.alloc (.cells #[.int .i64 na, .slice aa wa.length capa] 28)).alloc (.cells #[.int .i64 nb, .slice ab wb.length capb] 28)).heap.size = w.heap.size + 2 := by simp
  simp only [World.size_alloc] at BB
  have HW2 := Lib.hid hW2.drew
  generalize hW : (w.alloc (.cells #[.int .i64 na, .slice aa wa.length capa] 28)).alloc (.cells #[.int .i64 nb, .slice ab wb.length capb] 28) = W2 at *
  clear hva0 hvb0 hWda hWdb hW2
  generalize nrm na wa = na' at *
  generalize nrmW na wa = wa' at *
  generalize nrm nb wb = nb' at *
  generalize nrmW nb wb = wb' at *
  obtain ⟨a0, a1, a2, a3⟩ := id BA
  obtain ⟨b0, b1, b2, b3⟩ := id BB
  go_enter Tryd.func39, Tryd.ntmps39
  go_upto_region 1 with fail
  go_cut [] (fun wx => ∃ aa' capa' ab' capb', Box wx w.heap.size (.int .i64 (na' : Int)) (.slice aa' wa'.length capa') ∧ Box wx (w.heap.size + 1) (.int .i64 (nb' : Int)) (.slice ab' wb'.length capb') ∧ Wd w.heap.size wx aa' wa' ∧ Wd w.heap.size wx ab' wb' ∧ Below w.heap.size w wx)
  case first =>
    go_region_with (first
      | (go_at_call_of 45 (Value.slice aa wa.length capa); refine (HSa.out _ HW2.out).mono ?_; clear HSa; rintro e w1 ⟨u, rfl, hsv, hb⟩; obtain ⟨aa', capa', rfl, hWda'⟩ := hsv; have hb1 := HW2.out.trans (hb.mono HW2.out.size); have BB1 := BB.below hb BB.lt; have BA1 := BA.below hb BA.lt; obtain ⟨b01, b11, b21, b31⟩ := id BB1; have HBW := Lib.hid hb1; clear hb hb1)
      | (go_at_call_of 45 (Value.slice ab wb.length capb); refine (HSb.out _ HBW.out).mono ?_; clear HSb; rintro e w2 ⟨u, rfl, hsv, hb⟩; obtain ⟨ab', capb', rfl, hWdb'⟩ := hsv; have hb2 := HBW.out.trans (hb.mono HBW.out.size); have BB2 := BB1.below hb BB1.lt; have BA2 := BA1.below hb BA1.lt; have hWda2 := hWda'.below (hb.mono HBW.out.size); obtain ⟨b02, b12, b22, b32⟩ := id BB2; obtain ⟨a02, a12, a22, a32⟩ := id BA2; have HBW2 := Lib.hid hb2; clear hb hb2))
    all_goals
      go_wp2_with fail
      go_meet
      have HP := (below_put2 (below_put2 (Below.refl w.heap.size w2) (b := w.heap.size) (Nat.le_refl _) (.int .i64 (na' : Int)) (.slice aa' wa'.length capa')) (b := w.heap.size + 1) (by omega) (.int .i64 (nb' : Int)) (.slice ab' wb'.length capb'))
      exact ⟨aa', capa', ab', capb', (BA2.put _ _).other (by omega) _ _, (BB2.other (by omega) _ _).put _ _, hWda2.below HP, hWdb'.below HP, HBW2.out.trans HP⟩
  case rest =>
    obtain ⟨aa', capa', ab', capb', ⟨x0, x1, _, _⟩, ⟨y0, y1, _, _⟩, hwa, hwb, hB⟩ := hcut
    have hEq := Lib.hid (Equal_any aa' ab' wa' wb' capa' capb' wc (hwa.mono hB.size) (hwb.mono hB.size) HOa.out.len16)
    have HB := Lib.hid hB
    clear hwa hwb hB BA BB hW HW2 HSa HSb a0 a1 a2 a3 b0 b1 b2 b3
    by_cases hn : na' = nb'
    · have hbb : ((na' : Int) == (nb' : Int)) = true := by rw [beq_iff_eq]; omega
      have HN := Lib.hid hn
      clear hn
      go_wp2_with fail
      refine hEq.out.mono ?_
      rintro e w3 ⟨rfl, hb3⟩
      have HB3 := Lib.hid hb3
      clear hb3
      go_wp2
      go_ret
      exact ⟨ret_bool (by simp [HN.out]), HB.out.trans (HB3.out.mono HB.out.size)⟩
    · have hbb : ((na' : Int) == (nb' : Int)) = false := by rw [beq_eq_false_iff_ne]; omega
      have HN := Lib.hid hn
      clear hn
      go_wp2
      go_ret
      exact ⟨ret_bool (by have := HN.out; simp [this]), HB.out⟩
end Go.Proofs.YtjlofjoekpoepaaDoor
