import Derived.RangeFuncFrom
import Derived.Test.YtjlofjoekpoepaaDoorG
import Derived.Test.YtjlofjoekpoepaaDoorJ
namespace Go.Proofs.YtjlofjoekpoepaaDoor
open Go Go.RowKit Go.Sort Go.Shelf

attribute [local go_sem] Oper.semAt_some

/-- Is each number of the first set in the second one? -/
def leqB (wa : List Nat) (nb : Nat) (wb : List Nat) : Bool := (nums wa).all (fun i => hasB nb wb (i : Nat))

set_option maxRecDepth 100000 in
set_option maxHeartbeats 2000000 in
theorem Leq_any (va vb : Value) (na nb : Int) (wa wb : List Nat) (w : World) (hva : SV w va na wa) (hvb : SV w vb nb wb) (hla : wa.length ≤ 30) (hlb : wb.length ≤ 30) (hBa : WB wa) (hBb : WB wb) (hT : Tab w) :
    Calls Tryd.prog 37 #[va, vb] w fun e w' => e = .returned (.bool (leqB (nrmW na wa) (nrm nb wb) (nrmW nb wb))) ∧ Below w.heap.size w w' := by
  refine (callsIn_wide (n := 3)).1 ?_
  have hva0 := hva
  have hvb0 := hvb
  obtain ⟨aa, capa, rfl, hWda⟩ := hva
  obtain ⟨ab, capb, rfl, hWdb⟩ := hvb
  have hW3 : Below w.heap.size w (((w.alloc (.cells #[.int .i64 na, .slice aa wa.length capa] 28)).alloc (.cells #[.int .i64 nb, .slice ab wb.length capb] 28)).alloc (.cells #[.bool false] 4)) := (((Below.refl _ _).alloc (Nat.le_refl _) _).alloc (by simp) _).alloc (by simp; omega) _
  have HSb := Lib.hid (saneOrEmpty_any w.heap.size _ nb wb _ (SVB.below hvb0 hW3) hW3.size hlb)
  have HSa := Lib.hid (fun W (hW : Below w.heap.size w W) => saneOrEmpty_any w.heap.size _ na wa W (SVB.below hva0 hW) hW.size hla)
  have HOa := Lib.hid (nrm_ok (n := na) hBa)
  have HOb := Lib.hid (nrm_ok (n := nb) hBb)
  have BA := ((Box.new w (.int .i64 na) (.slice aa wa.length capa) 28).alloc (.cells #[.int .i64 nb, .slice ab wb.length capb] 28)).alloc (.cells #[.bool false] 4)
  have BB := (Box.new (w.alloc (.cells #[.int .i64 na, .slice aa wa.length capa] 28)) (.int .i64 nb) (.slice ab wb.length capb) 28).alloc (.cells #[.bool false] 4)
  have BR := Boxed.new ((w.alloc (.cells #[.int .i64 na, .slice aa wa.length capa] 28)).alloc (.cells #[.int .i64 nb, .slice ab wb.length capb] 28)) 4 (.bool false)
  have hz3 : (((w.alloc (.cells #[.int .i64 na, .slice aa wa.length capa] 28)).alloc (.cells #[.int .i64 nb, .slice ab wb.length capb] 28)).alloc (.cells #[.bool false] 4)).heap.size = w.heap.size + 3 := by simp
  simp only [World.size_alloc] at BB BR
  have HW3 := Lib.hid hW3
  generalize hW : ((w.alloc (.cells #[.int .i64 na, .slice aa wa.length capa] 28)).alloc (.cells #[.int .i64 nb, .slice ab wb.length capb] 28)).alloc (.cells #[.bool false] 4) = W3 at *
  clear hva0 hvb0 hWda hWdb hW3
  generalize nrm na wa = na' at *
  generalize nrmW na wa = wa' at *
  generalize nrm nb wb = nb' at *
  generalize nrmW nb wb = wb' at *
  have c0 := BB.c0
  have c1 := BB.c1
  refine callsIn_of_wp_marks Tryd.func37 rfl trivial ?_ rfl
  simp only [Tryd.ntmps37, List.size_toArray, List.length_cons, List.length_nil, Nat.reduceAdd, Nat.reduceSub, Array.replicate_succ, Array.replicate_zero, List.push_toArray, List.append_toArray, List.nil_append, List.cons_append]
  gi_wp2_with fail
  refine ⟨trivial, ?_⟩
  refine (callsIn_wide.2 HSb.out).mono ?_
  clear HSb
  rintro e w1 ⟨u, rfl, hsv, hb⟩
  obtain ⟨ab', capb', rfl, hWdb'⟩ := hsv
  have hb1 : Below w.heap.size w w1 := HW3.out.trans (hb.mono HW3.out.size)
  have BA1 := BA.below hb BA.lt
  have BB1 := BB.below hb BB.lt
  have BR1 : Boxed w1 (w.heap.size + 1 + 1) 4 (.bool false) := (hb.block _ BR.lt).trans BR
  have hz1 : w.heap.size + 3 ≤ w1.heap.size := by have := hb.size; omega
  have HWDB := Lib.hid hWdb'
  have HB1 := Lib.hid hb1
  clear hb hb1 hWdb' c0 c1 BA BB BR hz3 hW HW3
  have BB4 := BB1.put (.int .i64 (nb' : Int)) (.slice ab' wb'.length capb')
  have hb4 := below_put2 HB1.out (b := w.heap.size + 1) (by omega) (.int .i64 (nb' : Int)) (.slice ab' wb'.length capb')
  have BR4 : Boxed ((w1.setCell ⟨w.heap.size + 1, 0, none⟩ (.int .i64 (nb' : Int))).setCell ⟨w.heap.size + 1, 1, none⟩ (.slice ab' wb'.length capb')) (w.heap.size + 1 + 1) 4 (.bool false) := (heap_put2 _ _ _ _ _ (by omega)).trans BR1
  have hz4 := size_put2 w1 (w.heap.size + 1) (.int .i64 (nb' : Int)) (.slice ab' wb'.length capb')
  have HWDB4 := HWDB.out.below (below_put2 (Below.refl w.heap.size w1) (b := w.heap.size + 1) (by omega) (.int .i64 (nb' : Int)) (.slice ab' wb'.length capb'))
  obtain ⟨x0, x1, y0, y1⟩ := BA1
  obtain ⟨c0, c1, f0, f1⟩ := BB1
  have HBB4 := Lib.hid BB4
  have HB4 := Lib.hid hb4
  have HBR4 := Lib.hid BR4
  have HZ4 := Lib.hid hz4
  have HWB4 := Lib.hid HWDB4
  clear y0 y1 BB4 hb4 BR4 hz4 HWDB4 HWDB HB1 BR1
  gi_wp2_with fail
  refine ⟨trivial, ?_⟩
  refine (callsIn_wide.2 (HSa.out _ HB4.out)).mono ?_
  clear HSa c0 c1 f0 f1 x0 x1
  rintro e w2 ⟨u, rfl, hsv, hb⟩
  have hb4 := HB4.out
  have BB4 := HBB4.out
  have BR4 := HBR4.out
  have hz4 := HZ4.out
  have hw4 := HWB4.out
  clear HB4 HBB4 HBR4 HZ4 HWB4
  generalize (w1.setCell ⟨w.heap.size + 1, 0, none⟩ (.int .i64 (nb' : Int))).setCell ⟨w.heap.size + 1, 1, none⟩ (.slice ab' wb'.length capb') = W4 at *
  obtain ⟨aa', capa', rfl, hWda'⟩ := hsv
  have hb2 : Below w.heap.size w w2 := hb4.trans (hb.mono hb4.size)
  have BB2 := BB4.below hb BB4.lt
  have BR2 : Boxed w2 (w.heap.size + 1 + 1) 4 (.bool false) := (hb.block _ BR4.lt).trans BR4
  have hwb2 := hw4.below (hb.mono hb4.size)
  have hz2 : w.heap.size + 3 ≤ w2.heap.size := by have := hb.size; omega
  have HWDA := Lib.hid hWda'
  have HB2 := Lib.hid hb2
  have HBB2 := Lib.hid BB2
  have HBR2 := Lib.hid BR2
  have HWB2 := Lib.hid hwb2
  clear hb hb2 hWda' BB2 BR2 hwb2 hb4 BB4 BR4 hz4 hw4 hz1
  gi_wp2_with (refine ⟨trivial, ?_⟩; gi_at_call 50; refine (callsIn_wide.2 (numbers_any _ _ _ _ _)).mono ?_; rintro e w3 ⟨rfl, rfl⟩)
  have ho := HOa.out
  have hob := HOb.out
  have BX := Box.new w2 (.int .i64 (na' : Int)) (.slice aa' wa'.length capa') 28
  have hA : Below w2.heap.size w2 (w2.alloc (.cells #[.int .i64 (na' : Int), .slice aa' wa'.length capa'] 28)) := (Below.refl _ _).alloc (Nat.le_refl _) _
  have hB0 : Below w.heap.size w (w2.alloc (.cells #[.int .i64 (na' : Int), .slice aa' wa'.length capa'] 28)) := HB2.out.trans (hA.mono HB2.out.size)
  have hs : (w2.alloc (.cells #[.int .i64 (na' : Int), .slice aa' wa'.length capa'] 28)).heap.size = w2.heap.size + 1 := by simp
  have BB3 := HBB2.out.alloc (.cells #[.int .i64 (na' : Int), .slice aa' wa'.length capa'] 28)
  have BR3 := HBR2.out.alloc (.cells #[.int .i64 (na' : Int), .slice aa' wa'.length capa'] 28)
  have hwb3 := HWB2.out.below (hA.mono HB2.out.size)
  have hwa3 := HWDA.out.below (hA.mono HB2.out.size)
  generalize w2.alloc (.cells #[.int .i64 (na' : Int), .slice aa' wa'.length capa'] 28) = W5 at *
  clear HBB2 HBR2 HWB2 HWDA
  refine wpIn_rangeFunc_ownF rfl (by omega) (gf := 59) (lb := #[.pointer (some ⟨w2.heap.size, 0, none⟩)]) rfl trivial (enters_of Tryd.func59 (by kernel_rfl) rfl)
    (numbers_stops 2 (by omega) w2.heap.size w.heap.size (na' : Int) aa' wa' capa' W5 (by omega) hB0.size hT.1 ho.len16 ho.wb BX.c0 BX.c1 (hT.below hB0) hwa3) belowK_t (belowK_b hB0.size) (Below.refl _ _) (fun _ => rfl)
    (fun pre W => ((∀ y ∈ pre, hasB nb' wb' (y : Nat) = true) ∧ W.cell? ⟨w.heap.size + 1, 0, none⟩ = some (.int .i64 (nb' : Int)) ∧ W.cell? ⟨w.heap.size + 1, 1, none⟩ = some (.slice ab' wb'.length capb') ∧ W.cell? ⟨w.heap.size + 1 + 1, 0, none⟩ = some (.bool false) ∧ W.frozen? ⟨w.heap.size + 1 + 1, 0, none⟩ = false) ∧ Below w.heap.size w W)
    (fun c pre W => (c = .ret ∧ (∃ y ∈ pre, hasB nb' wb' (y : Nat) = false) ∧ W.cell? ⟨w.heap.size + 1 + 1, 0, none⟩ = some (.bool false)) ∧ Below w.heap.size w W)
    (OwnFrom.and (Own.from (fun s A B row hs hg hr => ⟨hs.1, cell_kept hs.2.1 hg hr, cell_kept hs.2.2.1 hg hr, cell_kept hs.2.2.2.1 hg hr, (frozen_kept hs.2.2.2.1 hg hr).trans hs.2.2.2.2⟩) _) (ownFrom_below (Nat.le_refl _) hB0.size))
    (fun c => OwnFrom.and (Own.from (fun s A B row hs hg hr => ⟨hs.1, hs.2.1, cell_kept hs.2.2 hg hr⟩) _) (ownFrom_below (Nat.le_refl _) hB0.size))
    ⟨⟨fun y hy => (by cases hy), BB3.c0, BB3.c1, BR3.cell, BR3.frozen⟩, hB0⟩
    (fun x => { tmps := #[.agg #[.int .i64 na, .slice aa wa.length capa], .agg #[.int .i64 nb, .slice ab wb.length capb], .pointer (some ⟨w.heap.size, 0, none⟩), .pointer (some ⟨w.heap.size + 1, 0, none⟩), .pointer (some ⟨w.heap.size + 1 + 1, 0, none⟩), .int .i64 (x : Int), .agg #[.int .i64 nb, .slice ab wb.length capb], .agg #[.int .i64 (nb' : Int), .slice ab' wb'.length capb'], .agg #[.int .i64 na, .slice aa wa.length capa], .agg #[.int .i64 (na' : Int), .slice aa' wa'.length capa'], .func (.func 59) #[] #[.pointer (some ⟨w2.heap.size, 0, none⟩)], .int .i64 (x : Int), undef, undef, undef, undef], defers := [] }) ?assign ?body ?done ?stop
  case assign =>
    intro l x W K hK
    gi_wp2
    simpa using hK
  case body =>
    rintro l pre x W ⟨⟨hp, hc0, hc1, hcr, hfr⟩, hB⟩ _
    have HH := Lib.hid (has_any nb' ab' wb' capb' (x : Int) W (((hwb3.back hB0).below hB).mono hB.size) hob.wb hob.le hob.len)
    cases hh : hasB nb' wb' (x : Int) with
    | true =>
      have hh' : Hid (hasB nb' wb' (x : Int) = true) := hh
      rw [hh] at HH
      clear hh BX hA hB0 hs BB3 BR3 hwb3 hwa3 ho hob
      gi_wp2_with (refine ⟨trivial, ?_⟩; gi_at_call 44; refine (CallsIn.inRound l (callsIn_wide.2 HH.out)).mono ?_; clear HH; rintro e w' ⟨rfl, hb'⟩)
      exact ⟨keepsOthers_of_below hb', hb'.mono hB.size, ⟨fun y hy => (List.mem_append.1 hy).elim (hp y) (fun e => by simp at e; subst e; exact hh'.out), (hb'.cell (p := ⟨w.heap.size + 1, 0, none⟩) (block_lt_of_cell hc0)).trans hc0, (hb'.cell (p := ⟨w.heap.size + 1, 1, none⟩) (block_lt_of_cell hc1)).trans hc1, (hb'.cell (p := ⟨w.heap.size + 1 + 1, 0, none⟩) (block_lt_of_cell hcr)).trans hcr, (hb'.frozen (p := ⟨w.heap.size + 1 + 1, 0, none⟩) (block_lt_of_cell hcr)).trans hfr⟩, hB.trans (hb'.mono hB.size)⟩
    | false =>
      have hh' : Hid (hasB nb' wb' (x : Int) = false) := hh
      rw [hh] at HH
      clear hh BX hA hB0 hs BB3 BR3 hwb3 hwa3 ho hob
      gi_wp2_with (refine ⟨trivial, ?_⟩; gi_at_call 44; refine (CallsIn.inRound l (callsIn_wide.2 HH.out)).mono ?_; clear HH; rintro e w' ⟨rfl, hb'⟩; have hcr' := (hb'.cell (p := ⟨w.heap.size + 1 + 1, 0, none⟩) (block_lt_of_cell hcr)).trans hcr; have hfr' := (hb'.frozen (p := ⟨w.heap.size + 1 + 1, 0, none⟩) (block_lt_of_cell hcr)).trans hfr)
      exact ⟨(keepsOthers_of_below hb').trans (KeepsOthers.setCell _ _ _), ⟨rfl, ⟨x, List.mem_append.2 (.inr (by simp)), hh'.out⟩, World.cell?_setCell_same' _ _ _ (by rw [hcr']; rfl)⟩, (hB.trans (hb'.mono hB.size)).setCell (p := ⟨w.heap.size + 1 + 1, 0, none⟩) (by simp; omega) _⟩
  case done =>
    rintro D ys W hD rfl ⟨⟨hne, _, _, hcr, hfr⟩, hB⟩ hK
    clear BX hA hs BB3 BR3 hwb3 hwa3 ho hob
    gi_wp2
    have hK' := (KeepsOthers.setCell W ⟨w.heap.size + 1 + 1, 0, none⟩ (.bool true)).same D _ hK rfl
    refine ⟨by simp, .inl ⟨_, _, rfl, run_takeDeferred hK', ?_⟩⟩
    have hc5 := cell_kept (World.cell?_setCell_same' W ⟨w.heap.size + 1 + 1, 0, none⟩ (.bool true) (by rw [hcr]; rfl)) (grownBy_putObj' _ D (.deferred none)) (fun r e => by cases e; exact ⟨_, hK', rfl⟩)
    refine ⟨.bool true, ?_, ?_, (hB.setCell (p := ⟨w.heap.size + 1 + 1, 0, none⟩) (by simp; omega) _).trans (belowK_b (w := w) (Nat.le_refl _) _ D _ _ (by have := hB0.size; omega) hK' rfl rfl)⟩
    · simp [results, Tryd.f37, go_sem, hc5]
    · exact ret_bool (List.all_eq_true.2 hne).symm
  case stop =>
    rintro D c pre W hD hpre ⟨⟨rfl, hin, hcr⟩, hB⟩ hK
    clear BX hA hs BB3 BR3 hwb3 hwa3 ho hob
    gi_wp2
    refine ⟨by simp, .inl ⟨_, _, rfl, run_takeDeferred hK, ?_⟩⟩
    have hc5 := cell_kept hcr (grownBy_putObj' _ D (.deferred none)) (fun r e => by cases e; exact ⟨_, hK, rfl⟩)
    refine ⟨.bool false, ?_, ?_, hB.trans (belowK_b (w := w) (Nat.le_refl _) W D _ _ (by have := hB0.size; omega) hK rfl rfl)⟩
    · simp [results, Tryd.f37, go_sem, hc5]
    · obtain ⟨y, hy, hf⟩ := hin
      refine ret_bool (Eq.symm ?_)
      unfold leqB
      rw [Bool.eq_false_iff]
      intro hall
      have := List.all_eq_true.1 hall y (hpre.subset hy)
      rw [hf] at this
      cases this
end Go.Proofs.YtjlofjoekpoepaaDoor
