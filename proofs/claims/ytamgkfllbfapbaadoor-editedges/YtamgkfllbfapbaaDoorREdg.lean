/- EditEdges: of two blocks that there are just one of adding and taking an edge may be; what may be rewired may be taken; only to a block to which there is none may it be rewired, but to itself. Conditions: none but the row's own (the tables that it names, tied to the program's text). -/
import Derived.Test.YtamgkfllbfapbaaDoorRBaseQ
import Derived.Test.YtamgkfllbfapbaaDoorEdG2
import Derived.Test.YtamgkfllbfapbaaDoorEdG3
import Derived.Test.YtamgkfllbfapbaaDoorEdG4
namespace Go.Proofs.YtamgkfllbfapbaaDoor
open Go Go.RowKit Go.Sort

theorem blk_fun {p : Pg} {f b : Int} (h : blkB p f b = true) : funB p f = true := by
  by_cases hf : funB p f = true
  · exact hf
  · rw [blkB_none (by simpa using hf)] at h; cases h

set_option maxRecDepth 100000 in
set_option maxHeartbeats 16000000 in
theorem edgesN (p : Pg) (f b tob other : Int) (w : World) (h : Rd w p) (hN : NTab w) (hfew : ¬ p.few) :
    Calls Tryd.prog 3 #[p.val, .int .i64 f, .int .i64 b, .int .i64 tob, .int .i64 other] w fun x w' => x = .returned (.bool true) ∧ Below w.heap.size w w' := by
  have HAW := Lib.hid (fun wr (h : Rd wr p) (hN : NTab wr) => awake7_any wr h.2.1 h.2.2 hN)
  have HFE := Lib.hid (fun wr (h : Rd wr p) => Few_any p wr h.1 false (by simp [hfew]))
  have HRD0 := Lib.hid h
  have HN0 := Lib.hid hN
  clear h hN hfew
  unfold Pg.val at HFE
  unfold Pg.val
  try dsimp only at *
  obtain ⟨PL, hPL⟩ : ∃ PL, p.funs.length = PL := ⟨_, rfl⟩
  simp only [hPL] at HFE ⊢
  clear hPL
  have HBb := Lib.hid (below1 w (.cells #[.slice p.pa PL p.pc] 24))
  have hx0 := BoxL.new w [.slice p.pa PL p.pc] 24
  have HX0 := Lib.hid (show BoxL (w.alloc (.cells #[.slice p.pa PL p.pc] 24)) (w.heap.size) [.slice p.pa PL p.pc] from hx0)
  clear hx0
  have HRW := Lib.hid (HRD0.out.on HBb.out)
  have HNW := Lib.hid (HN0.out.on HBb.out)
  generalize hW : (w.alloc (.cells #[.slice p.pa PL p.pc] 24)) = W at HBb HX0 HRW HNW
  obtain ⟨g, hg⟩ : ∃ g, w.heap.size = g := ⟨_, rfl⟩
  have HGL := Lib.hid HBb.out.size
  rw [hg] at HBb HGL HX0 ⊢
  have HL0 := Lib.hid (HX0.out.lt (Nat.zero_lt_succ _))
  have HC : Hid (∀ wr, Below W.heap.size W wr → wr.cell? ⟨g, 0, none⟩ = some (.slice p.pa PL p.pc)) := Lib.hid fun wr hb => ((HX0.out.below hb HL0.out) 0 _ rfl).1
  have HBN : Hid (Below W.heap.size W W) := Lib.hid (Below.refl _ _)
  have k0 := HC.out _ HBN.out
  go_enter Tryd.func3, Tryd.ntmps3
  go_wp2_with (first
    | (go_at_call 6; refine (HAW.out _ (HRW.out.on HBN.out) (HNW.out.on HBN.out)).mono ?_; rintro e wa ⟨rfl, hbn⟩; have hbx := HBN.out.trans (hbn.mono HBN.out.size); clear HBN hbn k0; have HBN := Lib.hid hbx; clear hbx; have k0 := HC.out _ HBN.out)
    | (go_at_call 7; refine (HFE.out _ (HRW.out.on HBN.out)).mono ?_; rintro e wb ⟨rfl, hbn⟩; have hbx := HBN.out.trans (hbn.mono HBN.out.size); clear HBN hbn k0; have HBN := Lib.hid hbx; clear hbx; have k0 := HC.out _ HBN.out))
  go_ret
  exact ⟨rfl, HBb.out.trans (HBN.out.mono HGL.out)⟩

set_option maxRecDepth 100000 in
set_option maxHeartbeats 16000000 in
theorem edgesS (p : Pg) (f b tob other : Int) (w : World) (h : Rd w p) (hN : NTab w) (hfew : p.few) (hs : ¬ p.sane) :
    Calls Tryd.prog 3 #[p.val, .int .i64 f, .int .i64 b, .int .i64 tob, .int .i64 other] w fun x w' => x = .returned (.bool true) ∧ Below w.heap.size w w' := by
  have HAW := Lib.hid (fun wr (h : Rd wr p) (hN : NTab wr) => awake7_any wr h.2.1 h.2.2 hN)
  have HFE := Lib.hid (fun wr (h : Rd wr p) => Few_any p wr h.1 true (by simp [hfew]))
  have HSA := Lib.hid (fun wr (h : Rd wr p) => Sane_any p wr h.1 h.2.1 h.2.2 hfew false (by simp [hs]))
  have HRD0 := Lib.hid h
  have HN0 := Lib.hid hN
  clear h hN hfew
  clear hs
  unfold Pg.val at HFE HSA
  unfold Pg.val
  try dsimp only at *
  obtain ⟨PL, hPL⟩ : ∃ PL, p.funs.length = PL := ⟨_, rfl⟩
  simp only [hPL] at HFE HSA ⊢
  clear hPL
  have HBb := Lib.hid (below1 w (.cells #[.slice p.pa PL p.pc] 24))
  have hx0 := BoxL.new w [.slice p.pa PL p.pc] 24
  have HX0 := Lib.hid (show BoxL (w.alloc (.cells #[.slice p.pa PL p.pc] 24)) (w.heap.size) [.slice p.pa PL p.pc] from hx0)
  clear hx0
  have HRW := Lib.hid (HRD0.out.on HBb.out)
  have HNW := Lib.hid (HN0.out.on HBb.out)
  generalize hW : (w.alloc (.cells #[.slice p.pa PL p.pc] 24)) = W at HBb HX0 HRW HNW
  obtain ⟨g, hg⟩ : ∃ g, w.heap.size = g := ⟨_, rfl⟩
  have HGL := Lib.hid HBb.out.size
  rw [hg] at HBb HGL HX0 ⊢
  have HL0 := Lib.hid (HX0.out.lt (Nat.zero_lt_succ _))
  have HC : Hid (∀ wr, Below W.heap.size W wr → wr.cell? ⟨g, 0, none⟩ = some (.slice p.pa PL p.pc)) := Lib.hid fun wr hb => ((HX0.out.below hb HL0.out) 0 _ rfl).1
  have HBN : Hid (Below W.heap.size W W) := Lib.hid (Below.refl _ _)
  have k0 := HC.out _ HBN.out
  go_enter Tryd.func3, Tryd.ntmps3
  go_wp2_with (first
    | (go_at_call 6; refine (HAW.out _ (HRW.out.on HBN.out) (HNW.out.on HBN.out)).mono ?_; rintro e wa ⟨rfl, hbn⟩; have hbx := HBN.out.trans (hbn.mono HBN.out.size); clear HBN hbn k0; have HBN := Lib.hid hbx; clear hbx; have k0 := HC.out _ HBN.out)
    | (go_at_call 7; refine (HFE.out _ (HRW.out.on HBN.out)).mono ?_; rintro e wb ⟨rfl, hbn⟩; have hbx := HBN.out.trans (hbn.mono HBN.out.size); clear HBN hbn k0; have HBN := Lib.hid hbx; clear hbx; have k0 := HC.out _ HBN.out)
    | (go_at_call 8; refine (HSA.out _ (HRW.out.on HBN.out)).mono ?_; rintro e wc ⟨rfl, hbn⟩; have hbx := HBN.out.trans (hbn.mono HBN.out.size); clear HBN hbn k0; have HBN := Lib.hid hbx; clear hbx; have k0 := HC.out _ HBN.out))
  go_ret
  exact ⟨rfl, HBb.out.trans (HBN.out.mono HGL.out)⟩

set_option maxRecDepth 100000 in
set_option maxHeartbeats 16000000 in
theorem edgesf0 (p : Pg) (f b tob other : Int) (w : World) (h : Rd w p) (hN : NTab w) (hfew : p.few) (hs : p.sane) (hf : funB p f = false) (hok : blkB p f b = false) :
    Calls Tryd.prog 3 #[p.val, .int .i64 f, .int .i64 b, .int .i64 tob, .int .i64 other] w fun x w' => x = .returned (.bool true) ∧ Below w.heap.size w w' := by
  obtain ⟨ra, hra⟩ : ∃ r, blkB p f tob = r := ⟨_, rfl⟩
  obtain ⟨ri, hri⟩ : ∃ r, blkB p f other = r := ⟨_, rfl⟩
  have HAW := Lib.hid (fun wr (h : Rd wr p) (hN : NTab wr) => awake7_any wr h.2.1 h.2.2 hN)
  have HFE := Lib.hid (fun wr (h : Rd wr p) => Few_any p wr h.1 true (by simp [hfew]))
  have HSA := Lib.hid (fun wr (h : Rd wr p) => Sane_any p wr h.1 h.2.1 h.2.2 hfew true (by simp [hs]))
  have hsb := (saneB_iff p).2 hs
  have HC0 := Lib.hid (fun wr (h : Rd wr p) => Check_any p ⟨3, f, b, tob, 0, 0, ⟨0, 0, 0, 0, 0, 0, 0, 0, 0, 0, 0⟩⟩ wr h hfew 1 (by simp [chk, opE, firstE, unl, isOpB, hsb, hf]))
  have HC1 := Lib.hid (fun wr (h : Rd wr p) => Check_any p ⟨4, f, b, tob, 0, 0, ⟨0, 0, 0, 0, 0, 0, 0, 0, 0, 0, 0⟩⟩ wr h hfew 1 (by simp [chk, opE, firstE, unl, isOpB, hsb, hf]))
  have HC2 := Lib.hid (fun wr (h : Rd wr p) => Check_any p ⟨5, f, b, tob, other, 0, ⟨0, 0, 0, 0, 0, 0, 0, 0, 0, 0, 0⟩⟩ wr h hfew 1 (by simp [chk, opE, firstE, unl, isOpB, hsb, hf]))
  have HC3 := Lib.hid (fun wr (h : Rd wr p) => Check_any p ⟨3, f, b, other, 0, 0, ⟨0, 0, 0, 0, 0, 0, 0, 0, 0, 0, 0⟩⟩ wr h hfew 1 (by simp [chk, opE, firstE, unl, isOpB, hsb, hf]))
  obtain ⟨y0, hy0⟩ : ∃ y, blkR p f b = y := ⟨_, rfl⟩
  have HB0 := Lib.hid (fun wr (h : Rd wr p) => Block_any p f b wr h.1 h.2.1 h.2.2 hfew y0 hy0 false hok)
  obtain ⟨y1, hy1⟩ : ∃ y, blkR p f tob = y := ⟨_, rfl⟩
  have HB1 := Lib.hid (fun wr (h : Rd wr p) => Block_any p f tob wr h.1 h.2.1 h.2.2 hfew y1 hy1 ra hra)
  obtain ⟨y2, hy2⟩ : ∃ y, blkR p f other = y := ⟨_, rfl⟩
  have HB2 := Lib.hid (fun wr (h : Rd wr p) => Block_any p f other wr h.1 h.2.1 h.2.2 hfew y2 hy2 ri hri)
  have HRD0 := Lib.hid h
  have HN0 := Lib.hid hN
  clear h hN hfew
  clear hs
  clear hsb hf hok hra hri
  unfold Pg.val at HFE HSA HC0 HC1 HC2 HC3 HB0 HB1 HB2
  unfold Ed.val at HC0 HC1 HC2 HC3
  unfold Blk.val at HB0 HB1 HB2
  clear hy0 hy1 hy2
  obtain ⟨lv0, ca0, cc0, code0, sa0, sc0, succ0⟩ := y0
  obtain ⟨lv1, ca1, cc1, code1, sa1, sc1, succ1⟩ := y1
  obtain ⟨lv2, ca2, cc2, code2, sa2, sc2, succ2⟩ := y2
  unfold Pg.val
  try dsimp only at *
  obtain ⟨PL, hPL⟩ : ∃ PL, p.funs.length = PL := ⟨_, rfl⟩
  simp only [hPL] at HFE HSA HC0 HC1 HC2 HC3 HB0 HB1 HB2 ⊢
  clear hPL
  obtain ⟨CL0, hCL0⟩ : ∃ CL, code0.length = CL := ⟨_, rfl⟩
  obtain ⟨SL0, hSL0⟩ : ∃ SL, succ0.length = SL := ⟨_, rfl⟩
  simp only [hCL0, hSL0] at HB0
  clear hCL0 hSL0
  obtain ⟨CL1, hCL1⟩ : ∃ CL, code1.length = CL := ⟨_, rfl⟩
  obtain ⟨SL1, hSL1⟩ : ∃ SL, succ1.length = SL := ⟨_, rfl⟩
  simp only [hCL1, hSL1] at HB1
  clear hCL1 hSL1
  obtain ⟨CL2, hCL2⟩ : ∃ CL, code2.length = CL := ⟨_, rfl⟩
  obtain ⟨SL2, hSL2⟩ : ∃ SL, succ2.length = SL := ⟨_, rfl⟩
  simp only [hCL2, hSL2] at HB2
  clear hCL2 hSL2
  have HBb := Lib.hid (below1 w (.cells #[.slice p.pa PL p.pc] 24))
  have hx0 := BoxL.new w [.slice p.pa PL p.pc] 24
  have HX0 := Lib.hid (show BoxL (w.alloc (.cells #[.slice p.pa PL p.pc] 24)) (w.heap.size) [.slice p.pa PL p.pc] from hx0)
  clear hx0
  have HRW := Lib.hid (HRD0.out.on HBb.out)
  have HNW := Lib.hid (HN0.out.on HBb.out)
  generalize hW : (w.alloc (.cells #[.slice p.pa PL p.pc] 24)) = W at HBb HX0 HRW HNW
  obtain ⟨g, hg⟩ : ∃ g, w.heap.size = g := ⟨_, rfl⟩
  have HGL := Lib.hid HBb.out.size
  rw [hg] at HBb HGL HX0 ⊢
  have HL0 := Lib.hid (HX0.out.lt (Nat.zero_lt_succ _))
  have HC : Hid (∀ wr, Below W.heap.size W wr → wr.cell? ⟨g, 0, none⟩ = some (.slice p.pa PL p.pc)) := Lib.hid fun wr hb => ((HX0.out.below hb HL0.out) 0 _ rfl).1
  have HBN : Hid (Below W.heap.size W W) := Lib.hid (Below.refl _ _)
  have k0 := HC.out _ HBN.out
  have tb0 : True := trivial
  have tb1 : True := trivial
  have tb2 : True := trivial
  have tc0 : True := trivial
  have tc1 : True := trivial
  have tc2 : True := trivial
  have tc3 : True := trivial
  go_enter Tryd.func3, Tryd.ntmps3
  go_wp2_with (first
    | (go_at_call 6; refine (HAW.out _ (HRW.out.on HBN.out) (HNW.out.on HBN.out)).mono ?_; rintro e wa ⟨rfl, hbn⟩; have hbx := HBN.out.trans (hbn.mono HBN.out.size); clear HBN hbn k0; have HBN := Lib.hid hbx; clear hbx; have k0 := HC.out _ HBN.out)
    | (go_at_call 7; refine (HFE.out _ (HRW.out.on HBN.out)).mono ?_; rintro e wb ⟨rfl, hbn⟩; have hbx := HBN.out.trans (hbn.mono HBN.out.size); clear HBN hbn k0; have HBN := Lib.hid hbx; clear hbx; have k0 := HC.out _ HBN.out)
    | (go_at_call 8; refine (HSA.out _ (HRW.out.on HBN.out)).mono ?_; rintro e wc ⟨rfl, hbn⟩; have hbx := HBN.out.trans (hbn.mono HBN.out.size); clear HBN hbn k0; have HBN := Lib.hid hbx; clear hbx; have k0 := HC.out _ HBN.out)
    | (have _t := tb0; go_at_call 9; refine (HB0.out _ (HRW.out.on HBN.out)).mono ?_; clear _t tb0; rintro e wn ⟨rfl, hbn⟩; have hbx := (HBN.out.trans (hbn.mono HBN.out.size)).alloc (Nat.le_trans HBN.out.size hbn.size) (.cells #[.bool lv0, .slice ca0 CL0 cc0, .slice sa0 SL0 sc0] 30); clear HBN hbn k0; have HBN := Lib.hid hbx; clear hbx; have k0 := HC.out _ HBN.out)
    | (have _t := tb1; go_at_call 9; refine (HB1.out _ (HRW.out.on HBN.out)).mono ?_; clear _t tb1; rintro e wn ⟨rfl, hbn⟩; have hbx := (HBN.out.trans (hbn.mono HBN.out.size)).alloc (Nat.le_trans HBN.out.size hbn.size) (.cells #[.bool lv1, .slice ca1 CL1 cc1, .slice sa1 SL1 sc1] 30); clear HBN hbn k0; have HBN := Lib.hid hbx; clear hbx; have k0 := HC.out _ HBN.out)
    | (have _t := tb2; go_at_call 9; refine (HB2.out _ (HRW.out.on HBN.out)).mono ?_; clear _t tb2; rintro e wn ⟨rfl, hbn⟩; have hbx := (HBN.out.trans (hbn.mono HBN.out.size)).alloc (Nat.le_trans HBN.out.size hbn.size) (.cells #[.bool lv2, .slice ca2 CL2 cc2, .slice sa2 SL2 sc2] 30); clear HBN hbn k0; have HBN := Lib.hid hbx; clear hbx; have k0 := HC.out _ HBN.out)
    | (have _t := tc0; go_at_call 10; refine (HC0.out _ (HRW.out.on HBN.out)).mono ?_; clear _t tc0; rintro e wn ⟨rfl, hbn⟩; have hbx := HBN.out.trans (hbn.mono HBN.out.size); clear HBN hbn k0; have HBN := Lib.hid hbx; clear hbx; have k0 := HC.out _ HBN.out)
    | (have _t := tc1; go_at_call 10; refine (HC1.out _ (HRW.out.on HBN.out)).mono ?_; clear _t tc1; rintro e wn ⟨rfl, hbn⟩; have hbx := HBN.out.trans (hbn.mono HBN.out.size); clear HBN hbn k0; have HBN := Lib.hid hbx; clear hbx; have k0 := HC.out _ HBN.out)
    | (have _t := tc2; go_at_call 10; refine (HC2.out _ (HRW.out.on HBN.out)).mono ?_; clear _t tc2; rintro e wn ⟨rfl, hbn⟩; have hbx := HBN.out.trans (hbn.mono HBN.out.size); clear HBN hbn k0; have HBN := Lib.hid hbx; clear hbx; have k0 := HC.out _ HBN.out)
    | (have _t := tc3; go_at_call 10; refine (HC3.out _ (HRW.out.on HBN.out)).mono ?_; clear _t tc3; rintro e wn ⟨rfl, hbn⟩; have hbx := HBN.out.trans (hbn.mono HBN.out.size); clear HBN hbn k0; have HBN := Lib.hid hbx; clear hbx; have k0 := HC.out _ HBN.out))
  go_ret
  exact ⟨rfl, HBb.out.trans (HBN.out.mono HGL.out)⟩

set_option maxRecDepth 100000 in
set_option maxHeartbeats 16000000 in
theorem edgest0 (p : Pg) (f b tob other : Int) (w : World) (h : Rd w p) (hN : NTab w) (hfew : p.few) (hs : p.sane) (hf : funB p f = true) (hok : blkB p f b = false) :
    Calls Tryd.prog 3 #[p.val, .int .i64 f, .int .i64 b, .int .i64 tob, .int .i64 other] w fun x w' => x = .returned (.bool true) ∧ Below w.heap.size w w' := by
  obtain ⟨ra, hra⟩ : ∃ r, blkB p f tob = r := ⟨_, rfl⟩
  obtain ⟨ri, hri⟩ : ∃ r, blkB p f other = r := ⟨_, rfl⟩
  have HAW := Lib.hid (fun wr (h : Rd wr p) (hN : NTab wr) => awake7_any wr h.2.1 h.2.2 hN)
  have HFE := Lib.hid (fun wr (h : Rd wr p) => Few_any p wr h.1 true (by simp [hfew]))
  have HSA := Lib.hid (fun wr (h : Rd wr p) => Sane_any p wr h.1 h.2.1 h.2.2 hfew true (by simp [hs]))
  have hsb := (saneB_iff p).2 hs
  have HC0 := Lib.hid (fun wr (h : Rd wr p) => Check_any p ⟨3, f, b, tob, 0, 0, ⟨0, 0, 0, 0, 0, 0, 0, 0, 0, 0, 0⟩⟩ wr h hfew 2 (by simp [chk, opE, inFunE, blocksE, firstE, unl, isOpB, hsb, hf, hok]))
  have HC1 := Lib.hid (fun wr (h : Rd wr p) => Check_any p ⟨4, f, b, tob, 0, 0, ⟨0, 0, 0, 0, 0, 0, 0, 0, 0, 0, 0⟩⟩ wr h hfew 2 (by simp [chk, opE, inFunE, blocksE, firstE, unl, isOpB, hsb, hf, hok]))
  have HC2 := Lib.hid (fun wr (h : Rd wr p) => Check_any p ⟨5, f, b, tob, other, 0, ⟨0, 0, 0, 0, 0, 0, 0, 0, 0, 0, 0⟩⟩ wr h hfew 2 (by simp [chk, opE, inFunE, blocksE, firstE, unl, isOpB, hsb, hf, hok]))
  have HC3 := Lib.hid (fun wr (h : Rd wr p) => Check_any p ⟨3, f, b, other, 0, 0, ⟨0, 0, 0, 0, 0, 0, 0, 0, 0, 0, 0⟩⟩ wr h hfew 2 (by simp [chk, opE, inFunE, blocksE, firstE, unl, isOpB, hsb, hf, hok]))
  obtain ⟨y0, hy0⟩ : ∃ y, blkR p f b = y := ⟨_, rfl⟩
  have HB0 := Lib.hid (fun wr (h : Rd wr p) => Block_any p f b wr h.1 h.2.1 h.2.2 hfew y0 hy0 false hok)
  obtain ⟨y1, hy1⟩ : ∃ y, blkR p f tob = y := ⟨_, rfl⟩
  have HB1 := Lib.hid (fun wr (h : Rd wr p) => Block_any p f tob wr h.1 h.2.1 h.2.2 hfew y1 hy1 ra hra)
  obtain ⟨y2, hy2⟩ : ∃ y, blkR p f other = y := ⟨_, rfl⟩
  have HB2 := Lib.hid (fun wr (h : Rd wr p) => Block_any p f other wr h.1 h.2.1 h.2.2 hfew y2 hy2 ri hri)
  have HRD0 := Lib.hid h
  have HN0 := Lib.hid hN
  clear h hN hfew
  clear hs
  clear hsb hf hok hra hri
  unfold Pg.val at HFE HSA HC0 HC1 HC2 HC3 HB0 HB1 HB2
  unfold Ed.val at HC0 HC1 HC2 HC3
  unfold Blk.val at HB0 HB1 HB2
  clear hy0 hy1 hy2
  obtain ⟨lv0, ca0, cc0, code0, sa0, sc0, succ0⟩ := y0
  obtain ⟨lv1, ca1, cc1, code1, sa1, sc1, succ1⟩ := y1
  obtain ⟨lv2, ca2, cc2, code2, sa2, sc2, succ2⟩ := y2
  unfold Pg.val
  try dsimp only at *
  obtain ⟨PL, hPL⟩ : ∃ PL, p.funs.length = PL := ⟨_, rfl⟩
  simp only [hPL] at HFE HSA HC0 HC1 HC2 HC3 HB0 HB1 HB2 ⊢
  clear hPL
  obtain ⟨CL0, hCL0⟩ : ∃ CL, code0.length = CL := ⟨_, rfl⟩
  obtain ⟨SL0, hSL0⟩ : ∃ SL, succ0.length = SL := ⟨_, rfl⟩
  simp only [hCL0, hSL0] at HB0
  clear hCL0 hSL0
  obtain ⟨CL1, hCL1⟩ : ∃ CL, code1.length = CL := ⟨_, rfl⟩
  obtain ⟨SL1, hSL1⟩ : ∃ SL, succ1.length = SL := ⟨_, rfl⟩
  simp only [hCL1, hSL1] at HB1
  clear hCL1 hSL1
  obtain ⟨CL2, hCL2⟩ : ∃ CL, code2.length = CL := ⟨_, rfl⟩
  obtain ⟨SL2, hSL2⟩ : ∃ SL, succ2.length = SL := ⟨_, rfl⟩
  simp only [hCL2, hSL2] at HB2
  clear hCL2 hSL2
  have HBb := Lib.hid (below1 w (.cells #[.slice p.pa PL p.pc] 24))
  have hx0 := BoxL.new w [.slice p.pa PL p.pc] 24
  have HX0 := Lib.hid (show BoxL (w.alloc (.cells #[.slice p.pa PL p.pc] 24)) (w.heap.size) [.slice p.pa PL p.pc] from hx0)
  clear hx0
  have HRW := Lib.hid (HRD0.out.on HBb.out)
  have HNW := Lib.hid (HN0.out.on HBb.out)
  generalize hW : (w.alloc (.cells #[.slice p.pa PL p.pc] 24)) = W at HBb HX0 HRW HNW
  obtain ⟨g, hg⟩ : ∃ g, w.heap.size = g := ⟨_, rfl⟩
  have HGL := Lib.hid HBb.out.size
  rw [hg] at HBb HGL HX0 ⊢
  have HL0 := Lib.hid (HX0.out.lt (Nat.zero_lt_succ _))
  have HC : Hid (∀ wr, Below W.heap.size W wr → wr.cell? ⟨g, 0, none⟩ = some (.slice p.pa PL p.pc)) := Lib.hid fun wr hb => ((HX0.out.below hb HL0.out) 0 _ rfl).1
  have HBN : Hid (Below W.heap.size W W) := Lib.hid (Below.refl _ _)
  have k0 := HC.out _ HBN.out
  have tb0 : True := trivial
  have tb1 : True := trivial
  have tb2 : True := trivial
  have tc0 : True := trivial
  have tc1 : True := trivial
  have tc2 : True := trivial
  have tc3 : True := trivial
  go_enter Tryd.func3, Tryd.ntmps3
  go_wp2_with (first
    | (go_at_call 6; refine (HAW.out _ (HRW.out.on HBN.out) (HNW.out.on HBN.out)).mono ?_; rintro e wa ⟨rfl, hbn⟩; have hbx := HBN.out.trans (hbn.mono HBN.out.size); clear HBN hbn k0; have HBN := Lib.hid hbx; clear hbx; have k0 := HC.out _ HBN.out)
    | (go_at_call 7; refine (HFE.out _ (HRW.out.on HBN.out)).mono ?_; rintro e wb ⟨rfl, hbn⟩; have hbx := HBN.out.trans (hbn.mono HBN.out.size); clear HBN hbn k0; have HBN := Lib.hid hbx; clear hbx; have k0 := HC.out _ HBN.out)
    | (go_at_call 8; refine (HSA.out _ (HRW.out.on HBN.out)).mono ?_; rintro e wc ⟨rfl, hbn⟩; have hbx := HBN.out.trans (hbn.mono HBN.out.size); clear HBN hbn k0; have HBN := Lib.hid hbx; clear hbx; have k0 := HC.out _ HBN.out)
    | (have _t := tb0; go_at_call 9; refine (HB0.out _ (HRW.out.on HBN.out)).mono ?_; clear _t tb0; rintro e wn ⟨rfl, hbn⟩; have hbx := (HBN.out.trans (hbn.mono HBN.out.size)).alloc (Nat.le_trans HBN.out.size hbn.size) (.cells #[.bool lv0, .slice ca0 CL0 cc0, .slice sa0 SL0 sc0] 30); clear HBN hbn k0; have HBN := Lib.hid hbx; clear hbx; have k0 := HC.out _ HBN.out)
    | (have _t := tb1; go_at_call 9; refine (HB1.out _ (HRW.out.on HBN.out)).mono ?_; clear _t tb1; rintro e wn ⟨rfl, hbn⟩; have hbx := (HBN.out.trans (hbn.mono HBN.out.size)).alloc (Nat.le_trans HBN.out.size hbn.size) (.cells #[.bool lv1, .slice ca1 CL1 cc1, .slice sa1 SL1 sc1] 30); clear HBN hbn k0; have HBN := Lib.hid hbx; clear hbx; have k0 := HC.out _ HBN.out)
    | (have _t := tb2; go_at_call 9; refine (HB2.out _ (HRW.out.on HBN.out)).mono ?_; clear _t tb2; rintro e wn ⟨rfl, hbn⟩; have hbx := (HBN.out.trans (hbn.mono HBN.out.size)).alloc (Nat.le_trans HBN.out.size hbn.size) (.cells #[.bool lv2, .slice ca2 CL2 cc2, .slice sa2 SL2 sc2] 30); clear HBN hbn k0; have HBN := Lib.hid hbx; clear hbx; have k0 := HC.out _ HBN.out)
    | (have _t := tc0; go_at_call 10; refine (HC0.out _ (HRW.out.on HBN.out)).mono ?_; clear _t tc0; rintro e wn ⟨rfl, hbn⟩; have hbx := HBN.out.trans (hbn.mono HBN.out.size); clear HBN hbn k0; have HBN := Lib.hid hbx; clear hbx; have k0 := HC.out _ HBN.out)
    | (have _t := tc1; go_at_call 10; refine (HC1.out _ (HRW.out.on HBN.out)).mono ?_; clear _t tc1; rintro e wn ⟨rfl, hbn⟩; have hbx := HBN.out.trans (hbn.mono HBN.out.size); clear HBN hbn k0; have HBN := Lib.hid hbx; clear hbx; have k0 := HC.out _ HBN.out)
    | (have _t := tc2; go_at_call 10; refine (HC2.out _ (HRW.out.on HBN.out)).mono ?_; clear _t tc2; rintro e wn ⟨rfl, hbn⟩; have hbx := HBN.out.trans (hbn.mono HBN.out.size); clear HBN hbn k0; have HBN := Lib.hid hbx; clear hbx; have k0 := HC.out _ HBN.out)
    | (have _t := tc3; go_at_call 10; refine (HC3.out _ (HRW.out.on HBN.out)).mono ?_; clear _t tc3; rintro e wn ⟨rfl, hbn⟩; have hbx := HBN.out.trans (hbn.mono HBN.out.size); clear HBN hbn k0; have HBN := Lib.hid hbx; clear hbx; have k0 := HC.out _ HBN.out))
  go_ret
  exact ⟨rfl, HBb.out.trans (HBN.out.mono HGL.out)⟩

end Go.Proofs.YtamgkfllbfapbaaDoor

namespace Go.Proofs.YtamgkfllbfapbaaDoor
open Go Go.RowKit Go.Sort

theorem editEdges_any (p : Pg) (f b tob other : Int) (w : World) (h : Rd w p) (hN : NTab w) :
    Calls Tryd.prog 3 #[p.val, .int .i64 f, .int .i64 b, .int .i64 tob, .int .i64 other] w fun x w' => x = .returned (.bool true) ∧ Below w.heap.size w w' := by
  by_cases hfew : p.few
  rotate_left
  · exact edgesN p f b tob other w h hN hfew
  by_cases hs : p.sane
  rotate_left
  · exact edgesS p f b tob other w h hN hfew hs
  cases hok : blkB p f b with
  | false =>
    cases hf : funB p f with
    | false => exact edgesf0 p f b tob other w h hN hfew hs hf hok
    | true => exact edgest0 p f b tob other w h hN hfew hs hf hok
  | true =>
    cases hal : blkB p f tob with
    | false => exact edgest1 p f b tob other w h hN hfew hs (blk_fun hok) hok hal
    | true =>
      by_cases ho : other = tob
      · cases he : edgeB p f b tob with
        | false => exact edges0eq p f b tob other w h hN hfew hs hok hal he ho
        | true => exact edges1eq p f b tob other w h hN hfew hs hok hal he ho
      · cases his : blkB p f other with
        | false =>
          cases he : edgeB p f b tob with
          | false => exact edges0n p f b tob other w h hN hfew hs hok hal he his
          | true => exact edges1n p f b tob other w h hN hfew hs hok hal he his
        | true =>
          cases he : edgeB p f b tob <;> cases he2 : edgeB p f b other
          · exact edges0u p f b tob other w h hN hfew hs hok hal he his he2 ho
          · exact edges0v p f b tob other w h hN hfew hs hok hal he his he2 ho
          · exact edges1u p f b tob other w h hN hfew hs hok hal he his he2 ho
          · exact edges1v p f b tob other w h hN hfew hs hok hal he his he2 ho
end Go.Proofs.YtamgkfllbfapbaaDoor

namespace Go.Proofs.YtamgkfllbfapbaaDoor.EditEdges
open Go.ChangeShapes Go.WideShapes Go.ChangeAt Go.RowKit

set_option maxRecDepth 100000 in
theorem contract (H : Type) (enc : TypeId × Value → H) (W : World) (base : Nat) (args : Array Value) (ds gs : List (DataW H)) (before : List MemPlace)
    (hval : ∀ (j : Nat) t v, Tryd.f3.params[j]? = some t → args[j]? = some v → Value.okWide Tryd.prog W .any base t v)
    (hW : DataW.Whole enc Tryd.prog Tryd.f3.params.toList Rows.editEdgesSpec.vars false W args.toList ds gs before) (hL : laidMetH Tryd.prog Rows.editEdgesRow.laid W) :
    Calls Tryd.prog 3 args W fun e W' => ∃ v, e = .returned v ∧ Rows.editEdgesSpec.post enc Tryd.prog Tryd.f3 false true false false W args v W' := by
  obtain ⟨hT, hE, hN⟩ := tabs7_of_laid hL
  have hW' := hW
  obtain ⟨p, q, hA0, hV, rfl, hfz, hnd⟩ := hW
  have hA : DataW.TrodAll enc Tryd.prog W 0 (fun _ => true) true Tryd.f3.params.toList args.toList ds p := hA0
  rw [Tryd.params3] at hA hval
  obtain ⟨v0, vs0, d0, ds0, p0, q0, hargs, rfl, rfl, h0, r0⟩ := trodAll_cons hA
  obtain ⟨v1, vs1, d1, ds1, p1, q1, rfl, rfl, rfl, h1, r1⟩ := trodAll_cons r0
  obtain ⟨v2, vs2, d2, ds2, p2, q2, rfl, rfl, rfl, h2, r2⟩ := trodAll_cons r1
  obtain ⟨v3, vs3, d3, ds3, p3, q3, rfl, rfl, rfl, h3, r3⟩ := trodAll_cons r2
  obtain ⟨v4, vs4, d4, ds4, p4, q4, rfl, rfl, rfl, h4, r4⟩ := trodAll_cons r3
  obtain ⟨rfl, rfl, rfl⟩ := trodAll_nil r4
  obtain rfl : args = #[v0, v1, v2, v3, v4] := by cases args; simp_all
  obtain ⟨rfl, rfl⟩ := trodVars_none hV
  clear hA0
  simp only [List.append_nil] at hW'
  have hlt : ∀ x ∈ p0 ++ (p1 ++ (p2 ++ (p3 ++ p4))), x.block < W.heap.size := fun x hx => by simpa using hW'.lt x (by simpa using hx)
  have harg0 : ∀ (W' : World), Below W.heap.size W W' → DataW.Trod enc Tryd.prog W' 0 (fun b => decide (b < W.heap.size)) true 24 v0 d0 p0 :=
    fun W' hn => Below.trod laidOut (by kernel_rfl) (of_decide_eq_true (by kernel_rfl)) h0 hn (fun x hx => hlt x (List.mem_append.2 (.inl hx)))
  have harg1 : ∀ (W' : World), Below W.heap.size W W' → DataW.Trod enc Tryd.prog W' 0 (fun b => decide (b < W.heap.size)) true 3 v1 d1 p1 :=
    fun W' hn => Below.trod laidOut (by kernel_rfl) (of_decide_eq_true (by kernel_rfl)) h1 hn (fun x hx => hlt x (List.mem_append.2 (.inr (List.mem_append.2 (.inl hx)))))
  have harg2 : ∀ (W' : World), Below W.heap.size W W' → DataW.Trod enc Tryd.prog W' 0 (fun b => decide (b < W.heap.size)) true 3 v2 d2 p2 :=
    fun W' hn => Below.trod laidOut (by kernel_rfl) (of_decide_eq_true (by kernel_rfl)) h2 hn (fun x hx => hlt x (List.mem_append.2 (.inr (List.mem_append.2 (.inr (List.mem_append.2 (.inl hx)))))))
  have harg3 : ∀ (W' : World), Below W.heap.size W W' → DataW.Trod enc Tryd.prog W' 0 (fun b => decide (b < W.heap.size)) true 3 v3 d3 p3 :=
    fun W' hn => Below.trod laidOut (by kernel_rfl) (of_decide_eq_true (by kernel_rfl)) h3 hn (fun x hx => hlt x (List.mem_append.2 (.inr (List.mem_append.2 (.inr (List.mem_append.2 (.inr (List.mem_append.2 (.inl hx)))))))))
  have harg4 : ∀ (W' : World), Below W.heap.size W W' → DataW.Trod enc Tryd.prog W' 0 (fun b => decide (b < W.heap.size)) true 3 v4 d4 p4 :=
    fun W' hn => Below.trod laidOut (by kernel_rfl) (of_decide_eq_true (by kernel_rfl)) h4 hn (fun x hx => hlt x (List.mem_append.2 (.inr (List.mem_append.2 (.inr (List.mem_append.2 (.inr (List.mem_append.2 (.inr hx)))))))))
  obtain ⟨pg0, rfl, hP0⟩ := open_prog (hval 0 24 v0 rfl rfl) h0
  obtain ⟨n1, rfl, hd1, hp1, wn1⟩ := open_int Tryd.underlying3 (hval 1 3 v1 rfl rfl) h1
  obtain ⟨n2, rfl, hd2, hp2, wn2⟩ := open_int Tryd.underlying3 (hval 2 3 v2 rfl rfl) h2
  obtain ⟨n3, rfl, hd3, hp3, wn3⟩ := open_int Tryd.underlying3 (hval 3 3 v3 rfl rfl) h3
  obtain ⟨n4, rfl, hd4, hp4, wn4⟩ := open_int Tryd.underlying3 (hval 4 3 v4 rfl rfl) h4
  refine (editEdges_any pg0 n1 n2 n3 n4 W ⟨hP0, hT, hE⟩ hN).mono fun e W' ⟨he, hb⟩ => ?_
  subst he
  exact ⟨_, rfl, _, _, _, [], p0 ++ (p1 ++ (p2 ++ (p3 ++ p4))), [], hW', trodAll_mk1 (shut_bool Tryd.underlying4 true), trodAll_cons_mk (harg0 _ hb) (trodAll_cons_mk (harg1 _ hb) (trodAll_cons_mk (harg2 _ hb) (trodAll_cons_mk (harg3 _ hb) (trodAll_mk1 (harg4 _ hb))))), rfl, hb.frame _, fun h => by cases h⟩

theorem laid_met (os : Os) : laidMetH Tryd.prog Rows.editEdgesRow.laid ((laidWorldQ os).forCall (fun _ _ => 0) ⟨#[], #[.agg #[.slice none 0 0], .int .i64 0, .int .i64 0, .int .i64 0, .int .i64 0], []⟩).memory :=
  laidMetH_of_parts (laidMet_of_run' 8 (by kernel_rfl) (by kernel_rfl)) (by kernel_rfl)
theorem reads (os : Os) {H : Type} (enc : TypeId × Value → H) : ∃ places, DataW.whole enc Tryd.prog ((laidWorldQ os).forCall (fun _ _ => 0) ⟨#[], #[.agg #[.slice none 0 0], .int .i64 0, .int .i64 0, .int .i64 0, .int .i64 0], []⟩).memory Tryd.f3.params.toList Rows.editEdgesSpec.vars false #[Value.agg #[.slice none 0 0], Value.int .i64 0, Value.int .i64 0, Value.int .i64 0, Value.int .i64 0].toList 8 = some ([.agg [.nil], .lit (.int .i64 0), .lit (.int .i64 0), .lit (.int .i64 0), .lit (.int .i64 0)], [], places) :=
  ⟨[], by kernel_rfl⟩

set_option maxRecDepth 100000 in
theorem lifted (os : Os) (started : os.Started) (H : Type) (enc : TypeId × Value → H) (F : Stop.Interp) :
    ReturnsInHanded {} Tryd.checked os 3 .any ((OpenSpec.ofChange Rows.editEdgesSpec).preRow enc Tryd.prog Tryd.f3 Rows.editEdgesRow.domain false Rows.editEdgesRow.laid) (((OpenSpec.ofChange Rows.editEdgesSpec).at F).post enc Tryd.prog Tryd.f3 false true false false) := by
  obtain ⟨places, hx⟩ := reads os enc
  refine returnsInHanded_of_row (C := Tryd.checked) (s := OpenSpec.ofChange Rows.editEdgesSpec) own started (by kernel_rfl) Tryd.func3
    (witness_row_at (enc := enc) (C := Tryd.checked) false (laidWorldQ os) #[.agg #[.slice none 0 0], .int .i64 0, .int .i64 0, .int .i64 0, .int .i64 0] rfl (by kernel_rfl) (by kernel_rfl) (by kernel_rfl)
      (OpenSpec.preRow_of_cond 8 hx (by kernel_rfl) (fun k hk => by cases hk) (by kernel_rfl) (laid_met os))) ?_
  intro W base args ds gs before hval hW _ _ _ hL _ _
  exact contract H enc W base args ds gs before hval hW hL

theorem said : Rows.EditEdgesSaid :=
  OpenClaim.holds_of_cond 3 Tryd.f3 rfl rfl rfl rfl rfl rfl rfl ⟨rfl, rfl, rfl, rfl, rfl⟩ rfl rfl rfl rfl rfl (by kernel_rfl) Tryd.func3 (by kernel_rfl)
    (of_decide_eq_true (by kernel_rfl)) (by unfold Func.isWrapper; first | (rw [if_pos (by decide +kernel)]; kernel_rfl) | (rw [if_neg (by decide +kernel)]; exact ⟨rfl, rfl⟩))
    (fun os started H enc _ F => by rw [OpenClaim.pre_eq_preRow]; exact lifted os started H enc F)

theorem plain (f : FuncId) (fn : Func) (hf : Tryd.pinned.checked.prog.funcNamed "bywash/bywashlaw07.EditEdges" = some f) (hfn : Tryd.pinned.checked.prog.funcs[f]? = some fn) :
    true = Tryd.pinned.checked.prog.looks [] ∧ ∀ (j : Nat) t, fn.params[j]? = some t → Tryd.pinned.checked.prog.wantsStandIn t = false := by
  obtain rfl : f = 3 := Option.some.inj ((show Tryd.prog.funcNamed "bywash/bywashlaw07.EditEdges" = some 3 by kernel_rfl).symm.trans hf) |>.symm
  obtain rfl : fn = Tryd.f3 := (Option.some.inj (Tryd.func3.symm.trans hfn)).symm
  refine ⟨by kernel_rfl, fun j t ht => ?_⟩
  rw [Tryd.params3] at ht
  have hm : t ∈ [24, 3, 3, 3, 3] := by simpa using Array.mem_of_getElem? ht
  have hall : ([24, 3, 3, 3, 3].all fun u => !Tryd.prog.wantsStandIn u) = true := by kernel_rfl
  exact (show Tryd.prog.wantsStandIn t = false by simpa using List.all_eq_true.1 hall t hm)

/-- THE CARD. -/
theorem card : Rows.EditEdgesCardSaid :=
  Claim7.holds_tied_plain_at .later [] _ _ _ _ said (fun _ h => by cases h) (by kernel_rfl) (fun _ h => by cases h) editEdges_row_tie rfl ⟨rfl, rfl⟩ (by kernel_rfl) rfl plain (by kernel_rfl)
end Go.Proofs.YtamgkfllbfapbaaDoor.EditEdges

namespace Go.Proofs.YtamgkfllbfapbaaDoor
/-- The law EditEdges: its card holds. -/
theorem editEdges_card : Rows.EditEdgesCardSaid := EditEdges.card
#print axioms editEdges_card
end Go.Proofs.YtamgkfllbfapbaaDoor
