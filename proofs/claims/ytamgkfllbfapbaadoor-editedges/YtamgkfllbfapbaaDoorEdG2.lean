/- EditEdges: its walk. -/
import Derived.Test.YtamgkfllbfapbaaDoorEdE2
namespace Go.Proofs.YtamgkfllbfapbaaDoor
open Go Go.RowKit Go.Sort

theorem blk_fun2 {p : Pg} {f b : Int} (h : blkB p f b = true) : funB p f = true := by
  by_cases hf : funB p f = true
  · exact hf
  · rw [blkB_none (by simpa using hf)] at h; cases h

set_option maxRecDepth 100000 in
set_option maxHeartbeats 16000000 in
theorem edges0v (p : Pg) (f b tob other : Int) (w : World) (h : Rd w p) (hN : NTab w) (hfew : p.few) (hs : p.sane) (hok : blkB p f b = true) (hal : blkB p f tob = true) (he : edgeB p f b tob = false) (his : blkB p f other = true) (he2 : edgeB p f b other = true) (hne : ¬ other = tob) :
    Calls Tryd.prog 3 #[p.val, .int .i64 f, .int .i64 b, .int .i64 tob, .int .i64 other] w fun x w' => x = .returned (.bool true) ∧ Below w.heap.size w w' := by
  have hnb : (other == tob) = false := beq_false_of_ne hne
  have HAW := Lib.hid (fun wr (h : Rd wr p) (hN : NTab wr) => awake7_any wr h.2.1 h.2.2 hN)
  have HFE := Lib.hid (fun wr (h : Rd wr p) => Few_any p wr h.1 true (by simp [hfew]))
  have HSA := Lib.hid (fun wr (h : Rd wr p) => Sane_any p wr h.1 h.2.1 h.2.2 hfew true (by simp [hs]))
  have hsb := (saneB_iff p).2 hs
  have HC0 := Lib.hid (fun wr (h : Rd wr p) => Check_any p ⟨3, f, b, tob, 0, 0, ⟨0, 0, 0, 0, 0, 0, 0, 0, 0, 0, 0⟩⟩ wr h hfew 0 (by simp [chk, opE, inFunE, blocksE, firstE, unl, isOpB, hsb, blk_fun2 hok, hok, hal, he]))
  have HC1 := Lib.hid (fun wr (h : Rd wr p) => Check_any p ⟨4, f, b, tob, 0, 0, ⟨0, 0, 0, 0, 0, 0, 0, 0, 0, 0, 0⟩⟩ wr h hfew 5 (by simp [chk, opE, inFunE, blocksE, firstE, unl, isOpB, hsb, blk_fun2 hok, hok, hal, he]))
  have HC2 := Lib.hid (fun wr (h : Rd wr p) => Check_any p ⟨5, f, b, tob, other, 0, ⟨0, 0, 0, 0, 0, 0, 0, 0, 0, 0, 0⟩⟩ wr h hfew 5 (by simp [chk, opE, inFunE, blocksE, firstE, unl, isOpB, hsb, blk_fun2 hok, hok, hal, he, his]))
  have HC3 := Lib.hid (fun wr (h : Rd wr p) => Check_any p ⟨3, f, b, other, 0, 0, ⟨0, 0, 0, 0, 0, 0, 0, 0, 0, 0, 0⟩⟩ wr h hfew 5 (by simp [chk, opE, inFunE, blocksE, firstE, unl, isOpB, hsb, blk_fun2 hok, hok, his, he2]))
  obtain ⟨y0, hy0⟩ : ∃ y, blkR p f b = y := ⟨_, rfl⟩
  have HB0 := Lib.hid (fun wr (h : Rd wr p) => Block_any p f b wr h.1 h.2.1 h.2.2 hfew y0 hy0 true hok)
  obtain ⟨y1, hy1⟩ : ∃ y, blkR p f tob = y := ⟨_, rfl⟩
  have HB1 := Lib.hid (fun wr (h : Rd wr p) => Block_any p f tob wr h.1 h.2.1 h.2.2 hfew y1 hy1 true hal)
  obtain ⟨y2, hy2⟩ : ∃ y, blkR p f other = y := ⟨_, rfl⟩
  have HB2 := Lib.hid (fun wr (h : Rd wr p) => Block_any p f other wr h.1 h.2.1 h.2.2 hfew y2 hy2 true his)
  have HRD0 := Lib.hid h
  have HN0 := Lib.hid hN
  clear h hN hfew
  clear hs
  clear hsb hok hal he his he2 hne
  unfold Pg.val at HFE HSA HC0 HC1 HC2 HC3 HB0 HB1 HB2
  unfold Ed.val at HC0 HC1 HC2 HC3
  unfold Blk.val at HB0 HB1 HB2
  clear hy0 hy1 hy2
  obtain ⟨lv0, ca0, cc0, code0, sa0, sc0, succ0⟩ := y0
  obtain ⟨lv1, ca1, cc1, code1, sa1, sc1, succ1⟩ := y1
  obtain ⟨lv2, ca2, cc2, code2, sa2, sc2, succ2⟩ := y2
  unfold Pg.val
  try dsimp only at *
  obtain ⟨PL, hPL⟩ : ∃ PL, p.funs.length = PL := ⟨_, rfl⟩
  simp only [hPL] at HFE HSA HC0 HC1 HC2 HC3 HB0 HB1 HB2 ⊢
  clear hPL
  obtain ⟨CL0, hCL0⟩ : ∃ CL, code0.length = CL := ⟨_, rfl⟩
  obtain ⟨SL0, hSL0⟩ : ∃ SL, succ0.length = SL := ⟨_, rfl⟩
  simp only [hCL0, hSL0] at HB0
  clear hCL0 hSL0
  obtain ⟨CL1, hCL1⟩ : ∃ CL, code1.length = CL := ⟨_, rfl⟩
  obtain ⟨SL1, hSL1⟩ : ∃ SL, succ1.length = SL := ⟨_, rfl⟩
  simp only [hCL1, hSL1] at HB1
  clear hCL1 hSL1
  obtain ⟨CL2, hCL2⟩ : ∃ CL, code2.length = CL := ⟨_, rfl⟩
  obtain ⟨SL2, hSL2⟩ : ∃ SL, succ2.length = SL := ⟨_, rfl⟩
  simp only [hCL2, hSL2] at HB2
  clear hCL2 hSL2
  have HBb := Lib.hid (below1 w (.cells #[.slice p.pa PL p.pc] 24))
  have hx0 := BoxL.new w [.slice p.pa PL p.pc] 24
  have HX0 := Lib.hid (show BoxL (w.alloc (.cells #[.slice p.pa PL p.pc] 24)) (w.heap.size) [.slice p.pa PL p.pc] from hx0)
  clear hx0
  have HRW := Lib.hid (HRD0.out.on HBb.out)
  have HNW := Lib.hid (HN0.out.on HBb.out)
  generalize hW : (w.alloc (.cells #[.slice p.pa PL p.pc] 24)) = W at HBb HX0 HRW HNW
  obtain ⟨g, hg⟩ : ∃ g, w.heap.size = g := ⟨_, rfl⟩
  have HGL := Lib.hid HBb.out.size
  rw [hg] at HBb HGL HX0 ⊢
  have HL0 := Lib.hid (HX0.out.lt (Nat.zero_lt_succ _))
  have HC : Hid (∀ wr, Below W.heap.size W wr → wr.cell? ⟨g, 0, none⟩ = some (.slice p.pa PL p.pc)) := Lib.hid fun wr hb => ((HX0.out.below hb HL0.out) 0 _ rfl).1
  have HBN : Hid (Below W.heap.size W W) := Lib.hid (Below.refl _ _)
  have k0 := HC.out _ HBN.out
  have tb0 : True := trivial
  have tb1 : True := trivial
  have tb2 : True := trivial
  have tc0 : True := trivial
  have tc1 : True := trivial
  have tc2 : True := trivial
  have tc3 : True := trivial
  go_enter Tryd.func3, Tryd.ntmps3
  go_wp2_with (first
    | (go_at_call 6; refine (HAW.out _ (HRW.out.on HBN.out) (HNW.out.on HBN.out)).mono ?_; rintro e wa ⟨rfl, hbn⟩; have hbx := HBN.out.trans (hbn.mono HBN.out.size); clear HBN hbn k0; have HBN := Lib.hid hbx; clear hbx; have k0 := HC.out _ HBN.out)
    | (go_at_call 7; refine (HFE.out _ (HRW.out.on HBN.out)).mono ?_; rintro e wb ⟨rfl, hbn⟩; have hbx := HBN.out.trans (hbn.mono HBN.out.size); clear HBN hbn k0; have HBN := Lib.hid hbx; clear hbx; have k0 := HC.out _ HBN.out)
    | (go_at_call 8; refine (HSA.out _ (HRW.out.on HBN.out)).mono ?_; rintro e wc ⟨rfl, hbn⟩; have hbx := HBN.out.trans (hbn.mono HBN.out.size); clear HBN hbn k0; have HBN := Lib.hid hbx; clear hbx; have k0 := HC.out _ HBN.out)
    | (have _t := tb0; go_at_call 9; refine (HB0.out _ (HRW.out.on HBN.out)).mono ?_; clear _t tb0; rintro e wn ⟨rfl, hbn⟩; have hbx := (HBN.out.trans (hbn.mono HBN.out.size)).alloc (Nat.le_trans HBN.out.size hbn.size) (.cells #[.bool lv0, .slice ca0 CL0 cc0, .slice sa0 SL0 sc0] 30); clear HBN hbn k0; have HBN := Lib.hid hbx; clear hbx; have k0 := HC.out _ HBN.out)
    | (have _t := tb1; go_at_call 9; refine (HB1.out _ (HRW.out.on HBN.out)).mono ?_; clear _t tb1; rintro e wn ⟨rfl, hbn⟩; have hbx := (HBN.out.trans (hbn.mono HBN.out.size)).alloc (Nat.le_trans HBN.out.size hbn.size) (.cells #[.bool lv1, .slice ca1 CL1 cc1, .slice sa1 SL1 sc1] 30); clear HBN hbn k0; have HBN := Lib.hid hbx; clear hbx; have k0 := HC.out _ HBN.out)
    | (have _t := tb2; go_at_call 9; refine (HB2.out _ (HRW.out.on HBN.out)).mono ?_; clear _t tb2; rintro e wn ⟨rfl, hbn⟩; have hbx := (HBN.out.trans (hbn.mono HBN.out.size)).alloc (Nat.le_trans HBN.out.size hbn.size) (.cells #[.bool lv2, .slice ca2 CL2 cc2, .slice sa2 SL2 sc2] 30); clear HBN hbn k0; have HBN := Lib.hid hbx; clear hbx; have k0 := HC.out _ HBN.out)
    | (have _t := tc0; go_at_call 10; refine (HC0.out _ (HRW.out.on HBN.out)).mono ?_; clear _t tc0; rintro e wn ⟨rfl, hbn⟩; have hbx := HBN.out.trans (hbn.mono HBN.out.size); clear HBN hbn k0; have HBN := Lib.hid hbx; clear hbx; have k0 := HC.out _ HBN.out)
    | (have _t := tc1; go_at_call 10; refine (HC1.out _ (HRW.out.on HBN.out)).mono ?_; clear _t tc1; rintro e wn ⟨rfl, hbn⟩; have hbx := HBN.out.trans (hbn.mono HBN.out.size); clear HBN hbn k0; have HBN := Lib.hid hbx; clear hbx; have k0 := HC.out _ HBN.out)
    | (have _t := tc2; go_at_call 10; refine (HC2.out _ (HRW.out.on HBN.out)).mono ?_; clear _t tc2; rintro e wn ⟨rfl, hbn⟩; have hbx := HBN.out.trans (hbn.mono HBN.out.size); clear HBN hbn k0; have HBN := Lib.hid hbx; clear hbx; have k0 := HC.out _ HBN.out)
    | (have _t := tc3; go_at_call 10; refine (HC3.out _ (HRW.out.on HBN.out)).mono ?_; clear _t tc3; rintro e wn ⟨rfl, hbn⟩; have hbx := HBN.out.trans (hbn.mono HBN.out.size); clear HBN hbn k0; have HBN := Lib.hid hbx; clear hbx; have k0 := HC.out _ HBN.out))
  go_ret
  exact ⟨rfl, HBb.out.trans (HBN.out.mono HGL.out)⟩

set_option maxRecDepth 100000 in
set_option maxHeartbeats 16000000 in
theorem edges0eq (p : Pg) (f b tob other : Int) (w : World) (h : Rd w p) (hN : NTab w) (hfew : p.few) (hs : p.sane) (hok : blkB p f b = true) (hal : blkB p f tob = true) (he : edgeB p f b tob = false) (hoe : other = tob) :
    Calls Tryd.prog 3 #[p.val, .int .i64 f, .int .i64 b, .int .i64 tob, .int .i64 other] w fun x w' => x = .returned (.bool true) ∧ Below w.heap.size w w' := by
  obtain rfl : tob = other := hoe.symm
  have HAW := Lib.hid (fun wr (h : Rd wr p) (hN : NTab wr) => awake7_any wr h.2.1 h.2.2 hN)
  have HFE := Lib.hid (fun wr (h : Rd wr p) => Few_any p wr h.1 true (by simp [hfew]))
  have HSA := Lib.hid (fun wr (h : Rd wr p) => Sane_any p wr h.1 h.2.1 h.2.2 hfew true (by simp [hs]))
  have hsb := (saneB_iff p).2 hs
  have HC0 := Lib.hid (fun wr (h : Rd wr p) => Check_any p ⟨3, f, b, tob, 0, 0, ⟨0, 0, 0, 0, 0, 0, 0, 0, 0, 0, 0⟩⟩ wr h hfew 0 (by simp [chk, opE, inFunE, blocksE, firstE, unl, isOpB, hsb, blk_fun2 hok, hok, hal, he]))
  have HC1 := Lib.hid (fun wr (h : Rd wr p) => Check_any p ⟨4, f, b, tob, 0, 0, ⟨0, 0, 0, 0, 0, 0, 0, 0, 0, 0, 0⟩⟩ wr h hfew 5 (by simp [chk, opE, inFunE, blocksE, firstE, unl, isOpB, hsb, blk_fun2 hok, hok, hal, he]))
  have HC2 := Lib.hid (fun wr (h : Rd wr p) => Check_any p ⟨5, f, b, tob, tob, 0, ⟨0, 0, 0, 0, 0, 0, 0, 0, 0, 0, 0⟩⟩ wr h hfew 5 (by simp [chk, opE, inFunE, blocksE, firstE, unl, isOpB, hsb, blk_fun2 hok, hok, hal, he]))
  have HC3 := Lib.hid (fun wr (h : Rd wr p) => Check_any p ⟨3, f, b, tob, 0, 0, ⟨0, 0, 0, 0, 0, 0, 0, 0, 0, 0, 0⟩⟩ wr h hfew 0 (by simp [chk, opE, inFunE, blocksE, firstE, unl, isOpB, hsb, blk_fun2 hok, hok, hal, he]))
  obtain ⟨y0, hy0⟩ : ∃ y, blkR p f b = y := ⟨_, rfl⟩
  have HB0 := Lib.hid (fun wr (h : Rd wr p) => Block_any p f b wr h.1 h.2.1 h.2.2 hfew y0 hy0 true hok)
  obtain ⟨y1, hy1⟩ : ∃ y, blkR p f tob = y := ⟨_, rfl⟩
  have HB1 := Lib.hid (fun wr (h : Rd wr p) => Block_any p f tob wr h.1 h.2.1 h.2.2 hfew y1 hy1 true hal)
  obtain ⟨y2, hy2⟩ : ∃ y, blkR p f tob = y := ⟨_, rfl⟩
  have HB2 := Lib.hid (fun wr (h : Rd wr p) => Block_any p f tob wr h.1 h.2.1 h.2.2 hfew y2 hy2 true hal)
  have HRD0 := Lib.hid h
  have HN0 := Lib.hid hN
  clear h hN hfew
  clear hs
  clear hsb hok hal he
  unfold Pg.val at HFE HSA HC0 HC1 HC2 HC3 HB0 HB1 HB2
  unfold Ed.val at HC0 HC1 HC2 HC3
  unfold Blk.val at HB0 HB1 HB2
  clear hy0 hy1 hy2
  obtain ⟨lv0, ca0, cc0, code0, sa0, sc0, succ0⟩ := y0
  obtain ⟨lv1, ca1, cc1, code1, sa1, sc1, succ1⟩ := y1
  obtain ⟨lv2, ca2, cc2, code2, sa2, sc2, succ2⟩ := y2
  unfold Pg.val
  try dsimp only at *
  obtain ⟨PL, hPL⟩ : ∃ PL, p.funs.length = PL := ⟨_, rfl⟩
  simp only [hPL] at HFE HSA HC0 HC1 HC2 HC3 HB0 HB1 HB2 ⊢
  clear hPL
  obtain ⟨CL0, hCL0⟩ : ∃ CL, code0.length = CL := ⟨_, rfl⟩
  obtain ⟨SL0, hSL0⟩ : ∃ SL, succ0.length = SL := ⟨_, rfl⟩
  simp only [hCL0, hSL0] at HB0
  clear hCL0 hSL0
  obtain ⟨CL1, hCL1⟩ : ∃ CL, code1.length = CL := ⟨_, rfl⟩
  obtain ⟨SL1, hSL1⟩ : ∃ SL, succ1.length = SL := ⟨_, rfl⟩
  simp only [hCL1, hSL1] at HB1
  clear hCL1 hSL1
  obtain ⟨CL2, hCL2⟩ : ∃ CL, code2.length = CL := ⟨_, rfl⟩
  obtain ⟨SL2, hSL2⟩ : ∃ SL, succ2.length = SL := ⟨_, rfl⟩
  simp only [hCL2, hSL2] at HB2
  clear hCL2 hSL2
  have HBb := Lib.hid (below1 w (.cells #[.slice p.pa PL p.pc] 24))
  have hx0 := BoxL.new w [.slice p.pa PL p.pc] 24
  have HX0 := Lib.hid (show BoxL (w.alloc (.cells #[.slice p.pa PL p.pc] 24)) (w.heap.size) [.slice p.pa PL p.pc] from hx0)
  clear hx0
  have HRW := Lib.hid (HRD0.out.on HBb.out)
  have HNW := Lib.hid (HN0.out.on HBb.out)
  generalize hW : (w.alloc (.cells #[.slice p.pa PL p.pc] 24)) = W at HBb HX0 HRW HNW
  obtain ⟨g, hg⟩ : ∃ g, w.heap.size = g := ⟨_, rfl⟩
  have HGL := Lib.hid HBb.out.size
  rw [hg] at HBb HGL HX0 ⊢
  have HL0 := Lib.hid (HX0.out.lt (Nat.zero_lt_succ _))
  have HC : Hid (∀ wr, Below W.heap.size W wr → wr.cell? ⟨g, 0, none⟩ = some (.slice p.pa PL p.pc)) := Lib.hid fun wr hb => ((HX0.out.below hb HL0.out) 0 _ rfl).1
  have HBN : Hid (Below W.heap.size W W) := Lib.hid (Below.refl _ _)
  have k0 := HC.out _ HBN.out
  have tb0 : True := trivial
  have tb1 : True := trivial
  have tb2 : True := trivial
  have tc0 : True := trivial
  have tc1 : True := trivial
  have tc2 : True := trivial
  have tc3 : True := trivial
  go_enter Tryd.func3, Tryd.ntmps3
  go_wp2_with (first
    | (go_at_call 6; refine (HAW.out _ (HRW.out.on HBN.out) (HNW.out.on HBN.out)).mono ?_; rintro e wa ⟨rfl, hbn⟩; have hbx := HBN.out.trans (hbn.mono HBN.out.size); clear HBN hbn k0; have HBN := Lib.hid hbx; clear hbx; have k0 := HC.out _ HBN.out)
    | (go_at_call 7; refine (HFE.out _ (HRW.out.on HBN.out)).mono ?_; rintro e wb ⟨rfl, hbn⟩; have hbx := HBN.out.trans (hbn.mono HBN.out.size); clear HBN hbn k0; have HBN := Lib.hid hbx; clear hbx; have k0 := HC.out _ HBN.out)
    | (go_at_call 8; refine (HSA.out _ (HRW.out.on HBN.out)).mono ?_; rintro e wc ⟨rfl, hbn⟩; have hbx := HBN.out.trans (hbn.mono HBN.out.size); clear HBN hbn k0; have HBN := Lib.hid hbx; clear hbx; have k0 := HC.out _ HBN.out)
    | (have _t := tb0; go_at_call 9; refine (HB0.out _ (HRW.out.on HBN.out)).mono ?_; clear _t tb0; rintro e wn ⟨rfl, hbn⟩; have hbx := (HBN.out.trans (hbn.mono HBN.out.size)).alloc (Nat.le_trans HBN.out.size hbn.size) (.cells #[.bool lv0, .slice ca0 CL0 cc0, .slice sa0 SL0 sc0] 30); clear HBN hbn k0; have HBN := Lib.hid hbx; clear hbx; have k0 := HC.out _ HBN.out)
    | (have _t := tb1; go_at_call 9; refine (HB1.out _ (HRW.out.on HBN.out)).mono ?_; clear _t tb1; rintro e wn ⟨rfl, hbn⟩; have hbx := (HBN.out.trans (hbn.mono HBN.out.size)).alloc (Nat.le_trans HBN.out.size hbn.size) (.cells #[.bool lv1, .slice ca1 CL1 cc1, .slice sa1 SL1 sc1] 30); clear HBN hbn k0; have HBN := Lib.hid hbx; clear hbx; have k0 := HC.out _ HBN.out)
    | (have _t := tb2; go_at_call 9; refine (HB2.out _ (HRW.out.on HBN.out)).mono ?_; clear _t tb2; rintro e wn ⟨rfl, hbn⟩; have hbx := (HBN.out.trans (hbn.mono HBN.out.size)).alloc (Nat.le_trans HBN.out.size hbn.size) (.cells #[.bool lv2, .slice ca2 CL2 cc2, .slice sa2 SL2 sc2] 30); clear HBN hbn k0; have HBN := Lib.hid hbx; clear hbx; have k0 := HC.out _ HBN.out)
    | (have _t := tc0; go_at_call 10; refine (HC0.out _ (HRW.out.on HBN.out)).mono ?_; clear _t tc0; rintro e wn ⟨rfl, hbn⟩; have hbx := HBN.out.trans (hbn.mono HBN.out.size); clear HBN hbn k0; have HBN := Lib.hid hbx; clear hbx; have k0 := HC.out _ HBN.out)
    | (have _t := tc1; go_at_call 10; refine (HC1.out _ (HRW.out.on HBN.out)).mono ?_; clear _t tc1; rintro e wn ⟨rfl, hbn⟩; have hbx := HBN.out.trans (hbn.mono HBN.out.size); clear HBN hbn k0; have HBN := Lib.hid hbx; clear hbx; have k0 := HC.out _ HBN.out)
    | (have _t := tc2; go_at_call 10; refine (HC2.out _ (HRW.out.on HBN.out)).mono ?_; clear _t tc2; rintro e wn ⟨rfl, hbn⟩; have hbx := HBN.out.trans (hbn.mono HBN.out.size); clear HBN hbn k0; have HBN := Lib.hid hbx; clear hbx; have k0 := HC.out _ HBN.out)
    | (have _t := tc3; go_at_call 10; refine (HC3.out _ (HRW.out.on HBN.out)).mono ?_; clear _t tc3; rintro e wn ⟨rfl, hbn⟩; have hbx := HBN.out.trans (hbn.mono HBN.out.size); clear HBN hbn k0; have HBN := Lib.hid hbx; clear hbx; have k0 := HC.out _ HBN.out))
  go_ret
  exact ⟨rfl, HBb.out.trans (HBN.out.mono HGL.out)⟩

set_option maxRecDepth 100000 in
set_option maxHeartbeats 16000000 in
theorem edges1n (p : Pg) (f b tob other : Int) (w : World) (h : Rd w p) (hN : NTab w) (hfew : p.few) (hs : p.sane) (hok : blkB p f b = true) (hal : blkB p f tob = true) (he : edgeB p f b tob = true) (his : blkB p f other = false) :
    Calls Tryd.prog 3 #[p.val, .int .i64 f, .int .i64 b, .int .i64 tob, .int .i64 other] w fun x w' => x = .returned (.bool true) ∧ Below w.heap.size w w' := by
  have HAW := Lib.hid (fun wr (h : Rd wr p) (hN : NTab wr) => awake7_any wr h.2.1 h.2.2 hN)
  have HFE := Lib.hid (fun wr (h : Rd wr p) => Few_any p wr h.1 true (by simp [hfew]))
  have HSA := Lib.hid (fun wr (h : Rd wr p) => Sane_any p wr h.1 h.2.1 h.2.2 hfew true (by simp [hs]))
  have hsb := (saneB_iff p).2 hs
  have HC0 := Lib.hid (fun wr (h : Rd wr p) => Check_any p ⟨3, f, b, tob, 0, 0, ⟨0, 0, 0, 0, 0, 0, 0, 0, 0, 0, 0⟩⟩ wr h hfew 5 (by simp [chk, opE, inFunE, blocksE, firstE, unl, isOpB, hsb, blk_fun2 hok, hok, hal, he]))
  have HC1 := Lib.hid (fun wr (h : Rd wr p) => Check_any p ⟨4, f, b, tob, 0, 0, ⟨0, 0, 0, 0, 0, 0, 0, 0, 0, 0, 0⟩⟩ wr h hfew 0 (by simp [chk, opE, inFunE, blocksE, firstE, unl, isOpB, hsb, blk_fun2 hok, hok, hal, he]))
  have HC2 := Lib.hid (fun wr (h : Rd wr p) => Check_any p ⟨5, f, b, tob, other, 0, ⟨0, 0, 0, 0, 0, 0, 0, 0, 0, 0, 0⟩⟩ wr h hfew 2 (by simp [chk, opE, inFunE, blocksE, firstE, unl, isOpB, hsb, blk_fun2 hok, hok, hal, his]))
  have HC3 := Lib.hid (fun wr (h : Rd wr p) => Check_any p ⟨3, f, b, other, 0, 0, ⟨0, 0, 0, 0, 0, 0, 0, 0, 0, 0, 0⟩⟩ wr h hfew 2 (by simp [chk, opE, inFunE, blocksE, firstE, unl, isOpB, hsb, blk_fun2 hok, hok, his]))
  obtain ⟨y0, hy0⟩ : ∃ y, blkR p f b = y := ⟨_, rfl⟩
  have HB0 := Lib.hid (fun wr (h : Rd wr p) => Block_any p f b wr h.1 h.2.1 h.2.2 hfew y0 hy0 true hok)
  obtain ⟨y1, hy1⟩ : ∃ y, blkR p f tob = y := ⟨_, rfl⟩
  have HB1 := Lib.hid (fun wr (h : Rd wr p) => Block_any p f tob wr h.1 h.2.1 h.2.2 hfew y1 hy1 true hal)
  obtain ⟨y2, hy2⟩ : ∃ y, blkR p f other = y := ⟨_, rfl⟩
  have HB2 := Lib.hid (fun wr (h : Rd wr p) => Block_any p f other wr h.1 h.2.1 h.2.2 hfew y2 hy2 false his)
  have HRD0 := Lib.hid h
  have HN0 := Lib.hid hN
  clear h hN hfew
  clear hs
  clear hsb hok hal he his
  unfold Pg.val at HFE HSA HC0 HC1 HC2 HC3 HB0 HB1 HB2
  unfold Ed.val at HC0 HC1 HC2 HC3
  unfold Blk.val at HB0 HB1 HB2
  clear hy0 hy1 hy2
  obtain ⟨lv0, ca0, cc0, code0, sa0, sc0, succ0⟩ := y0
  obtain ⟨lv1, ca1, cc1, code1, sa1, sc1, succ1⟩ := y1
  obtain ⟨lv2, ca2, cc2, code2, sa2, sc2, succ2⟩ := y2
  unfold Pg.val
  try dsimp only at *
  obtain ⟨PL, hPL⟩ : ∃ PL, p.funs.length = PL := ⟨_, rfl⟩
  simp only [hPL] at HFE HSA HC0 HC1 HC2 HC3 HB0 HB1 HB2 ⊢
  clear hPL
  obtain ⟨CL0, hCL0⟩ : ∃ CL, code0.length = CL := ⟨_, rfl⟩
  obtain ⟨SL0, hSL0⟩ : ∃ SL, succ0.length = SL := ⟨_, rfl⟩
  simp only [hCL0, hSL0] at HB0
  clear hCL0 hSL0
  obtain ⟨CL1, hCL1⟩ : ∃ CL, code1.length = CL := ⟨_, rfl⟩
  obtain ⟨SL1, hSL1⟩ : ∃ SL, succ1.length = SL := ⟨_, rfl⟩
  simp only [hCL1, hSL1] at HB1
  clear hCL1 hSL1
  obtain ⟨CL2, hCL2⟩ : ∃ CL, code2.length = CL := ⟨_, rfl⟩
  obtain ⟨SL2, hSL2⟩ : ∃ SL, succ2.length = SL := ⟨_, rfl⟩
  simp only [hCL2, hSL2] at HB2
  clear hCL2 hSL2
  have HBb := Lib.hid (below1 w (.cells #[.slice p.pa PL p.pc] 24))
  have hx0 := BoxL.new w [.slice p.pa PL p.pc] 24
  have HX0 := Lib.hid (show BoxL (w.alloc (.cells #[.slice p.pa PL p.pc] 24)) (w.heap.size) [.slice p.pa PL p.pc] from hx0)
  clear hx0
  have HRW := Lib.hid (HRD0.out.on HBb.out)
  have HNW := Lib.hid (HN0.out.on HBb.out)
  generalize hW : (w.alloc (.cells #[.slice p.pa PL p.pc] 24)) = W at HBb HX0 HRW HNW
  obtain ⟨g, hg⟩ : ∃ g, w.heap.size = g := ⟨_, rfl⟩
  have HGL := Lib.hid HBb.out.size
  rw [hg] at HBb HGL HX0 ⊢
  have HL0 := Lib.hid (HX0.out.lt (Nat.zero_lt_succ _))
  have HC : Hid (∀ wr, Below W.heap.size W wr → wr.cell? ⟨g, 0, none⟩ = some (.slice p.pa PL p.pc)) := Lib.hid fun wr hb => ((HX0.out.below hb HL0.out) 0 _ rfl).1
  have HBN : Hid (Below W.heap.size W W) := Lib.hid (Below.refl _ _)
  have k0 := HC.out _ HBN.out
  have tb0 : True := trivial
  have tb1 : True := trivial
  have tb2 : True := trivial
  have tc0 : True := trivial
  have tc1 : True := trivial
  have tc2 : True := trivial
  have tc3 : True := trivial
  go_enter Tryd.func3, Tryd.ntmps3
  go_wp2_with (first
    | (go_at_call 6; refine (HAW.out _ (HRW.out.on HBN.out) (HNW.out.on HBN.out)).mono ?_; rintro e wa ⟨rfl, hbn⟩; have hbx := HBN.out.trans (hbn.mono HBN.out.size); clear HBN hbn k0; have HBN := Lib.hid hbx; clear hbx; have k0 := HC.out _ HBN.out)
    | (go_at_call 7; refine (HFE.out _ (HRW.out.on HBN.out)).mono ?_; rintro e wb ⟨rfl, hbn⟩; have hbx := HBN.out.trans (hbn.mono HBN.out.size); clear HBN hbn k0; have HBN := Lib.hid hbx; clear hbx; have k0 := HC.out _ HBN.out)
    | (go_at_call 8; refine (HSA.out _ (HRW.out.on HBN.out)).mono ?_; rintro e wc ⟨rfl, hbn⟩; have hbx := HBN.out.trans (hbn.mono HBN.out.size); clear HBN hbn k0; have HBN := Lib.hid hbx; clear hbx; have k0 := HC.out _ HBN.out)
    | (have _t := tb0; go_at_call 9; refine (HB0.out _ (HRW.out.on HBN.out)).mono ?_; clear _t tb0; rintro e wn ⟨rfl, hbn⟩; have hbx := (HBN.out.trans (hbn.mono HBN.out.size)).alloc (Nat.le_trans HBN.out.size hbn.size) (.cells #[.bool lv0, .slice ca0 CL0 cc0, .slice sa0 SL0 sc0] 30); clear HBN hbn k0; have HBN := Lib.hid hbx; clear hbx; have k0 := HC.out _ HBN.out)
    | (have _t := tb1; go_at_call 9; refine (HB1.out _ (HRW.out.on HBN.out)).mono ?_; clear _t tb1; rintro e wn ⟨rfl, hbn⟩; have hbx := (HBN.out.trans (hbn.mono HBN.out.size)).alloc (Nat.le_trans HBN.out.size hbn.size) (.cells #[.bool lv1, .slice ca1 CL1 cc1, .slice sa1 SL1 sc1] 30); clear HBN hbn k0; have HBN := Lib.hid hbx; clear hbx; have k0 := HC.out _ HBN.out)
    | (have _t := tb2; go_at_call 9; refine (HB2.out _ (HRW.out.on HBN.out)).mono ?_; clear _t tb2; rintro e wn ⟨rfl, hbn⟩; have hbx := (HBN.out.trans (hbn.mono HBN.out.size)).alloc (Nat.le_trans HBN.out.size hbn.size) (.cells #[.bool lv2, .slice ca2 CL2 cc2, .slice sa2 SL2 sc2] 30); clear HBN hbn k0; have HBN := Lib.hid hbx; clear hbx; have k0 := HC.out _ HBN.out)
    | (have _t := tc0; go_at_call 10; refine (HC0.out _ (HRW.out.on HBN.out)).mono ?_; clear _t tc0; rintro e wn ⟨rfl, hbn⟩; have hbx := HBN.out.trans (hbn.mono HBN.out.size); clear HBN hbn k0; have HBN := Lib.hid hbx; clear hbx; have k0 := HC.out _ HBN.out)
    | (have _t := tc1; go_at_call 10; refine (HC1.out _ (HRW.out.on HBN.out)).mono ?_; clear _t tc1; rintro e wn ⟨rfl, hbn⟩; have hbx := HBN.out.trans (hbn.mono HBN.out.size); clear HBN hbn k0; have HBN := Lib.hid hbx; clear hbx; have k0 := HC.out _ HBN.out)
    | (have _t := tc2; go_at_call 10; refine (HC2.out _ (HRW.out.on HBN.out)).mono ?_; clear _t tc2; rintro e wn ⟨rfl, hbn⟩; have hbx := HBN.out.trans (hbn.mono HBN.out.size); clear HBN hbn k0; have HBN := Lib.hid hbx; clear hbx; have k0 := HC.out _ HBN.out)
    | (have _t := tc3; go_at_call 10; refine (HC3.out _ (HRW.out.on HBN.out)).mono ?_; clear _t tc3; rintro e wn ⟨rfl, hbn⟩; have hbx := HBN.out.trans (hbn.mono HBN.out.size); clear HBN hbn k0; have HBN := Lib.hid hbx; clear hbx; have k0 := HC.out _ HBN.out))
  go_ret
  exact ⟨rfl, HBb.out.trans (HBN.out.mono HGL.out)⟩

end Go.Proofs.YtamgkfllbfapbaaDoor
