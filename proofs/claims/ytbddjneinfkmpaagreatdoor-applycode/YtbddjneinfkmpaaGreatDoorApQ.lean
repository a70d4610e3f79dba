/- ApQ: several texts in one: ApG ApH ApI ApJ ApK. -/
import Derived.Test.YtbddjneinfkmpaaGreatDoorApP
import Derived.Test.YtbddjneinfkmpaaGreatDoorEdN
import Derived.Test.YtbddjneinfkmpaaGreatDoorLate
import Derived.Test.YtbddjneinfkmpaaGreatDoorEdT

namespace Go.Proofs.YtbddjneinfkmpaaGreatDoor
open Go Go.RowKit Go.Sort

/-- A block that was told, as it should be. -/
def BlkRes (B : Nat) (w w' : World) (e : Ending) (spec : Blk) : Prop :=
  ∃ b' : Blk, e = .returned b'.val ∧ BlkIs w'.heap.size w' b' ∧ b'.wf ∧ b'.d = spec.d ∧ Below w.heap.size w w' ∧ ∀ k, B ≤ k → k < w.heap.size → b'.apart k

set_option maxRecDepth 100000 in
set_option maxHeartbeats 16000000 in
theorem chg3 (B : Nat) (p : Pg) (e : Ed) (fn bm : Nat) (x : Blk) (w : World) (h : Rd w p) (hB : PgIs B w p) (hfew : p.few) (hwf : p.wf) (hop : e.op = 3) (hn : e.f = fn) (hm : e.b = bm) (hn2 : fn < p.funs.length) (hm2 : bm < (fdAt p.funs fn).blocks.length) (hx : blkAt (fdAt p.funs fn).blocks bm = x) (hrs : Rises x.succ) (hl1 : x.succ.length ≤ 100) (hl2 : x.code.length ≤ 100)  :
    Calls Tryz.prog 115 #[p.val, e.val] w fun r w' => BlkRes B w w' r (Blk.with x x.code (addN x.succ e.tob)) := by
  obtain ⟨fd, hfd⟩ : ∃ fd, fdAt p.funs fn = fd := ⟨_, rfl⟩
  have hxw : x.wf := by
    have h1 : (fdAt p.funs fn).wf := by
      have e : fdAt p.funs fn = p.funs[fn] := by unfold fdAt; simp [hn2]
      rw [e]
      exact hwf.2 _ (List.getElem_mem hn2)
    rw [← hx]
    exact wf_at h1.2 bm
  obtain ⟨pb, po, hpa, hpb, -, -, c2, hfdis⟩ := h.1 fn hn2
  rw [hfd] at hm2 hx c2 hfdis
  obtain ⟨bb, bo, hba, hbb, d0, d1, d2, hxis⟩ := hfdis bm hm2
  rw [hx] at d0 d1 d2 hxis
  have hxb : BlkIs B w x := by
    obtain ⟨-, -, -, -, -, -, -, q1⟩ := hB fn hn2
    rw [hfd] at q1
    obtain ⟨-, -, -, -, -, -, -, q2⟩ := q1 bm hm2
    rw [hx] at q2
    exact q2
  have HXQ := Lib.hid (fun k (hk : B ≤ k) => hxb.apart hk)
  clear hxb hB
  have hlen10 := hfew.1
  have hbl20 : fd.blocks.length ≤ 20 := by rw [← hfd]; exact (hfew.f fn).1
  have HRD0 := Lib.hid h
  have HXW := Lib.hid hxw
  have HXI := Lib.hid hxis
  clear h hfew hwf hxw hxis hfdis hfd hx
  obtain ⟨lv, ca, cc, code, sa, sc, succ⟩ := x
  obtain ⟨ar, vr, ba, bc, bl⟩ := fd
  obtain ⟨op, f, b, tob, other, pos, ⟨id, kind, dst, a, b2, c, f2, n, x0, x1, x2⟩⟩ := e
  dsimp only at *
  subst hop
  subst hn
  subst hm
  subst hba
  unfold Pg.val Ed.val
  dsimp only
  rw [hpa]
  obtain ⟨PL, hPL⟩ : ∃ PL, p.funs.length = PL := ⟨_, rfl⟩
  obtain ⟨BL, hBL⟩ : ∃ BL, bl.length = BL := ⟨_, rfl⟩
  obtain ⟨CL, hCL⟩ : ∃ CL, code.length = CL := ⟨_, rfl⟩
  obtain ⟨SL, hSL⟩ : ∃ SL, succ.length = SL := ⟨_, rfl⟩
  have HCL := Lib.hid hCL
  have HSL := Lib.hid hSL
  have hCL0 := hCL
  have hPL0 := hPL
  simp only [hPL, hBL, hCL, hSL] at hn2 hm2 c2 d1 d2 hlen10 hbl20 hl1 hl2 ⊢
  clear hPL hBL hCL hSL
  clear hCL0 hPL0
  have hfi : (fn : Int) < (PL : Int) := by omega
  have hbi : (bm : Int) < (BL : Int) := by omega
  have HBb := Lib.hid (below3 w (.cells #[.slice (some ⟨pb, po, none⟩) PL p.pc] 24) (.cells #[.int .i64 3, .int .i64 (fn : Nat), .int .i64 (bm : Nat), .int .i64 tob, .int .i64 other, .int .i64 pos, .int .i64 id, .int .i64 kind, .int .i64 dst, .int .i64 a, .int .i64 b2, .int .i64 c, .int .i64 f2, .int .i64 n, .int .i64 x0, .int .i64 x1, .int .i64 x2] 55) (.cells #[.bool false, .slice none 0 0, .slice none 0 0] 35))
  have hx0 := BoxL.new w [.slice (some ⟨pb, po, none⟩) PL p.pc] 24
  have HX0 := Lib.hid (show BoxL (((w.alloc (.cells #[.slice (some ⟨pb, po, none⟩) PL p.pc] 24)).alloc (.cells #[.int .i64 3, .int .i64 (fn : Nat), .int .i64 (bm : Nat), .int .i64 tob, .int .i64 other, .int .i64 pos, .int .i64 id, .int .i64 kind, .int .i64 dst, .int .i64 a, .int .i64 b2, .int .i64 c, .int .i64 f2, .int .i64 n, .int .i64 x0, .int .i64 x1, .int .i64 x2] 55)).alloc (.cells #[.bool false, .slice none 0 0, .slice none 0 0] 35)) (w.heap.size) [.slice (some ⟨pb, po, none⟩) PL p.pc] from ((hx0).alloc (Nat.zero_lt_succ _) (.cells #[.int .i64 3, .int .i64 (fn : Nat), .int .i64 (bm : Nat), .int .i64 tob, .int .i64 other, .int .i64 pos, .int .i64 id, .int .i64 kind, .int .i64 dst, .int .i64 a, .int .i64 b2, .int .i64 c, .int .i64 f2, .int .i64 n, .int .i64 x0, .int .i64 x1, .int .i64 x2] 55)).alloc (Nat.zero_lt_succ _) (.cells #[.bool false, .slice none 0 0, .slice none 0 0] 35))
  have hx1 := BoxL.new (w.alloc (.cells #[.slice (some ⟨pb, po, none⟩) PL p.pc] 24)) [.int .i64 3, .int .i64 (fn : Nat), .int .i64 (bm : Nat), .int .i64 tob, .int .i64 other, .int .i64 pos, .int .i64 id, .int .i64 kind, .int .i64 dst, .int .i64 a, .int .i64 b2, .int .i64 c, .int .i64 f2, .int .i64 n, .int .i64 x0, .int .i64 x1, .int .i64 x2] 55
  rw [World.size_alloc] at hx1
  have HX1 := Lib.hid (show BoxL (((w.alloc (.cells #[.slice (some ⟨pb, po, none⟩) PL p.pc] 24)).alloc (.cells #[.int .i64 3, .int .i64 (fn : Nat), .int .i64 (bm : Nat), .int .i64 tob, .int .i64 other, .int .i64 pos, .int .i64 id, .int .i64 kind, .int .i64 dst, .int .i64 a, .int .i64 b2, .int .i64 c, .int .i64 f2, .int .i64 n, .int .i64 x0, .int .i64 x1, .int .i64 x2] 55)).alloc (.cells #[.bool false, .slice none 0 0, .slice none 0 0] 35)) (w.heap.size + 1) [.int .i64 3, .int .i64 (fn : Nat), .int .i64 (bm : Nat), .int .i64 tob, .int .i64 other, .int .i64 pos, .int .i64 id, .int .i64 kind, .int .i64 dst, .int .i64 a, .int .i64 b2, .int .i64 c, .int .i64 f2, .int .i64 n, .int .i64 x0, .int .i64 x1, .int .i64 x2] from (hx1).alloc (Nat.zero_lt_succ _) (.cells #[.bool false, .slice none 0 0, .slice none 0 0] 35))
  have hx2 := BoxL.new ((w.alloc (.cells #[.slice (some ⟨pb, po, none⟩) PL p.pc] 24)).alloc (.cells #[.int .i64 3, .int .i64 (fn : Nat), .int .i64 (bm : Nat), .int .i64 tob, .int .i64 other, .int .i64 pos, .int .i64 id, .int .i64 kind, .int .i64 dst, .int .i64 a, .int .i64 b2, .int .i64 c, .int .i64 f2, .int .i64 n, .int .i64 x0, .int .i64 x1, .int .i64 x2] 55)) [.bool false, .slice none 0 0, .slice none 0 0] 35
  rw [World.size_alloc, World.size_alloc] at hx2
  have HX2 := Lib.hid (show BoxL (((w.alloc (.cells #[.slice (some ⟨pb, po, none⟩) PL p.pc] 24)).alloc (.cells #[.int .i64 3, .int .i64 (fn : Nat), .int .i64 (bm : Nat), .int .i64 tob, .int .i64 other, .int .i64 pos, .int .i64 id, .int .i64 kind, .int .i64 dst, .int .i64 a, .int .i64 b2, .int .i64 c, .int .i64 f2, .int .i64 n, .int .i64 x0, .int .i64 x1, .int .i64 x2] 55)).alloc (.cells #[.bool false, .slice none 0 0, .slice none 0 0] 35)) (w.heap.size + 1 + 1) [.bool false, .slice none 0 0, .slice none 0 0] from hx2)
  clear hx0 hx1 hx2
  have HRW := Lib.hid (HRD0.out.on HBb.out)
  have HXG := Lib.hid (HXI.out.on HBb.out)
  have HC2 := Lib.hid c2
  have HD0 := Lib.hid d0
  have HD1 := Lib.hid d1
  have HD2 := Lib.hid d2
  have HPB := Lib.hid hpb
  have HBB := Lib.hid hbb
  clear c2 d0 d1 d2 hpb hbb hpa
  have HXA : Hid (∀ k, w.heap.size ≤ k → Blk.apart k ⟨lv, ca, cc, code, sa, sc, succ⟩) := Lib.hid fun k hk => HXI.out.apart hk
  clear HXI
  generalize hW : (((w.alloc (.cells #[.slice (some ⟨pb, po, none⟩) PL p.pc] 24)).alloc (.cells #[.int .i64 3, .int .i64 (fn : Nat), .int .i64 (bm : Nat), .int .i64 tob, .int .i64 other, .int .i64 pos, .int .i64 id, .int .i64 kind, .int .i64 dst, .int .i64 a, .int .i64 b2, .int .i64 c, .int .i64 f2, .int .i64 n, .int .i64 x0, .int .i64 x1, .int .i64 x2] 55)).alloc (.cells #[.bool false, .slice none 0 0, .slice none 0 0] 35)) = W at HBb HX0 HX1 HX2 HRW HXG
  obtain ⟨g, hg⟩ : ∃ g, w.heap.size = g := ⟨_, rfl⟩
  have HGL := Lib.hid HBb.out.size
  rw [hg] at HBb HGL HX0 HX1 HX2 HPB HBB HXA
  have HL0 := Lib.hid (HX0.out.lt (Nat.zero_lt_succ _))
  have HL1 := Lib.hid (HX1.out.lt (Nat.zero_lt_succ _))
  have HL2 := Lib.hid (HX2.out.lt (Nat.zero_lt_succ _))
  have HC : Hid (∀ wr, Below W.heap.size W wr → wr.cell? ⟨g, 0, none⟩ = some (.slice (some ⟨pb, po, none⟩) PL p.pc) ∧ wr.cell? ⟨g + 1, 0, none⟩ = some (.int .i64 3) ∧ wr.cell? ⟨g + 1, 1, none⟩ = some (.int .i64 (fn : Nat)) ∧ wr.cell? ⟨g + 1, 2, none⟩ = some (.int .i64 (bm : Nat)) ∧ wr.cell? ⟨g + 1, 3, none⟩ = some (.int .i64 tob) ∧ wr.cell? ⟨g + 1, 4, none⟩ = some (.int .i64 other) ∧ wr.cell? ⟨g + 1, 5, none⟩ = some (.int .i64 pos) ∧ wr.cell? ⟨pb, po + fn * 3 + 2, none⟩ = some (.slice (some ⟨bb, bo, none⟩) BL bc) ∧ wr.cell? ⟨bb, bo + bm * 3, none⟩ = some (.bool lv) ∧ wr.cell? ⟨bb, bo + bm * 3 + 1, none⟩ = some (.slice ca CL cc) ∧ wr.cell? ⟨bb, bo + bm * 3 + 2, none⟩ = some (.slice sa SL sc)) := Lib.hid fun wr hb => ⟨((HX0.out.below hb HL0.out) 0 _ rfl).1, ((HX1.out.below hb HL1.out) 0 _ rfl).1, ((HX1.out.below hb HL1.out) 1 _ rfl).1, ((HX1.out.below hb HL1.out) 2 _ rfl).1, ((HX1.out.below hb HL1.out) 3 _ rfl).1, ((HX1.out.below hb HL1.out) 4 _ rfl).1, ((HX1.out.below hb HL1.out) 5 _ rfl).1, ((HBb.out.trans (hb.mono HGL.out)).cell (p := ⟨pb, po + fn * 3 + 2, none⟩) HPB.out).trans HC2.out, ((HBb.out.trans (hb.mono HGL.out)).cell (p := ⟨bb, bo + bm * 3, none⟩) HBB.out).trans HD0.out, ((HBb.out.trans (hb.mono HGL.out)).cell (p := ⟨bb, bo + bm * 3 + 1, none⟩) HBB.out).trans HD1.out, ((HBb.out.trans (hb.mono HGL.out)).cell (p := ⟨bb, bo + bm * 3 + 2, none⟩) HBB.out).trans HD2.out⟩
  go_enter Tryz.func115, Tryz.ntmps115
  go_wp2_with fail
  have HBN : Hid (Below W.heap.size W W.drew) := Lib.hid (Below.refl _ _).drew
  go_region_held3 (fun w' => w'.cell? ⟨g, 0, none⟩ = some (.slice (some ⟨pb, po, none⟩) PL p.pc) ∧ w'.cell? ⟨g + 1, 0, none⟩ = some (.int .i64 3) ∧ w'.cell? ⟨g + 1, 1, none⟩ = some (.int .i64 (fn : Nat)) ∧ w'.cell? ⟨g + 1, 2, none⟩ = some (.int .i64 (bm : Nat)) ∧ w'.cell? ⟨g + 1, 3, none⟩ = some (.int .i64 tob) ∧ w'.cell? ⟨g + 1, 4, none⟩ = some (.int .i64 other) ∧ w'.cell? ⟨g + 1, 5, none⟩ = some (.int .i64 pos) ∧ w'.cell? ⟨pb, po + fn * 3 + 2, none⟩ = some (.slice (some ⟨bb, bo, none⟩) BL bc) ∧ w'.cell? ⟨bb, bo + bm * 3, none⟩ = some (.bool lv) ∧ w'.cell? ⟨bb, bo + bm * 3 + 1, none⟩ = some (.slice ca CL cc) ∧ w'.cell? ⟨bb, bo + bm * 3 + 2, none⟩ = some (.slice sa SL sc))
    (first | exact HC.out _ HBN.out | exact HC.out _ (HBN.out.alloc HBN.out.size _))
    (fail)
  have HXB := Lib.hid (show BoxL ((W.alloc (.cells #[.bool lv, .slice ca CL cc, .slice sa SL sc] 35)).drew) W.heap.size [.bool lv, .slice ca CL cc, .slice sa SL sc] from (BoxL.new W _ _).drew)
  have HB2 := Lib.hid (show Below W.heap.size W ((W.alloc (.cells #[.bool lv, .slice ca CL cc, .slice sa SL sc] 35)).drew) from (below1 W _).drew)
  clear HBN
  generalize (W.alloc (.cells #[.bool lv, .slice ca CL cc, .slice sa SL sc] 35)).drew = W2 at HXB HB2 ⊢
  obtain ⟨gb, hgb⟩ : ∃ b, W.heap.size = b := ⟨_, rfl⟩
  rw [hgb] at HXB ⊢
  have HGB := Lib.hid (show g + 1 + 1 < gb by rw [← hgb]; exact HL2.out)
  have HLB := Lib.hid (HXB.out.lt (Nat.zero_lt_succ _))
  have HL22 := Lib.hid (show g + 1 + 1 < W2.heap.size from Nat.lt_of_lt_of_le HL2.out HB2.out.size)
  have HX22 := Lib.hid (HX2.out.below HB2.out HL2.out)
  have HRD2 := Lib.hid (HRW.out.on HB2.out)
  have HXI2 := Lib.hid (HXG.out.on HB2.out)
  have HBF := Lib.hid (HBb.out.trans (HB2.out.mono HGL.out))
  have HGF := Lib.hid (Nat.le_trans HGL.out HB2.out.size)
  clear hgb

  have HD : Hid (∀ wr, Below W2.heap.size W2 wr → wr.cell? ⟨g, 0, none⟩ = some (.slice (some ⟨pb, po, none⟩) PL p.pc) ∧ wr.cell? ⟨g + 1, 0, none⟩ = some (.int .i64 3) ∧ wr.cell? ⟨g + 1, 1, none⟩ = some (.int .i64 (fn : Nat)) ∧ wr.cell? ⟨g + 1, 2, none⟩ = some (.int .i64 (bm : Nat)) ∧ wr.cell? ⟨g + 1, 3, none⟩ = some (.int .i64 tob) ∧ wr.cell? ⟨g + 1, 4, none⟩ = some (.int .i64 other) ∧ wr.cell? ⟨g + 1, 5, none⟩ = some (.int .i64 pos) ∧ wr.cell? ⟨gb, 0, none⟩ = some (.bool lv) ∧ wr.frozen? ⟨gb, 0, none⟩ = false ∧ wr.cell? ⟨gb, 1, none⟩ = some (.slice ca CL cc) ∧ wr.frozen? ⟨gb, 1, none⟩ = false ∧ wr.cell? ⟨gb, 2, none⟩ = some (.slice sa SL sc) ∧ wr.frozen? ⟨gb, 2, none⟩ = false ∧ wr.cell? ⟨g + 1 + 1, 0, none⟩ = some (.bool false) ∧ wr.frozen? ⟨g + 1 + 1, 0, none⟩ = false ∧ wr.cell? ⟨g + 1 + 1, 1, none⟩ = some (.slice none 0 0) ∧ wr.frozen? ⟨g + 1 + 1, 1, none⟩ = false ∧ wr.cell? ⟨g + 1 + 1, 2, none⟩ = some (.slice none 0 0) ∧ wr.frozen? ⟨g + 1 + 1, 2, none⟩ = false) := Lib.hid fun wr hb => ⟨((HX0.out.below (HB2.out.trans (hb.mono HB2.out.size)) HL0.out) 0 _ rfl).1, ((HX1.out.below (HB2.out.trans (hb.mono HB2.out.size)) HL1.out) 0 _ rfl).1, ((HX1.out.below (HB2.out.trans (hb.mono HB2.out.size)) HL1.out) 1 _ rfl).1, ((HX1.out.below (HB2.out.trans (hb.mono HB2.out.size)) HL1.out) 2 _ rfl).1, ((HX1.out.below (HB2.out.trans (hb.mono HB2.out.size)) HL1.out) 3 _ rfl).1, ((HX1.out.below (HB2.out.trans (hb.mono HB2.out.size)) HL1.out) 4 _ rfl).1, ((HX1.out.below (HB2.out.trans (hb.mono HB2.out.size)) HL1.out) 5 _ rfl).1, ((HXB.out.below hb HLB.out) 0 _ rfl).1, ((HXB.out.below hb HLB.out) 0 _ rfl).2, ((HXB.out.below hb HLB.out) 1 _ rfl).1, ((HXB.out.below hb HLB.out) 1 _ rfl).2, ((HXB.out.below hb HLB.out) 2 _ rfl).1, ((HXB.out.below hb HLB.out) 2 _ rfl).2, ((HX22.out.below hb HL22.out) 0 _ rfl).1, ((HX22.out.below hb HL22.out) 0 _ rfl).2, ((HX22.out.below hb HL22.out) 1 _ rfl).1, ((HX22.out.below hb HL22.out) 1 _ rfl).2, ((HX22.out.below hb HL22.out) 2 _ rfl).1, ((HX22.out.below hb HL22.out) 2 _ rfl).2⟩
  have HBM : Hid (Below W2.heap.size W2 W2) := Lib.hid (Below.refl _ _)
  obtain ⟨m0, m1, m2, m3, m4, m5, m6, m7, m8, m9, m10, m11, m12, m13, m14, m15, m16, m17, m18⟩ := HD.out _ HBM.out
  have HWE := Lib.hid (withEdge_any sa succ sc tob W2 HXI2.out.2 hrs HXW.out.2 (by rw [HSL.out]; omega))
  rw [HSL.out] at HWE
  have hgb := HGB.out
  go_wp2_with (go_at_call 151; refine HWE.out.mono ?_; rintro e w3 ⟨⟨a', cap', rfl, hIs, hwf', hfar⟩, hb3⟩; have HBN := Lib.hid (HBM.out.trans (hb3.mono HBM.out.size)); have HIS := Lib.hid hIs; have HWF := Lib.hid hwf'; have HFA := Lib.hid hfar; clear hb3 hIs hwf' hfar HBM m0 m1 m2 m3 m4 m5 m6 m7 m8 m9 m10 m11 m12 m13 m14 m15 m16 m17 m18; have HBM := HBN; clear HBN; obtain ⟨m0, m1, m2, m3, m4, m5, m6, m7, m8, m9, m10, m11, m12, m13, m14, m15, m16, m17, m18⟩ := HD.out _ HBM.out)
  have HY := (((HX22.out.below HBM.out HL22.out).far (by omega : g + 1 + 1 ≠ gb) 2 (.slice a' (SL + 1) cap')).put3 (.bool lv) (.slice ca CL cc) (.slice a' (SL + 1) cap'))
  refine bodyPost_ret (ret_cell rfl _ _ (g + 1 + 1) [.bool lv, .slice ca CL cc, .slice a' (SL + 1) cap'] _ rfl HY Tryz.underlying35 rfl (by kernel_rfl)) rfl ?_
  have hag := HXA.out gb (by omega)
  have hag2 := HXA.out (g + 1 + 1) (by omega)
  have hold := HXI2.out.on HBM.out
  refine ⟨⟨lv, ca, cc, code, a', cap', addN succ tob⟩, by simp only [Blk.val, HCL.out, addN_length, HSL.out], ?_, ⟨HXW.out.1, by show wfS a' (addN succ tob).length cap'; rw [addN_length, HSL.out]; exact HWF.out⟩, rfl, ?_, ?_⟩
  · simp only [size_set]
    have hc1 : CodeIs w3.heap.size w3 ca code := hold.1
    have ha1 : ∀ kk, kk = gb ∨ kk = g + 1 + 1 → apartS kk ca code := fun kk hk => by rcases hk with rfl | rfl; exact hag.1; exact hag2.1
    have hc2 : Is w3.heap.size w3 a' (addN succ tob) := HIS.out
    have ha2 : ∀ kk, kk = gb ∨ kk = g + 1 + 1 → apartS kk a' (addN succ tob) := fun kk hk hn p hp => by
      have := HFA.out p hp
      rcases this with h | h
      · cases h
      · have q1 := HLB.out
        have q2 := HL22.out
        rcases hk with rfl | rfl <;> omega
    exact ⟨(CodeIs.setFar (g := g + 1 + 1) (CodeIs.setFar (g := g + 1 + 1) (CodeIs.setFar (g := g + 1 + 1) (CodeIs.setFar (g := gb) hc1 (ha1 _ (.inl rfl)) _ _) (ha1 _ (.inr rfl)) _ _) (ha1 _ (.inr rfl)) _ _) (ha1 _ (.inr rfl)) _ _), (Is.setFar (g := g + 1 + 1) (Is.setFar (g := g + 1 + 1) (Is.setFar (g := g + 1 + 1) (Is.setFar (g := gb) hc2 (ha2 _ (.inl rfl)) _ _) (ha2 _ (.inr rfl)) _ _) (ha2 _ (.inr rfl)) _ _) (ha2 _ (.inr rfl)) _ _)⟩
  · have hb := HBF.out.trans (HBM.out.mono HGF.out)
    have h1 : g ≤ gb := by omega
    have h2 : g ≤ g + 1 + 1 := by omega
    rw [← hg] at hb h1 h2
    exact (((hb.setCell (p := ⟨gb, 2, none⟩) h1 _).setCell (p := ⟨g + 1 + 1, 0, none⟩) (by rw [← hg]; omega) _).setCell (p := ⟨g + 1 + 1, 1, none⟩) (by rw [← hg]; omega) _).setCell (p := ⟨g + 1 + 1, 2, none⟩) (by rw [← hg]; omega) _
  · intro kk hk1 hk2
    have hxa := HXQ.out kk hk1
    have hkw : kk < W2.heap.size := Nat.lt_of_lt_of_le (by rw [← hg]; exact hk2) HGF.out
    exact ⟨hxa.1, apart_new HFA.out hkw⟩

set_option maxRecDepth 100000 in
set_option maxHeartbeats 16000000 in
theorem chg4 (B : Nat) (p : Pg) (e : Ed) (fn bm : Nat) (x : Blk) (w : World) (h : Rd w p) (hB : PgIs B w p) (hfew : p.few) (hwf : p.wf) (hop : e.op = 4) (hn : e.f = fn) (hm : e.b = bm) (hn2 : fn < p.funs.length) (hm2 : bm < (fdAt p.funs fn).blocks.length) (hx : blkAt (fdAt p.funs fn).blocks bm = x) (hrs : Rises x.succ) (hl1 : x.succ.length ≤ 100) (hl2 : x.code.length ≤ 100)  :
    Calls Tryz.prog 115 #[p.val, e.val] w fun r w' => BlkRes B w w' r (Blk.with x x.code (delN x.succ e.tob)) := by
  obtain ⟨fd, hfd⟩ : ∃ fd, fdAt p.funs fn = fd := ⟨_, rfl⟩
  have hxw : x.wf := by
    have h1 : (fdAt p.funs fn).wf := by
      have e : fdAt p.funs fn = p.funs[fn] := by unfold fdAt; simp [hn2]
      rw [e]
      exact hwf.2 _ (List.getElem_mem hn2)
    rw [← hx]
    exact wf_at h1.2 bm
  obtain ⟨pb, po, hpa, hpb, -, -, c2, hfdis⟩ := h.1 fn hn2
  rw [hfd] at hm2 hx c2 hfdis
  obtain ⟨bb, bo, hba, hbb, d0, d1, d2, hxis⟩ := hfdis bm hm2
  rw [hx] at d0 d1 d2 hxis
  have hxb : BlkIs B w x := by
    obtain ⟨-, -, -, -, -, -, -, q1⟩ := hB fn hn2
    rw [hfd] at q1
    obtain ⟨-, -, -, -, -, -, -, q2⟩ := q1 bm hm2
    rw [hx] at q2
    exact q2
  have HXQ := Lib.hid (fun k (hk : B ≤ k) => hxb.apart hk)
  clear hxb hB
  have hlen10 := hfew.1
  have hbl20 : fd.blocks.length ≤ 20 := by rw [← hfd]; exact (hfew.f fn).1
  have HRD0 := Lib.hid h
  have HXW := Lib.hid hxw
  have HXI := Lib.hid hxis
  clear h hfew hwf hxw hxis hfdis hfd hx
  obtain ⟨lv, ca, cc, code, sa, sc, succ⟩ := x
  obtain ⟨ar, vr, ba, bc, bl⟩ := fd
  obtain ⟨op, f, b, tob, other, pos, ⟨id, kind, dst, a, b2, c, f2, n, x0, x1, x2⟩⟩ := e
  dsimp only at *
  subst hop
  subst hn
  subst hm
  subst hba
  unfold Pg.val Ed.val
  dsimp only
  rw [hpa]
  obtain ⟨PL, hPL⟩ : ∃ PL, p.funs.length = PL := ⟨_, rfl⟩
  obtain ⟨BL, hBL⟩ : ∃ BL, bl.length = BL := ⟨_, rfl⟩
  obtain ⟨CL, hCL⟩ : ∃ CL, code.length = CL := ⟨_, rfl⟩
  obtain ⟨SL, hSL⟩ : ∃ SL, succ.length = SL := ⟨_, rfl⟩
  have HCL := Lib.hid hCL
  have HSL := Lib.hid hSL
  have hCL0 := hCL
  have hPL0 := hPL
  simp only [hPL, hBL, hCL, hSL] at hn2 hm2 c2 d1 d2 hlen10 hbl20 hl1 hl2 ⊢
  clear hPL hBL hCL hSL
  clear hCL0 hPL0
  have hfi : (fn : Int) < (PL : Int) := by omega
  have hbi : (bm : Int) < (BL : Int) := by omega
  have HBb := Lib.hid (below3 w (.cells #[.slice (some ⟨pb, po, none⟩) PL p.pc] 24) (.cells #[.int .i64 4, .int .i64 (fn : Nat), .int .i64 (bm : Nat), .int .i64 tob, .int .i64 other, .int .i64 pos, .int .i64 id, .int .i64 kind, .int .i64 dst, .int .i64 a, .int .i64 b2, .int .i64 c, .int .i64 f2, .int .i64 n, .int .i64 x0, .int .i64 x1, .int .i64 x2] 55) (.cells #[.bool false, .slice none 0 0, .slice none 0 0] 35))
  have hx0 := BoxL.new w [.slice (some ⟨pb, po, none⟩) PL p.pc] 24
  have HX0 := Lib.hid (show BoxL (((w.alloc (.cells #[.slice (some ⟨pb, po, none⟩) PL p.pc] 24)).alloc (.cells #[.int .i64 4, .int .i64 (fn : Nat), .int .i64 (bm : Nat), .int .i64 tob, .int .i64 other, .int .i64 pos, .int .i64 id, .int .i64 kind, .int .i64 dst, .int .i64 a, .int .i64 b2, .int .i64 c, .int .i64 f2, .int .i64 n, .int .i64 x0, .int .i64 x1, .int .i64 x2] 55)).alloc (.cells #[.bool false, .slice none 0 0, .slice none 0 0] 35)) (w.heap.size) [.slice (some ⟨pb, po, none⟩) PL p.pc] from ((hx0).alloc (Nat.zero_lt_succ _) (.cells #[.int .i64 4, .int .i64 (fn : Nat), .int .i64 (bm : Nat), .int .i64 tob, .int .i64 other, .int .i64 pos, .int .i64 id, .int .i64 kind, .int .i64 dst, .int .i64 a, .int .i64 b2, .int .i64 c, .int .i64 f2, .int .i64 n, .int .i64 x0, .int .i64 x1, .int .i64 x2] 55)).alloc (Nat.zero_lt_succ _) (.cells #[.bool false, .slice none 0 0, .slice none 0 0] 35))
  have hx1 := BoxL.new (w.alloc (.cells #[.slice (some ⟨pb, po, none⟩) PL p.pc] 24)) [.int .i64 4, .int .i64 (fn : Nat), .int .i64 (bm : Nat), .int .i64 tob, .int .i64 other, .int .i64 pos, .int .i64 id, .int .i64 kind, .int .i64 dst, .int .i64 a, .int .i64 b2, .int .i64 c, .int .i64 f2, .int .i64 n, .int .i64 x0, .int .i64 x1, .int .i64 x2] 55
  rw [World.size_alloc] at hx1
  have HX1 := Lib.hid (show BoxL (((w.alloc (.cells #[.slice (some ⟨pb, po, none⟩) PL p.pc] 24)).alloc (.cells #[.int .i64 4, .int .i64 (fn : Nat), .int .i64 (bm : Nat), .int .i64 tob, .int .i64 other, .int .i64 pos, .int .i64 id, .int .i64 kind, .int .i64 dst, .int .i64 a, .int .i64 b2, .int .i64 c, .int .i64 f2, .int .i64 n, .int .i64 x0, .int .i64 x1, .int .i64 x2] 55)).alloc (.cells #[.bool false, .slice none 0 0, .slice none 0 0] 35)) (w.heap.size + 1) [.int .i64 4, .int .i64 (fn : Nat), .int .i64 (bm : Nat), .int .i64 tob, .int .i64 other, .int .i64 pos, .int .i64 id, .int .i64 kind, .int .i64 dst, .int .i64 a, .int .i64 b2, .int .i64 c, .int .i64 f2, .int .i64 n, .int .i64 x0, .int .i64 x1, .int .i64 x2] from (hx1).alloc (Nat.zero_lt_succ _) (.cells #[.bool false, .slice none 0 0, .slice none 0 0] 35))
  have hx2 := BoxL.new ((w.alloc (.cells #[.slice (some ⟨pb, po, none⟩) PL p.pc] 24)).alloc (.cells #[.int .i64 4, .int .i64 (fn : Nat), .int .i64 (bm : Nat), .int .i64 tob, .int .i64 other, .int .i64 pos, .int .i64 id, .int .i64 kind, .int .i64 dst, .int .i64 a, .int .i64 b2, .int .i64 c, .int .i64 f2, .int .i64 n, .int .i64 x0, .int .i64 x1, .int .i64 x2] 55)) [.bool false, .slice none 0 0, .slice none 0 0] 35
  rw [World.size_alloc, World.size_alloc] at hx2
  have HX2 := Lib.hid (show BoxL (((w.alloc (.cells #[.slice (some ⟨pb, po, none⟩) PL p.pc] 24)).alloc (.cells #[.int .i64 4, .int .i64 (fn : Nat), .int .i64 (bm : Nat), .int .i64 tob, .int .i64 other, .int .i64 pos, .int .i64 id, .int .i64 kind, .int .i64 dst, .int .i64 a, .int .i64 b2, .int .i64 c, .int .i64 f2, .int .i64 n, .int .i64 x0, .int .i64 x1, .int .i64 x2] 55)).alloc (.cells #[.bool false, .slice none 0 0, .slice none 0 0] 35)) (w.heap.size + 1 + 1) [.bool false, .slice none 0 0, .slice none 0 0] from hx2)
  clear hx0 hx1 hx2
  have HRW := Lib.hid (HRD0.out.on HBb.out)
  have HXG := Lib.hid (HXI.out.on HBb.out)
  have HC2 := Lib.hid c2
  have HD0 := Lib.hid d0
  have HD1 := Lib.hid d1
  have HD2 := Lib.hid d2
  have HPB := Lib.hid hpb
  have HBB := Lib.hid hbb
  clear c2 d0 d1 d2 hpb hbb hpa
  have HXA : Hid (∀ k, w.heap.size ≤ k → Blk.apart k ⟨lv, ca, cc, code, sa, sc, succ⟩) := Lib.hid fun k hk => HXI.out.apart hk
  clear HXI
  generalize hW : (((w.alloc (.cells #[.slice (some ⟨pb, po, none⟩) PL p.pc] 24)).alloc (.cells #[.int .i64 4, .int .i64 (fn : Nat), .int .i64 (bm : Nat), .int .i64 tob, .int .i64 other, .int .i64 pos, .int .i64 id, .int .i64 kind, .int .i64 dst, .int .i64 a, .int .i64 b2, .int .i64 c, .int .i64 f2, .int .i64 n, .int .i64 x0, .int .i64 x1, .int .i64 x2] 55)).alloc (.cells #[.bool false, .slice none 0 0, .slice none 0 0] 35)) = W at HBb HX0 HX1 HX2 HRW HXG
  obtain ⟨g, hg⟩ : ∃ g, w.heap.size = g := ⟨_, rfl⟩
  have HGL := Lib.hid HBb.out.size
  rw [hg] at HBb HGL HX0 HX1 HX2 HPB HBB HXA
  have HL0 := Lib.hid (HX0.out.lt (Nat.zero_lt_succ _))
  have HL1 := Lib.hid (HX1.out.lt (Nat.zero_lt_succ _))
  have HL2 := Lib.hid (HX2.out.lt (Nat.zero_lt_succ _))
  have HC : Hid (∀ wr, Below W.heap.size W wr → wr.cell? ⟨g, 0, none⟩ = some (.slice (some ⟨pb, po, none⟩) PL p.pc) ∧ wr.cell? ⟨g + 1, 0, none⟩ = some (.int .i64 4) ∧ wr.cell? ⟨g + 1, 1, none⟩ = some (.int .i64 (fn : Nat)) ∧ wr.cell? ⟨g + 1, 2, none⟩ = some (.int .i64 (bm : Nat)) ∧ wr.cell? ⟨g + 1, 3, none⟩ = some (.int .i64 tob) ∧ wr.cell? ⟨g + 1, 4, none⟩ = some (.int .i64 other) ∧ wr.cell? ⟨g + 1, 5, none⟩ = some (.int .i64 pos) ∧ wr.cell? ⟨pb, po + fn * 3 + 2, none⟩ = some (.slice (some ⟨bb, bo, none⟩) BL bc) ∧ wr.cell? ⟨bb, bo + bm * 3, none⟩ = some (.bool lv) ∧ wr.cell? ⟨bb, bo + bm * 3 + 1, none⟩ = some (.slice ca CL cc) ∧ wr.cell? ⟨bb, bo + bm * 3 + 2, none⟩ = some (.slice sa SL sc)) := Lib.hid fun wr hb => ⟨((HX0.out.below hb HL0.out) 0 _ rfl).1, ((HX1.out.below hb HL1.out) 0 _ rfl).1, ((HX1.out.below hb HL1.out) 1 _ rfl).1, ((HX1.out.below hb HL1.out) 2 _ rfl).1, ((HX1.out.below hb HL1.out) 3 _ rfl).1, ((HX1.out.below hb HL1.out) 4 _ rfl).1, ((HX1.out.below hb HL1.out) 5 _ rfl).1, ((HBb.out.trans (hb.mono HGL.out)).cell (p := ⟨pb, po + fn * 3 + 2, none⟩) HPB.out).trans HC2.out, ((HBb.out.trans (hb.mono HGL.out)).cell (p := ⟨bb, bo + bm * 3, none⟩) HBB.out).trans HD0.out, ((HBb.out.trans (hb.mono HGL.out)).cell (p := ⟨bb, bo + bm * 3 + 1, none⟩) HBB.out).trans HD1.out, ((HBb.out.trans (hb.mono HGL.out)).cell (p := ⟨bb, bo + bm * 3 + 2, none⟩) HBB.out).trans HD2.out⟩
  go_enter Tryz.func115, Tryz.ntmps115
  go_wp2_with fail
  have HBN : Hid (Below W.heap.size W W.drew) := Lib.hid (Below.refl _ _).drew
  go_region_held3 (fun w' => w'.cell? ⟨g, 0, none⟩ = some (.slice (some ⟨pb, po, none⟩) PL p.pc) ∧ w'.cell? ⟨g + 1, 0, none⟩ = some (.int .i64 4) ∧ w'.cell? ⟨g + 1, 1, none⟩ = some (.int .i64 (fn : Nat)) ∧ w'.cell? ⟨g + 1, 2, none⟩ = some (.int .i64 (bm : Nat)) ∧ w'.cell? ⟨g + 1, 3, none⟩ = some (.int .i64 tob) ∧ w'.cell? ⟨g + 1, 4, none⟩ = some (.int .i64 other) ∧ w'.cell? ⟨g + 1, 5, none⟩ = some (.int .i64 pos) ∧ w'.cell? ⟨pb, po + fn * 3 + 2, none⟩ = some (.slice (some ⟨bb, bo, none⟩) BL bc) ∧ w'.cell? ⟨bb, bo + bm * 3, none⟩ = some (.bool lv) ∧ w'.cell? ⟨bb, bo + bm * 3 + 1, none⟩ = some (.slice ca CL cc) ∧ w'.cell? ⟨bb, bo + bm * 3 + 2, none⟩ = some (.slice sa SL sc))
    (first | exact HC.out _ HBN.out | exact HC.out _ (HBN.out.alloc HBN.out.size _))
    (fail)
  have HXB := Lib.hid (show BoxL ((W.alloc (.cells #[.bool lv, .slice ca CL cc, .slice sa SL sc] 35)).drew) W.heap.size [.bool lv, .slice ca CL cc, .slice sa SL sc] from (BoxL.new W _ _).drew)
  have HB2 := Lib.hid (show Below W.heap.size W ((W.alloc (.cells #[.bool lv, .slice ca CL cc, .slice sa SL sc] 35)).drew) from (below1 W _).drew)
  clear HBN
  generalize (W.alloc (.cells #[.bool lv, .slice ca CL cc, .slice sa SL sc] 35)).drew = W2 at HXB HB2 ⊢
  obtain ⟨gb, hgb⟩ : ∃ b, W.heap.size = b := ⟨_, rfl⟩
  rw [hgb] at HXB ⊢
  have HGB := Lib.hid (show g + 1 + 1 < gb by rw [← hgb]; exact HL2.out)
  have HLB := Lib.hid (HXB.out.lt (Nat.zero_lt_succ _))
  have HL22 := Lib.hid (show g + 1 + 1 < W2.heap.size from Nat.lt_of_lt_of_le HL2.out HB2.out.size)
  have HX22 := Lib.hid (HX2.out.below HB2.out HL2.out)
  have HRD2 := Lib.hid (HRW.out.on HB2.out)
  have HXI2 := Lib.hid (HXG.out.on HB2.out)
  have HBF := Lib.hid (HBb.out.trans (HB2.out.mono HGL.out))
  have HGF := Lib.hid (Nat.le_trans HGL.out HB2.out.size)
  clear hgb

  have HD : Hid (∀ wr, Below W2.heap.size W2 wr → wr.cell? ⟨g, 0, none⟩ = some (.slice (some ⟨pb, po, none⟩) PL p.pc) ∧ wr.cell? ⟨g + 1, 0, none⟩ = some (.int .i64 4) ∧ wr.cell? ⟨g + 1, 1, none⟩ = some (.int .i64 (fn : Nat)) ∧ wr.cell? ⟨g + 1, 2, none⟩ = some (.int .i64 (bm : Nat)) ∧ wr.cell? ⟨g + 1, 3, none⟩ = some (.int .i64 tob) ∧ wr.cell? ⟨g + 1, 4, none⟩ = some (.int .i64 other) ∧ wr.cell? ⟨g + 1, 5, none⟩ = some (.int .i64 pos) ∧ wr.cell? ⟨gb, 0, none⟩ = some (.bool lv) ∧ wr.frozen? ⟨gb, 0, none⟩ = false ∧ wr.cell? ⟨gb, 1, none⟩ = some (.slice ca CL cc) ∧ wr.frozen? ⟨gb, 1, none⟩ = false ∧ wr.cell? ⟨gb, 2, none⟩ = some (.slice sa SL sc) ∧ wr.frozen? ⟨gb, 2, none⟩ = false ∧ wr.cell? ⟨g + 1 + 1, 0, none⟩ = some (.bool false) ∧ wr.frozen? ⟨g + 1 + 1, 0, none⟩ = false ∧ wr.cell? ⟨g + 1 + 1, 1, none⟩ = some (.slice none 0 0) ∧ wr.frozen? ⟨g + 1 + 1, 1, none⟩ = false ∧ wr.cell? ⟨g + 1 + 1, 2, none⟩ = some (.slice none 0 0) ∧ wr.frozen? ⟨g + 1 + 1, 2, none⟩ = false) := Lib.hid fun wr hb => ⟨((HX0.out.below (HB2.out.trans (hb.mono HB2.out.size)) HL0.out) 0 _ rfl).1, ((HX1.out.below (HB2.out.trans (hb.mono HB2.out.size)) HL1.out) 0 _ rfl).1, ((HX1.out.below (HB2.out.trans (hb.mono HB2.out.size)) HL1.out) 1 _ rfl).1, ((HX1.out.below (HB2.out.trans (hb.mono HB2.out.size)) HL1.out) 2 _ rfl).1, ((HX1.out.below (HB2.out.trans (hb.mono HB2.out.size)) HL1.out) 3 _ rfl).1, ((HX1.out.below (HB2.out.trans (hb.mono HB2.out.size)) HL1.out) 4 _ rfl).1, ((HX1.out.below (HB2.out.trans (hb.mono HB2.out.size)) HL1.out) 5 _ rfl).1, ((HXB.out.below hb HLB.out) 0 _ rfl).1, ((HXB.out.below hb HLB.out) 0 _ rfl).2, ((HXB.out.below hb HLB.out) 1 _ rfl).1, ((HXB.out.below hb HLB.out) 1 _ rfl).2, ((HXB.out.below hb HLB.out) 2 _ rfl).1, ((HXB.out.below hb HLB.out) 2 _ rfl).2, ((HX22.out.below hb HL22.out) 0 _ rfl).1, ((HX22.out.below hb HL22.out) 0 _ rfl).2, ((HX22.out.below hb HL22.out) 1 _ rfl).1, ((HX22.out.below hb HL22.out) 1 _ rfl).2, ((HX22.out.below hb HL22.out) 2 _ rfl).1, ((HX22.out.below hb HL22.out) 2 _ rfl).2⟩
  have HBM : Hid (Below W2.heap.size W2 W2) := Lib.hid (Below.refl _ _)
  obtain ⟨m0, m1, m2, m3, m4, m5, m6, m7, m8, m9, m10, m11, m12, m13, m14, m15, m16, m17, m18⟩ := HD.out _ HBM.out
  have HWE := Lib.hid (withoutEdge_any sa succ sc tob W2 HXI2.out.2 hrs HXW.out.2 (by rw [HSL.out]; omega))
  rw [HSL.out] at HWE
  obtain ⟨DL, hDL⟩ : ∃ n, (delN succ tob).length = n := ⟨_, rfl⟩
  rw [hDL] at HWE
  have HDL := Lib.hid hDL
  clear hDL
  have hgb := HGB.out
  go_wp2_with (go_at_call 150; refine HWE.out.mono ?_; rintro e w3 ⟨⟨a', cap', rfl, hIs, hwf', hfar⟩, hb3⟩; have HBN := Lib.hid (HBM.out.trans (hb3.mono HBM.out.size)); have HIS := Lib.hid hIs; have HWF := Lib.hid hwf'; have HFA := Lib.hid hfar; clear hb3 hIs hwf' hfar HBM m0 m1 m2 m3 m4 m5 m6 m7 m8 m9 m10 m11 m12 m13 m14 m15 m16 m17 m18; have HBM := HBN; clear HBN; obtain ⟨m0, m1, m2, m3, m4, m5, m6, m7, m8, m9, m10, m11, m12, m13, m14, m15, m16, m17, m18⟩ := HD.out _ HBM.out)
  have HY := (((HX22.out.below HBM.out HL22.out).far (by omega : g + 1 + 1 ≠ gb) 2 (.slice a' DL cap')).put3 (.bool lv) (.slice ca CL cc) (.slice a' DL cap'))
  refine bodyPost_ret (ret_cell rfl _ _ (g + 1 + 1) [.bool lv, .slice ca CL cc, .slice a' DL cap'] _ rfl HY Tryz.underlying35 rfl (by kernel_rfl)) rfl ?_
  have hag := HXA.out gb (by omega)
  have hag2 := HXA.out (g + 1 + 1) (by omega)
  have hold := HXI2.out.on HBM.out
  refine ⟨⟨lv, ca, cc, code, a', cap', delN succ tob⟩, by simp only [Blk.val, HCL.out, HDL.out], ?_, ⟨HXW.out.1, by show wfS a' (delN succ tob).length cap'; rw [HDL.out]; exact HWF.out⟩, rfl, ?_, ?_⟩
  · simp only [size_set]
    have hc1 : CodeIs w3.heap.size w3 ca code := hold.1
    have ha1 : ∀ kk, kk = gb ∨ kk = g + 1 + 1 → apartS kk ca code := fun kk hk => by rcases hk with rfl | rfl; exact hag.1; exact hag2.1
    have hc2 : Is w3.heap.size w3 a' (delN succ tob) := HIS.out
    have ha2 : ∀ kk, kk = gb ∨ kk = g + 1 + 1 → apartS kk a' (delN succ tob) := fun kk hk => by
      have q1 := HLB.out
      have q2 := HL22.out
      rcases hk with rfl | rfl
      · exact apart_far HFA.out q1 hag.2 (fun p hne _ _ e => hne (by have e2 : succ = [] := e; rw [e2]; rfl))
      · exact apart_far HFA.out q2 hag2.2 (fun p hne _ _ e => hne (by have e2 : succ = [] := e; rw [e2]; rfl))
    exact ⟨(CodeIs.setFar (g := g + 1 + 1) (CodeIs.setFar (g := g + 1 + 1) (CodeIs.setFar (g := g + 1 + 1) (CodeIs.setFar (g := gb) hc1 (ha1 _ (.inl rfl)) _ _) (ha1 _ (.inr rfl)) _ _) (ha1 _ (.inr rfl)) _ _) (ha1 _ (.inr rfl)) _ _), (Is.setFar (g := g + 1 + 1) (Is.setFar (g := g + 1 + 1) (Is.setFar (g := g + 1 + 1) (Is.setFar (g := gb) hc2 (ha2 _ (.inl rfl)) _ _) (ha2 _ (.inr rfl)) _ _) (ha2 _ (.inr rfl)) _ _) (ha2 _ (.inr rfl)) _ _)⟩
  · have hb := HBF.out.trans (HBM.out.mono HGF.out)
    have h1 : g ≤ gb := by omega
    have h2 : g ≤ g + 1 + 1 := by omega
    rw [← hg] at hb h1 h2
    exact (((hb.setCell (p := ⟨gb, 2, none⟩) h1 _).setCell (p := ⟨g + 1 + 1, 0, none⟩) (by rw [← hg]; omega) _).setCell (p := ⟨g + 1 + 1, 1, none⟩) (by rw [← hg]; omega) _).setCell (p := ⟨g + 1 + 1, 2, none⟩) (by rw [← hg]; omega) _
  · intro kk hk1 hk2
    have hxa := HXQ.out kk hk1
    have hkw : kk < W2.heap.size := Nat.lt_of_lt_of_le (by rw [← hg]; exact hk2) HGF.out
    exact ⟨hxa.1, apart_far HFA.out hkw hxa.2 (fun p hne _ _ e => hne (by have e2 : succ = [] := e; rw [e2]; rfl))⟩

set_option maxRecDepth 100000 in
set_option maxHeartbeats 16000000 in
theorem chg7 (B : Nat) (p : Pg) (e : Ed) (fn bm : Nat) (x : Blk) (w : World) (h : Rd w p) (hB : PgIs B w p) (hfew : p.few) (hwf : p.wf) (hop : e.op = 7) (hn : e.f = fn) (hm : e.b = bm) (hn2 : fn < p.funs.length) (hm2 : bm < (fdAt p.funs fn).blocks.length) (hx : blkAt (fdAt p.funs fn).blocks bm = x) (hrs : Rises x.succ) (hl1 : x.succ.length ≤ 100) (hl2 : x.code.length ≤ 100) (k : Nat) (hk : e.pos = k) (hkl : k < x.code.length) :
    Calls Tryz.prog 115 #[p.val, e.val] w fun r w' => BlkRes B w w' r (Blk.with x (x.code.eraseIdx k) x.succ) := by
  obtain ⟨fd, hfd⟩ : ∃ fd, fdAt p.funs fn = fd := ⟨_, rfl⟩
  have hxw : x.wf := by
    have h1 : (fdAt p.funs fn).wf := by
      have e : fdAt p.funs fn = p.funs[fn] := by unfold fdAt; simp [hn2]
      rw [e]
      exact hwf.2 _ (List.getElem_mem hn2)
    rw [← hx]
    exact wf_at h1.2 bm
  obtain ⟨pb, po, hpa, hpb, -, -, c2, hfdis⟩ := h.1 fn hn2
  rw [hfd] at hm2 hx c2 hfdis
  obtain ⟨bb, bo, hba, hbb, d0, d1, d2, hxis⟩ := hfdis bm hm2
  rw [hx] at d0 d1 d2 hxis
  have hxb : BlkIs B w x := by
    obtain ⟨-, -, -, -, -, -, -, q1⟩ := hB fn hn2
    rw [hfd] at q1
    obtain ⟨-, -, -, -, -, -, -, q2⟩ := q1 bm hm2
    rw [hx] at q2
    exact q2
  have HXQ := Lib.hid (fun k (hk : B ≤ k) => hxb.apart hk)
  clear hxb hB
  have hlen10 := hfew.1
  have hbl20 : fd.blocks.length ≤ 20 := by rw [← hfd]; exact (hfew.f fn).1
  have HRD0 := Lib.hid h
  have HXW := Lib.hid hxw
  have HXI := Lib.hid hxis
  clear h hfew hwf hxw hxis hfdis hfd hx
  obtain ⟨lv, ca, cc, code, sa, sc, succ⟩ := x
  obtain ⟨ar, vr, ba, bc, bl⟩ := fd
  obtain ⟨op, f, b, tob, other, pos, ⟨id, kind, dst, a, b2, c, f2, n, x0, x1, x2⟩⟩ := e
  dsimp only at *
  subst hop
  subst hn
  subst hm
  subst hba
  unfold Pg.val Ed.val
  dsimp only
  rw [hpa]
  obtain ⟨PL, hPL⟩ : ∃ PL, p.funs.length = PL := ⟨_, rfl⟩
  obtain ⟨BL, hBL⟩ : ∃ BL, bl.length = BL := ⟨_, rfl⟩
  obtain ⟨CL, hCL⟩ : ∃ CL, code.length = CL := ⟨_, rfl⟩
  obtain ⟨SL, hSL⟩ : ∃ SL, succ.length = SL := ⟨_, rfl⟩
  have HCL := Lib.hid hCL
  have HSL := Lib.hid hSL
  have hCL0 := hCL
  have hPL0 := hPL
  simp only [hPL, hBL, hCL, hSL] at hn2 hm2 c2 d1 d2 hlen10 hbl20 hl1 hl2 ⊢
  clear hPL hBL hCL hSL
  subst hk
  rw [hCL0] at hkl
  have hki : (k : Int) < (CL : Int) := by omega
  clear hCL0 hPL0
  have hfi : (fn : Int) < (PL : Int) := by omega
  have hbi : (bm : Int) < (BL : Int) := by omega
  have HBb := Lib.hid (below3 w (.cells #[.slice (some ⟨pb, po, none⟩) PL p.pc] 24) (.cells #[.int .i64 7, .int .i64 (fn : Nat), .int .i64 (bm : Nat), .int .i64 tob, .int .i64 other, .int .i64 (k : Nat), .int .i64 id, .int .i64 kind, .int .i64 dst, .int .i64 a, .int .i64 b2, .int .i64 c, .int .i64 f2, .int .i64 n, .int .i64 x0, .int .i64 x1, .int .i64 x2] 55) (.cells #[.bool false, .slice none 0 0, .slice none 0 0] 35))
  have hx0 := BoxL.new w [.slice (some ⟨pb, po, none⟩) PL p.pc] 24
  have HX0 := Lib.hid (show BoxL (((w.alloc (.cells #[.slice (some ⟨pb, po, none⟩) PL p.pc] 24)).alloc (.cells #[.int .i64 7, .int .i64 (fn : Nat), .int .i64 (bm : Nat), .int .i64 tob, .int .i64 other, .int .i64 (k : Nat), .int .i64 id, .int .i64 kind, .int .i64 dst, .int .i64 a, .int .i64 b2, .int .i64 c, .int .i64 f2, .int .i64 n, .int .i64 x0, .int .i64 x1, .int .i64 x2] 55)).alloc (.cells #[.bool false, .slice none 0 0, .slice none 0 0] 35)) (w.heap.size) [.slice (some ⟨pb, po, none⟩) PL p.pc] from ((hx0).alloc (Nat.zero_lt_succ _) (.cells #[.int .i64 7, .int .i64 (fn : Nat), .int .i64 (bm : Nat), .int .i64 tob, .int .i64 other, .int .i64 (k : Nat), .int .i64 id, .int .i64 kind, .int .i64 dst, .int .i64 a, .int .i64 b2, .int .i64 c, .int .i64 f2, .int .i64 n, .int .i64 x0, .int .i64 x1, .int .i64 x2] 55)).alloc (Nat.zero_lt_succ _) (.cells #[.bool false, .slice none 0 0, .slice none 0 0] 35))
  have hx1 := BoxL.new (w.alloc (.cells #[.slice (some ⟨pb, po, none⟩) PL p.pc] 24)) [.int .i64 7, .int .i64 (fn : Nat), .int .i64 (bm : Nat), .int .i64 tob, .int .i64 other, .int .i64 (k : Nat), .int .i64 id, .int .i64 kind, .int .i64 dst, .int .i64 a, .int .i64 b2, .int .i64 c, .int .i64 f2, .int .i64 n, .int .i64 x0, .int .i64 x1, .int .i64 x2] 55
  rw [World.size_alloc] at hx1
  have HX1 := Lib.hid (show BoxL (((w.alloc (.cells #[.slice (some ⟨pb, po, none⟩) PL p.pc] 24)).alloc (.cells #[.int .i64 7, .int .i64 (fn : Nat), .int .i64 (bm : Nat), .int .i64 tob, .int .i64 other, .int .i64 (k : Nat), .int .i64 id, .int .i64 kind, .int .i64 dst, .int .i64 a, .int .i64 b2, .int .i64 c, .int .i64 f2, .int .i64 n, .int .i64 x0, .int .i64 x1, .int .i64 x2] 55)).alloc (.cells #[.bool false, .slice none 0 0, .slice none 0 0] 35)) (w.heap.size + 1) [.int .i64 7, .int .i64 (fn : Nat), .int .i64 (bm : Nat), .int .i64 tob, .int .i64 other, .int .i64 (k : Nat), .int .i64 id, .int .i64 kind, .int .i64 dst, .int .i64 a, .int .i64 b2, .int .i64 c, .int .i64 f2, .int .i64 n, .int .i64 x0, .int .i64 x1, .int .i64 x2] from (hx1).alloc (Nat.zero_lt_succ _) (.cells #[.bool false, .slice none 0 0, .slice none 0 0] 35))
  have hx2 := BoxL.new ((w.alloc (.cells #[.slice (some ⟨pb, po, none⟩) PL p.pc] 24)).alloc (.cells #[.int .i64 7, .int .i64 (fn : Nat), .int .i64 (bm : Nat), .int .i64 tob, .int .i64 other, .int .i64 (k : Nat), .int .i64 id, .int .i64 kind, .int .i64 dst, .int .i64 a, .int .i64 b2, .int .i64 c, .int .i64 f2, .int .i64 n, .int .i64 x0, .int .i64 x1, .int .i64 x2] 55)) [.bool false, .slice none 0 0, .slice none 0 0] 35
  rw [World.size_alloc, World.size_alloc] at hx2
  have HX2 := Lib.hid (show BoxL (((w.alloc (.cells #[.slice (some ⟨pb, po, none⟩) PL p.pc] 24)).alloc (.cells #[.int .i64 7, .int .i64 (fn : Nat), .int .i64 (bm : Nat), .int .i64 tob, .int .i64 other, .int .i64 (k : Nat), .int .i64 id, .int .i64 kind, .int .i64 dst, .int .i64 a, .int .i64 b2, .int .i64 c, .int .i64 f2, .int .i64 n, .int .i64 x0, .int .i64 x1, .int .i64 x2] 55)).alloc (.cells #[.bool false, .slice none 0 0, .slice none 0 0] 35)) (w.heap.size + 1 + 1) [.bool false, .slice none 0 0, .slice none 0 0] from hx2)
  clear hx0 hx1 hx2
  have HRW := Lib.hid (HRD0.out.on HBb.out)
  have HXG := Lib.hid (HXI.out.on HBb.out)
  have HC2 := Lib.hid c2
  have HD0 := Lib.hid d0
  have HD1 := Lib.hid d1
  have HD2 := Lib.hid d2
  have HPB := Lib.hid hpb
  have HBB := Lib.hid hbb
  clear c2 d0 d1 d2 hpb hbb hpa
  have HXA : Hid (∀ k, w.heap.size ≤ k → Blk.apart k ⟨lv, ca, cc, code, sa, sc, succ⟩) := Lib.hid fun k hk => HXI.out.apart hk
  clear HXI
  generalize hW : (((w.alloc (.cells #[.slice (some ⟨pb, po, none⟩) PL p.pc] 24)).alloc (.cells #[.int .i64 7, .int .i64 (fn : Nat), .int .i64 (bm : Nat), .int .i64 tob, .int .i64 other, .int .i64 (k : Nat), .int .i64 id, .int .i64 kind, .int .i64 dst, .int .i64 a, .int .i64 b2, .int .i64 c, .int .i64 f2, .int .i64 n, .int .i64 x0, .int .i64 x1, .int .i64 x2] 55)).alloc (.cells #[.bool false, .slice none 0 0, .slice none 0 0] 35)) = W at HBb HX0 HX1 HX2 HRW HXG
  obtain ⟨g, hg⟩ : ∃ g, w.heap.size = g := ⟨_, rfl⟩
  have HGL := Lib.hid HBb.out.size
  rw [hg] at HBb HGL HX0 HX1 HX2 HPB HBB HXA
  have HL0 := Lib.hid (HX0.out.lt (Nat.zero_lt_succ _))
  have HL1 := Lib.hid (HX1.out.lt (Nat.zero_lt_succ _))
  have HL2 := Lib.hid (HX2.out.lt (Nat.zero_lt_succ _))
  have HC : Hid (∀ wr, Below W.heap.size W wr → wr.cell? ⟨g, 0, none⟩ = some (.slice (some ⟨pb, po, none⟩) PL p.pc) ∧ wr.cell? ⟨g + 1, 0, none⟩ = some (.int .i64 7) ∧ wr.cell? ⟨g + 1, 1, none⟩ = some (.int .i64 (fn : Nat)) ∧ wr.cell? ⟨g + 1, 2, none⟩ = some (.int .i64 (bm : Nat)) ∧ wr.cell? ⟨g + 1, 3, none⟩ = some (.int .i64 tob) ∧ wr.cell? ⟨g + 1, 4, none⟩ = some (.int .i64 other) ∧ wr.cell? ⟨g + 1, 5, none⟩ = some (.int .i64 (k : Nat)) ∧ wr.cell? ⟨pb, po + fn * 3 + 2, none⟩ = some (.slice (some ⟨bb, bo, none⟩) BL bc) ∧ wr.cell? ⟨bb, bo + bm * 3, none⟩ = some (.bool lv) ∧ wr.cell? ⟨bb, bo + bm * 3 + 1, none⟩ = some (.slice ca CL cc) ∧ wr.cell? ⟨bb, bo + bm * 3 + 2, none⟩ = some (.slice sa SL sc)) := Lib.hid fun wr hb => ⟨((HX0.out.below hb HL0.out) 0 _ rfl).1, ((HX1.out.below hb HL1.out) 0 _ rfl).1, ((HX1.out.below hb HL1.out) 1 _ rfl).1, ((HX1.out.below hb HL1.out) 2 _ rfl).1, ((HX1.out.below hb HL1.out) 3 _ rfl).1, ((HX1.out.below hb HL1.out) 4 _ rfl).1, ((HX1.out.below hb HL1.out) 5 _ rfl).1, ((HBb.out.trans (hb.mono HGL.out)).cell (p := ⟨pb, po + fn * 3 + 2, none⟩) HPB.out).trans HC2.out, ((HBb.out.trans (hb.mono HGL.out)).cell (p := ⟨bb, bo + bm * 3, none⟩) HBB.out).trans HD0.out, ((HBb.out.trans (hb.mono HGL.out)).cell (p := ⟨bb, bo + bm * 3 + 1, none⟩) HBB.out).trans HD1.out, ((HBb.out.trans (hb.mono HGL.out)).cell (p := ⟨bb, bo + bm * 3 + 2, none⟩) HBB.out).trans HD2.out⟩
  go_enter Tryz.func115, Tryz.ntmps115
  go_wp2_with fail
  have HBN : Hid (Below W.heap.size W W.drew) := Lib.hid (Below.refl _ _).drew
  go_region_held3 (fun w' => w'.cell? ⟨g, 0, none⟩ = some (.slice (some ⟨pb, po, none⟩) PL p.pc) ∧ w'.cell? ⟨g + 1, 0, none⟩ = some (.int .i64 7) ∧ w'.cell? ⟨g + 1, 1, none⟩ = some (.int .i64 (fn : Nat)) ∧ w'.cell? ⟨g + 1, 2, none⟩ = some (.int .i64 (bm : Nat)) ∧ w'.cell? ⟨g + 1, 3, none⟩ = some (.int .i64 tob) ∧ w'.cell? ⟨g + 1, 4, none⟩ = some (.int .i64 other) ∧ w'.cell? ⟨g + 1, 5, none⟩ = some (.int .i64 (k : Nat)) ∧ w'.cell? ⟨pb, po + fn * 3 + 2, none⟩ = some (.slice (some ⟨bb, bo, none⟩) BL bc) ∧ w'.cell? ⟨bb, bo + bm * 3, none⟩ = some (.bool lv) ∧ w'.cell? ⟨bb, bo + bm * 3 + 1, none⟩ = some (.slice ca CL cc) ∧ w'.cell? ⟨bb, bo + bm * 3 + 2, none⟩ = some (.slice sa SL sc))
    (first | exact HC.out _ HBN.out | exact HC.out _ (HBN.out.alloc HBN.out.size _))
    (fail)
  have HXB := Lib.hid (show BoxL ((W.alloc (.cells #[.bool lv, .slice ca CL cc, .slice sa SL sc] 35)).drew) W.heap.size [.bool lv, .slice ca CL cc, .slice sa SL sc] from (BoxL.new W _ _).drew)
  have HB2 := Lib.hid (show Below W.heap.size W ((W.alloc (.cells #[.bool lv, .slice ca CL cc, .slice sa SL sc] 35)).drew) from (below1 W _).drew)
  clear HBN
  generalize (W.alloc (.cells #[.bool lv, .slice ca CL cc, .slice sa SL sc] 35)).drew = W2 at HXB HB2 ⊢
  obtain ⟨gb, hgb⟩ : ∃ b, W.heap.size = b := ⟨_, rfl⟩
  rw [hgb] at HXB ⊢
  have HGB := Lib.hid (show g + 1 + 1 < gb by rw [← hgb]; exact HL2.out)
  have HLB := Lib.hid (HXB.out.lt (Nat.zero_lt_succ _))
  have HL22 := Lib.hid (show g + 1 + 1 < W2.heap.size from Nat.lt_of_lt_of_le HL2.out HB2.out.size)
  have HX22 := Lib.hid (HX2.out.below HB2.out HL2.out)
  have HRD2 := Lib.hid (HRW.out.on HB2.out)
  have HXI2 := Lib.hid (HXG.out.on HB2.out)
  have HBF := Lib.hid (HBb.out.trans (HB2.out.mono HGL.out))
  have HGF := Lib.hid (Nat.le_trans HGL.out HB2.out.size)
  clear hgb

  have HD : Hid (∀ wr, Below W2.heap.size W2 wr → wr.cell? ⟨g, 0, none⟩ = some (.slice (some ⟨pb, po, none⟩) PL p.pc) ∧ wr.cell? ⟨g + 1, 0, none⟩ = some (.int .i64 7) ∧ wr.cell? ⟨g + 1, 1, none⟩ = some (.int .i64 (fn : Nat)) ∧ wr.cell? ⟨g + 1, 2, none⟩ = some (.int .i64 (bm : Nat)) ∧ wr.cell? ⟨g + 1, 3, none⟩ = some (.int .i64 tob) ∧ wr.cell? ⟨g + 1, 4, none⟩ = some (.int .i64 other) ∧ wr.cell? ⟨g + 1, 5, none⟩ = some (.int .i64 (k : Nat)) ∧ wr.cell? ⟨gb, 0, none⟩ = some (.bool lv) ∧ wr.frozen? ⟨gb, 0, none⟩ = false ∧ wr.cell? ⟨gb, 1, none⟩ = some (.slice ca CL cc) ∧ wr.frozen? ⟨gb, 1, none⟩ = false ∧ wr.cell? ⟨gb, 2, none⟩ = some (.slice sa SL sc) ∧ wr.frozen? ⟨gb, 2, none⟩ = false ∧ wr.cell? ⟨g + 1 + 1, 0, none⟩ = some (.bool false) ∧ wr.frozen? ⟨g + 1 + 1, 0, none⟩ = false ∧ wr.cell? ⟨g + 1 + 1, 1, none⟩ = some (.slice none 0 0) ∧ wr.frozen? ⟨g + 1 + 1, 1, none⟩ = false ∧ wr.cell? ⟨g + 1 + 1, 2, none⟩ = some (.slice none 0 0) ∧ wr.frozen? ⟨g + 1 + 1, 2, none⟩ = false) := Lib.hid fun wr hb => ⟨((HX0.out.below (HB2.out.trans (hb.mono HB2.out.size)) HL0.out) 0 _ rfl).1, ((HX1.out.below (HB2.out.trans (hb.mono HB2.out.size)) HL1.out) 0 _ rfl).1, ((HX1.out.below (HB2.out.trans (hb.mono HB2.out.size)) HL1.out) 1 _ rfl).1, ((HX1.out.below (HB2.out.trans (hb.mono HB2.out.size)) HL1.out) 2 _ rfl).1, ((HX1.out.below (HB2.out.trans (hb.mono HB2.out.size)) HL1.out) 3 _ rfl).1, ((HX1.out.below (HB2.out.trans (hb.mono HB2.out.size)) HL1.out) 4 _ rfl).1, ((HX1.out.below (HB2.out.trans (hb.mono HB2.out.size)) HL1.out) 5 _ rfl).1, ((HXB.out.below hb HLB.out) 0 _ rfl).1, ((HXB.out.below hb HLB.out) 0 _ rfl).2, ((HXB.out.below hb HLB.out) 1 _ rfl).1, ((HXB.out.below hb HLB.out) 1 _ rfl).2, ((HXB.out.below hb HLB.out) 2 _ rfl).1, ((HXB.out.below hb HLB.out) 2 _ rfl).2, ((HX22.out.below hb HL22.out) 0 _ rfl).1, ((HX22.out.below hb HL22.out) 0 _ rfl).2, ((HX22.out.below hb HL22.out) 1 _ rfl).1, ((HX22.out.below hb HL22.out) 1 _ rfl).2, ((HX22.out.below hb HL22.out) 2 _ rfl).1, ((HX22.out.below hb HL22.out) 2 _ rfl).2⟩
  have HBM : Hid (Below W2.heap.size W2 W2) := Lib.hid (Below.refl _ _)
  obtain ⟨m0, m1, m2, m3, m4, m5, m6, m7, m8, m9, m10, m11, m12, m13, m14, m15, m16, m17, m18⟩ := HD.out _ HBM.out
  have HWE := Lib.hid (cut_ins ca (flat code) CL cc k (k + 1) W2 (row_of_code HXI2.out.1) (by rw [flat_length, HCL.out]) (by omega) hkl (by have := HXW.out.1.1; rw [← HCL.out]; exact this) rfl)
  have HCU : Hid (∀ (B : Nat) (V : World) (a' : Option Addr), RowIs B V a' ((flat code).take (k * 11) ++ (flat code).drop ((k + 1) * 11)) → CodeIs B V a' (code.eraseIdx k)) := Lib.hid fun B V a' h => code_of_row (by
    rw [flat_take, flat_drop, ← flat_append, ← List.eraseIdx_eq_take_drop_succ] at h
    exact h)
  have HEL : Hid ((code.eraseIdx k).length = CL - 1) := Lib.hid (by rw [List.length_eraseIdx, HCL.out, if_pos hkl])
  have hgb := HGB.out
  go_wp2_with (go_at_call 153; refine HWE.out.mono ?_; rintro e w3 ⟨⟨a', cap', rfl, hIs, hwf', hfar⟩, hb3⟩; have HBN := Lib.hid (HBM.out.trans (hb3.mono HBM.out.size)); have HIS := Lib.hid hIs; have HWF := Lib.hid hwf'; have HFA := Lib.hid hfar; clear hb3 hIs hwf' hfar HBM m0 m1 m2 m3 m4 m5 m6 m7 m8 m9 m10 m11 m12 m13 m14 m15 m16 m17 m18; have HBM := HBN; clear HBN; obtain ⟨m0, m1, m2, m3, m4, m5, m6, m7, m8, m9, m10, m11, m12, m13, m14, m15, m16, m17, m18⟩ := HD.out _ HBM.out)
  have HY := (((HX22.out.below HBM.out HL22.out).far (by omega : g + 1 + 1 ≠ gb) 1 (.slice a' (CL - 1) cap')).put3 (.bool lv) (.slice a' (CL - 1) cap') (.slice sa SL sc))
  refine bodyPost_ret (ret_cell rfl _ _ (g + 1 + 1) [.bool lv, .slice a' (CL - 1) cap', .slice sa SL sc] _ rfl HY Tryz.underlying35 rfl (by kernel_rfl)) rfl ?_
  have hag := HXA.out gb (by omega)
  have hag2 := HXA.out (g + 1 + 1) (by omega)
  have hold := HXI2.out.on HBM.out
  refine ⟨⟨lv, a', cap', code.eraseIdx k, sa, sc, succ⟩, by simp only [Blk.val, HEL.out, HSL.out], ?_, ⟨by show wfS a' (code.eraseIdx k).length cap'; rw [HEL.out]; exact HWF.out, HXW.out.2⟩, rfl, ?_, ?_⟩
  · simp only [size_set]
    have hc1 : CodeIs w3.heap.size w3 a' (code.eraseIdx k) := HCU.out _ _ _ HIS.out
    have ha1 : ∀ kk, kk = gb ∨ kk = g + 1 + 1 → apartS kk a' (code.eraseIdx k) := fun kk hk => by
      have q1 := HLB.out
      have q2 := HL22.out
      rcases hk with rfl | rfl
      · exact apart_far HFA.out q1 hag.1 (fun p hne _ _ e => hne (by have e2 : code = [] := e; rw [e2]; rfl))
      · exact apart_far HFA.out q2 hag2.1 (fun p hne _ _ e => hne (by have e2 : code = [] := e; rw [e2]; rfl))
    have hc2 : Is w3.heap.size w3 sa succ := hold.2
    have ha2 : ∀ kk, kk = gb ∨ kk = g + 1 + 1 → apartS kk sa succ := fun kk hk => by rcases hk with rfl | rfl; exact hag.2; exact hag2.2
    exact ⟨(CodeIs.setFar (g := g + 1 + 1) (CodeIs.setFar (g := g + 1 + 1) (CodeIs.setFar (g := g + 1 + 1) (CodeIs.setFar (g := gb) hc1 (ha1 _ (.inl rfl)) _ _) (ha1 _ (.inr rfl)) _ _) (ha1 _ (.inr rfl)) _ _) (ha1 _ (.inr rfl)) _ _), (Is.setFar (g := g + 1 + 1) (Is.setFar (g := g + 1 + 1) (Is.setFar (g := g + 1 + 1) (Is.setFar (g := gb) hc2 (ha2 _ (.inl rfl)) _ _) (ha2 _ (.inr rfl)) _ _) (ha2 _ (.inr rfl)) _ _) (ha2 _ (.inr rfl)) _ _)⟩
  · have hb := HBF.out.trans (HBM.out.mono HGF.out)
    have h1 : g ≤ gb := by omega
    have h2 : g ≤ g + 1 + 1 := by omega
    rw [← hg] at hb h1 h2
    exact (((hb.setCell (p := ⟨gb, 1, none⟩) h1 _).setCell (p := ⟨g + 1 + 1, 0, none⟩) (by rw [← hg]; omega) _).setCell (p := ⟨g + 1 + 1, 1, none⟩) (by rw [← hg]; omega) _).setCell (p := ⟨g + 1 + 1, 2, none⟩) (by rw [← hg]; omega) _
  · intro kk hk1 hk2
    have hxa := HXQ.out kk hk1
    have hkw : kk < W2.heap.size := Nat.lt_of_lt_of_le (by rw [← hg]; exact hk2) HGF.out
    exact ⟨apart_far HFA.out hkw hxa.1 (fun p hne _ _ e => hne (by have e2 : code = [] := e; rw [e2]; rfl)), hxa.2⟩

set_option maxRecDepth 100000 in
set_option maxHeartbeats 16000000 in
theorem chg6 (B : Nat) (p : Pg) (e : Ed) (fn bm : Nat) (x : Blk) (w : World) (h : Rd w p) (hB : PgIs B w p) (hfew : p.few) (hwf : p.wf) (hop : e.op = 6) (hn : e.f = fn) (hm : e.b = bm) (hn2 : fn < p.funs.length) (hm2 : bm < (fdAt p.funs fn).blocks.length) (hx : blkAt (fdAt p.funs fn).blocks bm = x) (hrs : Rises x.succ) (hl1 : x.succ.length ≤ 100) (hl2 : x.code.length ≤ 100) (k : Nat) (hk : e.pos = k) (hkl : k ≤ x.code.length) :
    Calls Tryz.prog 115 #[p.val, e.val] w fun r w' => BlkRes B w w' r (Blk.with x (putL x.code k { e.i with id := newId p }) x.succ) := by
  obtain ⟨fd, hfd⟩ : ∃ fd, fdAt p.funs fn = fd := ⟨_, rfl⟩
  have hxw : x.wf := by
    have h1 : (fdAt p.funs fn).wf := by
      have e : fdAt p.funs fn = p.funs[fn] := by unfold fdAt; simp [hn2]
      rw [e]
      exact hwf.2 _ (List.getElem_mem hn2)
    rw [← hx]
    exact wf_at h1.2 bm
  obtain ⟨pb, po, hpa, hpb, -, -, c2, hfdis⟩ := h.1 fn hn2
  rw [hfd] at hm2 hx c2 hfdis
  obtain ⟨bb, bo, hba, hbb, d0, d1, d2, hxis⟩ := hfdis bm hm2
  rw [hx] at d0 d1 d2 hxis
  have hxb : BlkIs B w x := by
    obtain ⟨-, -, -, -, -, -, -, q1⟩ := hB fn hn2
    rw [hfd] at q1
    obtain ⟨-, -, -, -, -, -, -, q2⟩ := q1 bm hm2
    rw [hx] at q2
    exact q2
  have HXQ := Lib.hid (fun k (hk : B ≤ k) => hxb.apart hk)
  clear hxb hB
  have hlen10 := hfew.1
  have hbl20 : fd.blocks.length ≤ 20 := by rw [← hfd]; exact (hfew.f fn).1
  have HNI := Lib.hid (fun wr (h : Rd wr p) => NewId_any p wr h.1 h.2.1 h.2.2 hfew)
  have HRD0 := Lib.hid h
  have HXW := Lib.hid hxw
  have HXI := Lib.hid hxis
  clear h hfew hwf hxw hxis hfdis hfd hx
  obtain ⟨lv, ca, cc, code, sa, sc, succ⟩ := x
  obtain ⟨ar, vr, ba, bc, bl⟩ := fd
  obtain ⟨op, f, b, tob, other, pos, ⟨id, kind, dst, a, b2, c, f2, n, x0, x1, x2⟩⟩ := e
  dsimp only at *
  subst hop
  subst hn
  subst hm
  subst hba
  unfold Pg.val Ed.val
  dsimp only
  rw [hpa]
  obtain ⟨PL, hPL⟩ : ∃ PL, p.funs.length = PL := ⟨_, rfl⟩
  obtain ⟨BL, hBL⟩ : ∃ BL, bl.length = BL := ⟨_, rfl⟩
  obtain ⟨CL, hCL⟩ : ∃ CL, code.length = CL := ⟨_, rfl⟩
  obtain ⟨SL, hSL⟩ : ∃ SL, succ.length = SL := ⟨_, rfl⟩
  have HCL := Lib.hid hCL
  have HSL := Lib.hid hSL
  have hCL0 := hCL
  have hPL0 := hPL
  simp only [hPL, hBL, hCL, hSL] at hn2 hm2 c2 d1 d2 hlen10 hbl20 hl1 hl2 ⊢
  clear hPL hBL hCL hSL
  subst hk
  rw [hCL0] at hkl
  have hki : (k : Int) ≤ (CL : Int) := by omega
  unfold Pg.val at HNI
  simp only [hpa, hPL0] at HNI
  clear hCL0 hPL0
  have hfi : (fn : Int) < (PL : Int) := by omega
  have hbi : (bm : Int) < (BL : Int) := by omega
  have HBb := Lib.hid (below3 w (.cells #[.slice (some ⟨pb, po, none⟩) PL p.pc] 24) (.cells #[.int .i64 6, .int .i64 (fn : Nat), .int .i64 (bm : Nat), .int .i64 tob, .int .i64 other, .int .i64 (k : Nat), .int .i64 id, .int .i64 kind, .int .i64 dst, .int .i64 a, .int .i64 b2, .int .i64 c, .int .i64 f2, .int .i64 n, .int .i64 x0, .int .i64 x1, .int .i64 x2] 55) (.cells #[.bool false, .slice none 0 0, .slice none 0 0] 35))
  have hx0 := BoxL.new w [.slice (some ⟨pb, po, none⟩) PL p.pc] 24
  have HX0 := Lib.hid (show BoxL (((w.alloc (.cells #[.slice (some ⟨pb, po, none⟩) PL p.pc] 24)).alloc (.cells #[.int .i64 6, .int .i64 (fn : Nat), .int .i64 (bm : Nat), .int .i64 tob, .int .i64 other, .int .i64 (k : Nat), .int .i64 id, .int .i64 kind, .int .i64 dst, .int .i64 a, .int .i64 b2, .int .i64 c, .int .i64 f2, .int .i64 n, .int .i64 x0, .int .i64 x1, .int .i64 x2] 55)).alloc (.cells #[.bool false, .slice none 0 0, .slice none 0 0] 35)) (w.heap.size) [.slice (some ⟨pb, po, none⟩) PL p.pc] from ((hx0).alloc (Nat.zero_lt_succ _) (.cells #[.int .i64 6, .int .i64 (fn : Nat), .int .i64 (bm : Nat), .int .i64 tob, .int .i64 other, .int .i64 (k : Nat), .int .i64 id, .int .i64 kind, .int .i64 dst, .int .i64 a, .int .i64 b2, .int .i64 c, .int .i64 f2, .int .i64 n, .int .i64 x0, .int .i64 x1, .int .i64 x2] 55)).alloc (Nat.zero_lt_succ _) (.cells #[.bool false, .slice none 0 0, .slice none 0 0] 35))
  have hx1 := BoxL.new (w.alloc (.cells #[.slice (some ⟨pb, po, none⟩) PL p.pc] 24)) [.int .i64 6, .int .i64 (fn : Nat), .int .i64 (bm : Nat), .int .i64 tob, .int .i64 other, .int .i64 (k : Nat), .int .i64 id, .int .i64 kind, .int .i64 dst, .int .i64 a, .int .i64 b2, .int .i64 c, .int .i64 f2, .int .i64 n, .int .i64 x0, .int .i64 x1, .int .i64 x2] 55
  rw [World.size_alloc] at hx1
  have HX1 := Lib.hid (show BoxL (((w.alloc (.cells #[.slice (some ⟨pb, po, none⟩) PL p.pc] 24)).alloc (.cells #[.int .i64 6, .int .i64 (fn : Nat), .int .i64 (bm : Nat), .int .i64 tob, .int .i64 other, .int .i64 (k : Nat), .int .i64 id, .int .i64 kind, .int .i64 dst, .int .i64 a, .int .i64 b2, .int .i64 c, .int .i64 f2, .int .i64 n, .int .i64 x0, .int .i64 x1, .int .i64 x2] 55)).alloc (.cells #[.bool false, .slice none 0 0, .slice none 0 0] 35)) (w.heap.size + 1) [.int .i64 6, .int .i64 (fn : Nat), .int .i64 (bm : Nat), .int .i64 tob, .int .i64 other, .int .i64 (k : Nat), .int .i64 id, .int .i64 kind, .int .i64 dst, .int .i64 a, .int .i64 b2, .int .i64 c, .int .i64 f2, .int .i64 n, .int .i64 x0, .int .i64 x1, .int .i64 x2] from (hx1).alloc (Nat.zero_lt_succ _) (.cells #[.bool false, .slice none 0 0, .slice none 0 0] 35))
  have hx2 := BoxL.new ((w.alloc (.cells #[.slice (some ⟨pb, po, none⟩) PL p.pc] 24)).alloc (.cells #[.int .i64 6, .int .i64 (fn : Nat), .int .i64 (bm : Nat), .int .i64 tob, .int .i64 other, .int .i64 (k : Nat), .int .i64 id, .int .i64 kind, .int .i64 dst, .int .i64 a, .int .i64 b2, .int .i64 c, .int .i64 f2, .int .i64 n, .int .i64 x0, .int .i64 x1, .int .i64 x2] 55)) [.bool false, .slice none 0 0, .slice none 0 0] 35
  rw [World.size_alloc, World.size_alloc] at hx2
  have HX2 := Lib.hid (show BoxL (((w.alloc (.cells #[.slice (some ⟨pb, po, none⟩) PL p.pc] 24)).alloc (.cells #[.int .i64 6, .int .i64 (fn : Nat), .int .i64 (bm : Nat), .int .i64 tob, .int .i64 other, .int .i64 (k : Nat), .int .i64 id, .int .i64 kind, .int .i64 dst, .int .i64 a, .int .i64 b2, .int .i64 c, .int .i64 f2, .int .i64 n, .int .i64 x0, .int .i64 x1, .int .i64 x2] 55)).alloc (.cells #[.bool false, .slice none 0 0, .slice none 0 0] 35)) (w.heap.size + 1 + 1) [.bool false, .slice none 0 0, .slice none 0 0] from hx2)
  clear hx0 hx1 hx2
  have HRW := Lib.hid (HRD0.out.on HBb.out)
  have HXG := Lib.hid (HXI.out.on HBb.out)
  have HC2 := Lib.hid c2
  have HD0 := Lib.hid d0
  have HD1 := Lib.hid d1
  have HD2 := Lib.hid d2
  have HPB := Lib.hid hpb
  have HBB := Lib.hid hbb
  clear c2 d0 d1 d2 hpb hbb hpa
  have HXA : Hid (∀ k, w.heap.size ≤ k → Blk.apart k ⟨lv, ca, cc, code, sa, sc, succ⟩) := Lib.hid fun k hk => HXI.out.apart hk
  clear HXI
  generalize hW : (((w.alloc (.cells #[.slice (some ⟨pb, po, none⟩) PL p.pc] 24)).alloc (.cells #[.int .i64 6, .int .i64 (fn : Nat), .int .i64 (bm : Nat), .int .i64 tob, .int .i64 other, .int .i64 (k : Nat), .int .i64 id, .int .i64 kind, .int .i64 dst, .int .i64 a, .int .i64 b2, .int .i64 c, .int .i64 f2, .int .i64 n, .int .i64 x0, .int .i64 x1, .int .i64 x2] 55)).alloc (.cells #[.bool false, .slice none 0 0, .slice none 0 0] 35)) = W at HBb HX0 HX1 HX2 HRW HXG
  obtain ⟨g, hg⟩ : ∃ g, w.heap.size = g := ⟨_, rfl⟩
  have HGL := Lib.hid HBb.out.size
  rw [hg] at HBb HGL HX0 HX1 HX2 HPB HBB HXA
  have HL0 := Lib.hid (HX0.out.lt (Nat.zero_lt_succ _))
  have HL1 := Lib.hid (HX1.out.lt (Nat.zero_lt_succ _))
  have HL2 := Lib.hid (HX2.out.lt (Nat.zero_lt_succ _))
  have HC : Hid (∀ wr, Below W.heap.size W wr → wr.cell? ⟨g, 0, none⟩ = some (.slice (some ⟨pb, po, none⟩) PL p.pc) ∧ wr.cell? ⟨g + 1, 0, none⟩ = some (.int .i64 6) ∧ wr.cell? ⟨g + 1, 1, none⟩ = some (.int .i64 (fn : Nat)) ∧ wr.cell? ⟨g + 1, 2, none⟩ = some (.int .i64 (bm : Nat)) ∧ wr.cell? ⟨g + 1, 3, none⟩ = some (.int .i64 tob) ∧ wr.cell? ⟨g + 1, 4, none⟩ = some (.int .i64 other) ∧ wr.cell? ⟨g + 1, 5, none⟩ = some (.int .i64 (k : Nat)) ∧ wr.cell? ⟨g + 1, 6, none⟩ = some (.int .i64 id) ∧ wr.cell? ⟨g + 1, 7, none⟩ = some (.int .i64 kind) ∧ wr.cell? ⟨g + 1, 8, none⟩ = some (.int .i64 dst) ∧ wr.cell? ⟨g + 1, 9, none⟩ = some (.int .i64 a) ∧ wr.cell? ⟨g + 1, 10, none⟩ = some (.int .i64 b2) ∧ wr.cell? ⟨g + 1, 11, none⟩ = some (.int .i64 c) ∧ wr.cell? ⟨g + 1, 12, none⟩ = some (.int .i64 f2) ∧ wr.cell? ⟨g + 1, 13, none⟩ = some (.int .i64 n) ∧ wr.cell? ⟨g + 1, 14, none⟩ = some (.int .i64 x0) ∧ wr.cell? ⟨g + 1, 15, none⟩ = some (.int .i64 x1) ∧ wr.cell? ⟨g + 1, 16, none⟩ = some (.int .i64 x2) ∧ wr.cell? ⟨pb, po + fn * 3 + 2, none⟩ = some (.slice (some ⟨bb, bo, none⟩) BL bc) ∧ wr.cell? ⟨bb, bo + bm * 3, none⟩ = some (.bool lv) ∧ wr.cell? ⟨bb, bo + bm * 3 + 1, none⟩ = some (.slice ca CL cc) ∧ wr.cell? ⟨bb, bo + bm * 3 + 2, none⟩ = some (.slice sa SL sc)) := Lib.hid fun wr hb => ⟨((HX0.out.below hb HL0.out) 0 _ rfl).1, ((HX1.out.below hb HL1.out) 0 _ rfl).1, ((HX1.out.below hb HL1.out) 1 _ rfl).1, ((HX1.out.below hb HL1.out) 2 _ rfl).1, ((HX1.out.below hb HL1.out) 3 _ rfl).1, ((HX1.out.below hb HL1.out) 4 _ rfl).1, ((HX1.out.below hb HL1.out) 5 _ rfl).1, ((HX1.out.below hb HL1.out) 6 _ rfl).1, ((HX1.out.below hb HL1.out) 7 _ rfl).1, ((HX1.out.below hb HL1.out) 8 _ rfl).1, ((HX1.out.below hb HL1.out) 9 _ rfl).1, ((HX1.out.below hb HL1.out) 10 _ rfl).1, ((HX1.out.below hb HL1.out) 11 _ rfl).1, ((HX1.out.below hb HL1.out) 12 _ rfl).1, ((HX1.out.below hb HL1.out) 13 _ rfl).1, ((HX1.out.below hb HL1.out) 14 _ rfl).1, ((HX1.out.below hb HL1.out) 15 _ rfl).1, ((HX1.out.below hb HL1.out) 16 _ rfl).1, ((HBb.out.trans (hb.mono HGL.out)).cell (p := ⟨pb, po + fn * 3 + 2, none⟩) HPB.out).trans HC2.out, ((HBb.out.trans (hb.mono HGL.out)).cell (p := ⟨bb, bo + bm * 3, none⟩) HBB.out).trans HD0.out, ((HBb.out.trans (hb.mono HGL.out)).cell (p := ⟨bb, bo + bm * 3 + 1, none⟩) HBB.out).trans HD1.out, ((HBb.out.trans (hb.mono HGL.out)).cell (p := ⟨bb, bo + bm * 3 + 2, none⟩) HBB.out).trans HD2.out⟩
  go_enter Tryz.func115, Tryz.ntmps115
  go_wp2_with fail
  have HBN : Hid (Below W.heap.size W W.drew) := Lib.hid (Below.refl _ _).drew
  go_region_held3 (fun w' => w'.cell? ⟨g, 0, none⟩ = some (.slice (some ⟨pb, po, none⟩) PL p.pc) ∧ w'.cell? ⟨g + 1, 0, none⟩ = some (.int .i64 6) ∧ w'.cell? ⟨g + 1, 1, none⟩ = some (.int .i64 (fn : Nat)) ∧ w'.cell? ⟨g + 1, 2, none⟩ = some (.int .i64 (bm : Nat)) ∧ w'.cell? ⟨g + 1, 3, none⟩ = some (.int .i64 tob) ∧ w'.cell? ⟨g + 1, 4, none⟩ = some (.int .i64 other) ∧ w'.cell? ⟨g + 1, 5, none⟩ = some (.int .i64 (k : Nat)) ∧ w'.cell? ⟨g + 1, 6, none⟩ = some (.int .i64 id) ∧ w'.cell? ⟨g + 1, 7, none⟩ = some (.int .i64 kind) ∧ w'.cell? ⟨g + 1, 8, none⟩ = some (.int .i64 dst) ∧ w'.cell? ⟨g + 1, 9, none⟩ = some (.int .i64 a) ∧ w'.cell? ⟨g + 1, 10, none⟩ = some (.int .i64 b2) ∧ w'.cell? ⟨g + 1, 11, none⟩ = some (.int .i64 c) ∧ w'.cell? ⟨g + 1, 12, none⟩ = some (.int .i64 f2) ∧ w'.cell? ⟨g + 1, 13, none⟩ = some (.int .i64 n) ∧ w'.cell? ⟨g + 1, 14, none⟩ = some (.int .i64 x0) ∧ w'.cell? ⟨g + 1, 15, none⟩ = some (.int .i64 x1) ∧ w'.cell? ⟨g + 1, 16, none⟩ = some (.int .i64 x2) ∧ w'.cell? ⟨pb, po + fn * 3 + 2, none⟩ = some (.slice (some ⟨bb, bo, none⟩) BL bc) ∧ w'.cell? ⟨bb, bo + bm * 3, none⟩ = some (.bool lv) ∧ w'.cell? ⟨bb, bo + bm * 3 + 1, none⟩ = some (.slice ca CL cc) ∧ w'.cell? ⟨bb, bo + bm * 3 + 2, none⟩ = some (.slice sa SL sc))
    (first | exact HC.out _ HBN.out | exact HC.out _ (HBN.out.alloc HBN.out.size _))
    (fail)
  have HXB := Lib.hid (show BoxL ((W.alloc (.cells #[.bool lv, .slice ca CL cc, .slice sa SL sc] 35)).drew) W.heap.size [.bool lv, .slice ca CL cc, .slice sa SL sc] from (BoxL.new W _ _).drew)
  have HB2 := Lib.hid (show Below W.heap.size W ((W.alloc (.cells #[.bool lv, .slice ca CL cc, .slice sa SL sc] 35)).drew) from (below1 W _).drew)
  clear HBN
  generalize (W.alloc (.cells #[.bool lv, .slice ca CL cc, .slice sa SL sc] 35)).drew = W2 at HXB HB2 ⊢
  obtain ⟨gb, hgb⟩ : ∃ b, W.heap.size = b := ⟨_, rfl⟩
  rw [hgb] at HXB ⊢
  have HGB := Lib.hid (show g + 1 + 1 < gb by rw [← hgb]; exact HL2.out)
  have HLB := Lib.hid (HXB.out.lt (Nat.zero_lt_succ _))
  have HL22 := Lib.hid (show g + 1 + 1 < W2.heap.size from Nat.lt_of_lt_of_le HL2.out HB2.out.size)
  have HX22 := Lib.hid (HX2.out.below HB2.out HL2.out)
  have HRD2 := Lib.hid (HRW.out.on HB2.out)
  have HXI2 := Lib.hid (HXG.out.on HB2.out)
  have HBF := Lib.hid (HBb.out.trans (HB2.out.mono HGL.out))
  have HGF := Lib.hid (Nat.le_trans HGL.out HB2.out.size)
  clear hgb

  have HD : Hid (∀ wr, Below W2.heap.size W2 wr → wr.cell? ⟨g, 0, none⟩ = some (.slice (some ⟨pb, po, none⟩) PL p.pc) ∧ wr.cell? ⟨g + 1, 0, none⟩ = some (.int .i64 6) ∧ wr.cell? ⟨g + 1, 1, none⟩ = some (.int .i64 (fn : Nat)) ∧ wr.cell? ⟨g + 1, 2, none⟩ = some (.int .i64 (bm : Nat)) ∧ wr.cell? ⟨g + 1, 3, none⟩ = some (.int .i64 tob) ∧ wr.cell? ⟨g + 1, 4, none⟩ = some (.int .i64 other) ∧ wr.cell? ⟨g + 1, 5, none⟩ = some (.int .i64 (k : Nat)) ∧ wr.cell? ⟨g + 1, 6, none⟩ = some (.int .i64 id) ∧ wr.cell? ⟨g + 1, 7, none⟩ = some (.int .i64 kind) ∧ wr.cell? ⟨g + 1, 8, none⟩ = some (.int .i64 dst) ∧ wr.cell? ⟨g + 1, 9, none⟩ = some (.int .i64 a) ∧ wr.cell? ⟨g + 1, 10, none⟩ = some (.int .i64 b2) ∧ wr.cell? ⟨g + 1, 11, none⟩ = some (.int .i64 c) ∧ wr.cell? ⟨g + 1, 12, none⟩ = some (.int .i64 f2) ∧ wr.cell? ⟨g + 1, 13, none⟩ = some (.int .i64 n) ∧ wr.cell? ⟨g + 1, 14, none⟩ = some (.int .i64 x0) ∧ wr.cell? ⟨g + 1, 15, none⟩ = some (.int .i64 x1) ∧ wr.cell? ⟨g + 1, 16, none⟩ = some (.int .i64 x2) ∧ wr.cell? ⟨gb, 0, none⟩ = some (.bool lv) ∧ wr.frozen? ⟨gb, 0, none⟩ = false ∧ wr.cell? ⟨gb, 1, none⟩ = some (.slice ca CL cc) ∧ wr.frozen? ⟨gb, 1, none⟩ = false ∧ wr.cell? ⟨gb, 2, none⟩ = some (.slice sa SL sc) ∧ wr.frozen? ⟨gb, 2, none⟩ = false ∧ wr.cell? ⟨g + 1 + 1, 0, none⟩ = some (.bool false) ∧ wr.frozen? ⟨g + 1 + 1, 0, none⟩ = false ∧ wr.cell? ⟨g + 1 + 1, 1, none⟩ = some (.slice none 0 0) ∧ wr.frozen? ⟨g + 1 + 1, 1, none⟩ = false ∧ wr.cell? ⟨g + 1 + 1, 2, none⟩ = some (.slice none 0 0) ∧ wr.frozen? ⟨g + 1 + 1, 2, none⟩ = false) := Lib.hid fun wr hb => ⟨((HX0.out.below (HB2.out.trans (hb.mono HB2.out.size)) HL0.out) 0 _ rfl).1, ((HX1.out.below (HB2.out.trans (hb.mono HB2.out.size)) HL1.out) 0 _ rfl).1, ((HX1.out.below (HB2.out.trans (hb.mono HB2.out.size)) HL1.out) 1 _ rfl).1, ((HX1.out.below (HB2.out.trans (hb.mono HB2.out.size)) HL1.out) 2 _ rfl).1, ((HX1.out.below (HB2.out.trans (hb.mono HB2.out.size)) HL1.out) 3 _ rfl).1, ((HX1.out.below (HB2.out.trans (hb.mono HB2.out.size)) HL1.out) 4 _ rfl).1, ((HX1.out.below (HB2.out.trans (hb.mono HB2.out.size)) HL1.out) 5 _ rfl).1, ((HX1.out.below (HB2.out.trans (hb.mono HB2.out.size)) HL1.out) 6 _ rfl).1, ((HX1.out.below (HB2.out.trans (hb.mono HB2.out.size)) HL1.out) 7 _ rfl).1, ((HX1.out.below (HB2.out.trans (hb.mono HB2.out.size)) HL1.out) 8 _ rfl).1, ((HX1.out.below (HB2.out.trans (hb.mono HB2.out.size)) HL1.out) 9 _ rfl).1, ((HX1.out.below (HB2.out.trans (hb.mono HB2.out.size)) HL1.out) 10 _ rfl).1, ((HX1.out.below (HB2.out.trans (hb.mono HB2.out.size)) HL1.out) 11 _ rfl).1, ((HX1.out.below (HB2.out.trans (hb.mono HB2.out.size)) HL1.out) 12 _ rfl).1, ((HX1.out.below (HB2.out.trans (hb.mono HB2.out.size)) HL1.out) 13 _ rfl).1, ((HX1.out.below (HB2.out.trans (hb.mono HB2.out.size)) HL1.out) 14 _ rfl).1, ((HX1.out.below (HB2.out.trans (hb.mono HB2.out.size)) HL1.out) 15 _ rfl).1, ((HX1.out.below (HB2.out.trans (hb.mono HB2.out.size)) HL1.out) 16 _ rfl).1, ((HXB.out.below hb HLB.out) 0 _ rfl).1, ((HXB.out.below hb HLB.out) 0 _ rfl).2, ((HXB.out.below hb HLB.out) 1 _ rfl).1, ((HXB.out.below hb HLB.out) 1 _ rfl).2, ((HXB.out.below hb HLB.out) 2 _ rfl).1, ((HXB.out.below hb HLB.out) 2 _ rfl).2, ((HX22.out.below hb HL22.out) 0 _ rfl).1, ((HX22.out.below hb HL22.out) 0 _ rfl).2, ((HX22.out.below hb HL22.out) 1 _ rfl).1, ((HX22.out.below hb HL22.out) 1 _ rfl).2, ((HX22.out.below hb HL22.out) 2 _ rfl).1, ((HX22.out.below hb HL22.out) 2 _ rfl).2⟩
  have HBM : Hid (Below W2.heap.size W2 W2) := Lib.hid (Below.refl _ _)
  obtain ⟨m0, m1, m2, m3, m4, m5, m6, m7, m8, m9, m10, m11, m12, m13, m14, m15, m16, m17, m18, m19, m20, m21, m22, m23, m24, m25, m26, m27, m28, m29⟩ := HD.out _ HBM.out
  have hgb := HGB.out
  go_upto_region 11 with fail
  have HBI := Lib.hid (below1 W2 (.cells #[.int .i64 id, .int .i64 kind, .int .i64 dst, .int .i64 a, .int .i64 b2, .int .i64 c, .int .i64 f2, .int .i64 n, .int .i64 x0, .int .i64 x1, .int .i64 x2] 40))
  have HXi := Lib.hid (show BoxL (W2.alloc (.cells #[.int .i64 id, .int .i64 kind, .int .i64 dst, .int .i64 a, .int .i64 b2, .int .i64 c, .int .i64 f2, .int .i64 n, .int .i64 x0, .int .i64 x1, .int .i64 x2] 40)) W2.heap.size [.int .i64 id, .int .i64 kind, .int .i64 dst, .int .i64 a, .int .i64 b2, .int .i64 c, .int .i64 f2, .int .i64 n, .int .i64 x0, .int .i64 x1, .int .i64 x2] from BoxL.new W2 _ _)
  clear m0 m1 m2 m3 m4 m5 m6 m7 m8 m9 m10 m11 m12 m13 m14 m15 m16 m17 m18 m19 m20 m21 m22 m23 m24 m25 m26 m27 m28 m29
  generalize W2.alloc (.cells #[.int .i64 id, .int .i64 kind, .int .i64 dst, .int .i64 a, .int .i64 b2, .int .i64 c, .int .i64 f2, .int .i64 n, .int .i64 x0, .int .i64 x1, .int .i64 x2] 40) = W3 at HBI HXi ⊢
  obtain ⟨gi, hgi⟩ : ∃ b, W2.heap.size = b := ⟨_, rfl⟩
  have HGI := Lib.hid hgi
  rw [hgi] at HXi ⊢
  clear hgi
  have HLI := Lib.hid (HXi.out.lt (Nat.zero_lt_succ _))
  obtain ⟨m0, m1, m2, m3, m4, m5, m6, m7, m8, m9, m10, m11, m12, m13, m14, m15, m16, m17, m18, m19, m20, m21, m22, m23, m24, m25, m26, m27, m28, m29⟩ := HD.out _ HBI.out
  have HRD3 := Lib.hid (HRD2.out.on HBI.out)
  go_upto_region 12 with (go_at_call 34; refine (HNI.out _ HRD3.out).mono ?_; rintro e w4 ⟨⟨z, rfl, hz⟩, hb4⟩; have HZ := Lib.hid (newId_eq hz); have HB4 := Lib.hid (HBI.out.trans (hb4.mono HBI.out.size)); have HX4 := Lib.hid (HXi.out.below hb4 HLI.out); clear hz hb4 m0 m1 m2 m3 m4 m5 m6 m7 m8 m9 m10 m11 m12 m13 m14 m15 m16 m17 m18 m19 m20 m21 m22 m23 m24 m25 m26 m27 m28 m29; have i0 := (HX4.out 0 _ rfl).1; have f0 := (HX4.out 0 _ rfl).2)
  have HB5 := Lib.hid (HB4.out.setCell (p := ⟨gi, 0, none⟩) (by rw [HGI.out]; exact Nat.le_refl _) (.int .i64 z))
  have HX5 := Lib.hid (HX4.out.put 0 (.int .i64 z) (Nat.zero_lt_succ _))
  clear i0 f0
  generalize w4.setCell ⟨gi, 0, none⟩ (.int .i64 z) = W5 at HB5 HX5 ⊢
  obtain ⟨m0, m1, m2, m3, m4, m5, m6, m7, m8, m9, m10, m11, m12, m13, m14, m15, m16, m17, m18, m19, m20, m21, m22, m23, m24, m25, m26, m27, m28, m29⟩ := HD.out _ HB5.out
  have i0 := (HX5.out 0 _ rfl).1
  have i1 := (HX5.out 1 _ rfl).1
  have i2 := (HX5.out 2 _ rfl).1
  have i3 := (HX5.out 3 _ rfl).1
  have i4 := (HX5.out 4 _ rfl).1
  have i5 := (HX5.out 5 _ rfl).1
  have i6 := (HX5.out 6 _ rfl).1
  have i7 := (HX5.out 7 _ rfl).1
  have i8 := (HX5.out 8 _ rfl).1
  have i9 := (HX5.out 9 _ rfl).1
  have i10 := (HX5.out 10 _ rfl).1
  have hold5 := HXI2.out.on HB5.out
  have HWE := Lib.hid (put_ins ca (flat code) CL cc k z kind dst a b2 c f2 n x0 x1 x2 W5 (row_of_code hold5.1) (by rw [flat_length, HCL.out]) (flat_one code) (by omega) hkl (by have := HXW.out.1.1; rw [← HCL.out]; exact this) HXW.out.1.2)
  clear hold5
  have HCU : Hid (∀ (B : Nat) (V : World) (a' : Option Addr), RowIs B V a' ((flat code).take (k * 11) ++ ([.int .i64 z, .int .i64 kind, .int .i64 dst, .int .i64 a, .int .i64 b2, .int .i64 c, .int .i64 f2, .int .i64 n, .int .i64 x0, .int .i64 x1, .int .i64 x2] ++ (flat code).drop (k * 11))) → CodeIs B V a' (putL code k ⟨z, kind, dst, a, b2, c, f2, n, x0, x1, x2⟩)) := Lib.hid fun B V a' h => code_of_row (by
    rw [flat_take, flat_drop] at h
    have e : flat (putL code k ⟨z, kind, dst, a, b2, c, f2, n, x0, x1, x2⟩) = flat (code.take k) ++ ([.int .i64 z, .int .i64 kind, .int .i64 dst, .int .i64 a, .int .i64 b2, .int .i64 c, .int .i64 f2, .int .i64 n, .int .i64 x0, .int .i64 x1, .int .i64 x2] ++ flat (code.drop k)) := by
      unfold putL
      rw [flat_append]
      rfl
    rw [e]
    exact h)
  have HPL : Hid ((putL code k ⟨z, kind, dst, a, b2, c, f2, n, x0, x1, x2⟩).length = CL + 1) := Lib.hid (by
    unfold putL
    have := HCL.out
    simp
    omega)
  go_wp2_with (go_at_call 152; refine HWE.out.mono ?_; rintro e w3 ⟨⟨a', cap', rfl, hIs, hwf', hfar⟩, hb3⟩; have HBM2 := Lib.hid (HB5.out.trans (hb3.mono HB5.out.size)); have HIS := Lib.hid hIs; have HWF := Lib.hid hwf'; have HFA := Lib.hid (show farS W2.heap.size none a' from fun p hp => (hfar p hp).imp (fun h => h) (fun h => Nat.le_trans HB5.out.size h)); clear hb3 hIs hwf' hfar HBM m0 m1 m2 m3 m4 m5 m6 m7 m8 m9 m10 m11 m12 m13 m14 m15 m16 m17 m18 m19 m20 m21 m22 m23 m24 m25 m26 m27 m28 m29; have HBM := HBM2; clear HBM2; obtain ⟨m0, m1, m2, m3, m4, m5, m6, m7, m8, m9, m10, m11, m12, m13, m14, m15, m16, m17, m18, m19, m20, m21, m22, m23, m24, m25, m26, m27, m28, m29⟩ := HD.out _ HBM.out)
  have HY := (((HX22.out.below HBM.out HL22.out).far (by omega : g + 1 + 1 ≠ gb) 1 (.slice a' (CL + 1) cap')).put3 (.bool lv) (.slice a' (CL + 1) cap') (.slice sa SL sc))
  refine bodyPost_ret (ret_cell rfl _ _ (g + 1 + 1) [.bool lv, .slice a' (CL + 1) cap', .slice sa SL sc] _ rfl HY Tryz.underlying35 rfl (by kernel_rfl)) rfl ?_
  rw [← HZ.out]
  have hag := HXA.out gb (by omega)
  have hag2 := HXA.out (g + 1 + 1) (by omega)
  have hold := HXI2.out.on HBM.out
  refine ⟨⟨lv, a', cap', putL code k ⟨z, kind, dst, a, b2, c, f2, n, x0, x1, x2⟩, sa, sc, succ⟩, by simp only [Blk.val, HPL.out, HSL.out], ?_, ⟨by show wfS a' (putL code k ⟨z, kind, dst, a, b2, c, f2, n, x0, x1, x2⟩).length cap'; rw [HPL.out]; exact HWF.out, HXW.out.2⟩, rfl, ?_, ?_⟩
  · simp only [size_set]
    have hc1 : CodeIs w3.heap.size w3 a' (putL code k ⟨z, kind, dst, a, b2, c, f2, n, x0, x1, x2⟩) := HCU.out _ _ _ HIS.out
    have ha1 : ∀ kk, kk = gb ∨ kk = g + 1 + 1 → apartS kk a' (putL code k ⟨z, kind, dst, a, b2, c, f2, n, x0, x1, x2⟩) := fun kk hk hn p hp => by
      have := HFA.out p hp
      rcases this with h | h
      · cases h
      · have q1 := HLB.out
        have q2 := HL22.out
        rcases hk with rfl | rfl <;> omega
    have hc2 : Is w3.heap.size w3 sa succ := hold.2
    have ha2 : ∀ kk, kk = gb ∨ kk = g + 1 + 1 → apartS kk sa succ := fun kk hk => by rcases hk with rfl | rfl; exact hag.2; exact hag2.2
    exact ⟨(CodeIs.setFar (g := g + 1 + 1) (CodeIs.setFar (g := g + 1 + 1) (CodeIs.setFar (g := g + 1 + 1) (CodeIs.setFar (g := gb) hc1 (ha1 _ (.inl rfl)) _ _) (ha1 _ (.inr rfl)) _ _) (ha1 _ (.inr rfl)) _ _) (ha1 _ (.inr rfl)) _ _), (Is.setFar (g := g + 1 + 1) (Is.setFar (g := g + 1 + 1) (Is.setFar (g := g + 1 + 1) (Is.setFar (g := gb) hc2 (ha2 _ (.inl rfl)) _ _) (ha2 _ (.inr rfl)) _ _) (ha2 _ (.inr rfl)) _ _) (ha2 _ (.inr rfl)) _ _)⟩
  · have hb := HBF.out.trans (HBM.out.mono HGF.out)
    have h1 : g ≤ gb := by omega
    have h2 : g ≤ g + 1 + 1 := by omega
    rw [← hg] at hb h1 h2
    exact (((hb.setCell (p := ⟨gb, 1, none⟩) h1 _).setCell (p := ⟨g + 1 + 1, 0, none⟩) (by rw [← hg]; omega) _).setCell (p := ⟨g + 1 + 1, 1, none⟩) (by rw [← hg]; omega) _).setCell (p := ⟨g + 1 + 1, 2, none⟩) (by rw [← hg]; omega) _
  · intro kk hk1 hk2
    have hxa := HXQ.out kk hk1
    have hkw : kk < W2.heap.size := Nat.lt_of_lt_of_le (by rw [← hg]; exact hk2) HGF.out
    exact ⟨apart_new HFA.out hkw, hxa.2⟩

set_option maxRecDepth 100000 in
set_option maxHeartbeats 16000000 in
theorem chg5 (B : Nat) (p : Pg) (e : Ed) (fn bm : Nat) (x : Blk) (w : World) (h : Rd w p) (hB : PgIs B w p) (hfew : p.few) (hwf : p.wf) (hop : e.op = 5) (hn : e.f = fn) (hm : e.b = bm) (hn2 : fn < p.funs.length) (hm2 : bm < (fdAt p.funs fn).blocks.length) (hx : blkAt (fdAt p.funs fn).blocks bm = x) (hrs : Rises x.succ) (hl1 : x.succ.length ≤ 100) (hl2 : x.code.length ≤ 100)  :
    Calls Tryz.prog 115 #[p.val, e.val] w fun r w' => BlkRes B w w' r (Blk.with x x.code (addN (delN x.succ e.tob) e.other)) := by
  obtain ⟨fd, hfd⟩ : ∃ fd, fdAt p.funs fn = fd := ⟨_, rfl⟩
  have hxw : x.wf := by
    have h1 : (fdAt p.funs fn).wf := by
      have e : fdAt p.funs fn = p.funs[fn] := by unfold fdAt; simp [hn2]
      rw [e]
      exact hwf.2 _ (List.getElem_mem hn2)
    rw [← hx]
    exact wf_at h1.2 bm
  obtain ⟨pb, po, hpa, hpb, -, -, c2, hfdis⟩ := h.1 fn hn2
  rw [hfd] at hm2 hx c2 hfdis
  obtain ⟨bb, bo, hba, hbb, d0, d1, d2, hxis⟩ := hfdis bm hm2
  rw [hx] at d0 d1 d2 hxis
  have hxb : BlkIs B w x := by
    obtain ⟨-, -, -, -, -, -, -, q1⟩ := hB fn hn2
    rw [hfd] at q1
    obtain ⟨-, -, -, -, -, -, -, q2⟩ := q1 bm hm2
    rw [hx] at q2
    exact q2
  have HXQ := Lib.hid (fun k (hk : B ≤ k) => hxb.apart hk)
  clear hxb hB
  have hlen10 := hfew.1
  have hbl20 : fd.blocks.length ≤ 20 := by rw [← hfd]; exact (hfew.f fn).1
  have HRD0 := Lib.hid h
  have HXW := Lib.hid hxw
  have HXI := Lib.hid hxis
  clear h hfew hwf hxw hxis hfdis hfd hx
  obtain ⟨lv, ca, cc, code, sa, sc, succ⟩ := x
  obtain ⟨ar, vr, ba, bc, bl⟩ := fd
  obtain ⟨op, f, b, tob, other, pos, ⟨id, kind, dst, a, b2, c, f2, n, x0, x1, x2⟩⟩ := e
  dsimp only at *
  subst hop
  subst hn
  subst hm
  subst hba
  unfold Pg.val Ed.val
  dsimp only
  rw [hpa]
  obtain ⟨PL, hPL⟩ : ∃ PL, p.funs.length = PL := ⟨_, rfl⟩
  obtain ⟨BL, hBL⟩ : ∃ BL, bl.length = BL := ⟨_, rfl⟩
  obtain ⟨CL, hCL⟩ : ∃ CL, code.length = CL := ⟨_, rfl⟩
  obtain ⟨SL, hSL⟩ : ∃ SL, succ.length = SL := ⟨_, rfl⟩
  have HCL := Lib.hid hCL
  have HSL := Lib.hid hSL
  have hCL0 := hCL
  have hPL0 := hPL
  simp only [hPL, hBL, hCL, hSL] at hn2 hm2 c2 d1 d2 hlen10 hbl20 hl1 hl2 ⊢
  clear hPL hBL hCL hSL
  clear hCL0 hPL0
  have hfi : (fn : Int) < (PL : Int) := by omega
  have hbi : (bm : Int) < (BL : Int) := by omega
  have HBb := Lib.hid (below3 w (.cells #[.slice (some ⟨pb, po, none⟩) PL p.pc] 24) (.cells #[.int .i64 5, .int .i64 (fn : Nat), .int .i64 (bm : Nat), .int .i64 tob, .int .i64 other, .int .i64 pos, .int .i64 id, .int .i64 kind, .int .i64 dst, .int .i64 a, .int .i64 b2, .int .i64 c, .int .i64 f2, .int .i64 n, .int .i64 x0, .int .i64 x1, .int .i64 x2] 55) (.cells #[.bool false, .slice none 0 0, .slice none 0 0] 35))
  have hx0 := BoxL.new w [.slice (some ⟨pb, po, none⟩) PL p.pc] 24
  have HX0 := Lib.hid (show BoxL (((w.alloc (.cells #[.slice (some ⟨pb, po, none⟩) PL p.pc] 24)).alloc (.cells #[.int .i64 5, .int .i64 (fn : Nat), .int .i64 (bm : Nat), .int .i64 tob, .int .i64 other, .int .i64 pos, .int .i64 id, .int .i64 kind, .int .i64 dst, .int .i64 a, .int .i64 b2, .int .i64 c, .int .i64 f2, .int .i64 n, .int .i64 x0, .int .i64 x1, .int .i64 x2] 55)).alloc (.cells #[.bool false, .slice none 0 0, .slice none 0 0] 35)) (w.heap.size) [.slice (some ⟨pb, po, none⟩) PL p.pc] from ((hx0).alloc (Nat.zero_lt_succ _) (.cells #[.int .i64 5, .int .i64 (fn : Nat), .int .i64 (bm : Nat), .int .i64 tob, .int .i64 other, .int .i64 pos, .int .i64 id, .int .i64 kind, .int .i64 dst, .int .i64 a, .int .i64 b2, .int .i64 c, .int .i64 f2, .int .i64 n, .int .i64 x0, .int .i64 x1, .int .i64 x2] 55)).alloc (Nat.zero_lt_succ _) (.cells #[.bool false, .slice none 0 0, .slice none 0 0] 35))
  have hx1 := BoxL.new (w.alloc (.cells #[.slice (some ⟨pb, po, none⟩) PL p.pc] 24)) [.int .i64 5, .int .i64 (fn : Nat), .int .i64 (bm : Nat), .int .i64 tob, .int .i64 other, .int .i64 pos, .int .i64 id, .int .i64 kind, .int .i64 dst, .int .i64 a, .int .i64 b2, .int .i64 c, .int .i64 f2, .int .i64 n, .int .i64 x0, .int .i64 x1, .int .i64 x2] 55
  rw [World.size_alloc] at hx1
  have HX1 := Lib.hid (show BoxL (((w.alloc (.cells #[.slice (some ⟨pb, po, none⟩) PL p.pc] 24)).alloc (.cells #[.int .i64 5, .int .i64 (fn : Nat), .int .i64 (bm : Nat), .int .i64 tob, .int .i64 other, .int .i64 pos, .int .i64 id, .int .i64 kind, .int .i64 dst, .int .i64 a, .int .i64 b2, .int .i64 c, .int .i64 f2, .int .i64 n, .int .i64 x0, .int .i64 x1, .int .i64 x2] 55)).alloc (.cells #[.bool false, .slice none 0 0, .slice none 0 0] 35)) (w.heap.size + 1) [.int .i64 5, .int .i64 (fn : Nat), .int .i64 (bm : Nat), .int .i64 tob, .int .i64 other, .int .i64 pos, .int .i64 id, .int .i64 kind, .int .i64 dst, .int .i64 a, .int .i64 b2, .int .i64 c, .int .i64 f2, .int .i64 n, .int .i64 x0, .int .i64 x1, .int .i64 x2] from (hx1).alloc (Nat.zero_lt_succ _) (.cells #[.bool false, .slice none 0 0, .slice none 0 0] 35))
  have hx2 := BoxL.new ((w.alloc (.cells #[.slice (some ⟨pb, po, none⟩) PL p.pc] 24)).alloc (.cells #[.int .i64 5, .int .i64 (fn : Nat), .int .i64 (bm : Nat), .int .i64 tob, .int .i64 other, .int .i64 pos, .int .i64 id, .int .i64 kind, .int .i64 dst, .int .i64 a, .int .i64 b2, .int .i64 c, .int .i64 f2, .int .i64 n, .int .i64 x0, .int .i64 x1, .int .i64 x2] 55)) [.bool false, .slice none 0 0, .slice none 0 0] 35
  rw [World.size_alloc, World.size_alloc] at hx2
  have HX2 := Lib.hid (show BoxL (((w.alloc (.cells #[.slice (some ⟨pb, po, none⟩) PL p.pc] 24)).alloc (.cells #[.int .i64 5, .int .i64 (fn : Nat), .int .i64 (bm : Nat), .int .i64 tob, .int .i64 other, .int .i64 pos, .int .i64 id, .int .i64 kind, .int .i64 dst, .int .i64 a, .int .i64 b2, .int .i64 c, .int .i64 f2, .int .i64 n, .int .i64 x0, .int .i64 x1, .int .i64 x2] 55)).alloc (.cells #[.bool false, .slice none 0 0, .slice none 0 0] 35)) (w.heap.size + 1 + 1) [.bool false, .slice none 0 0, .slice none 0 0] from hx2)
  clear hx0 hx1 hx2
  have HRW := Lib.hid (HRD0.out.on HBb.out)
  have HXG := Lib.hid (HXI.out.on HBb.out)
  have HC2 := Lib.hid c2
  have HD0 := Lib.hid d0
  have HD1 := Lib.hid d1
  have HD2 := Lib.hid d2
  have HPB := Lib.hid hpb
  have HBB := Lib.hid hbb
  clear c2 d0 d1 d2 hpb hbb hpa
  have HXA : Hid (∀ k, w.heap.size ≤ k → Blk.apart k ⟨lv, ca, cc, code, sa, sc, succ⟩) := Lib.hid fun k hk => HXI.out.apart hk
  clear HXI
  generalize hW : (((w.alloc (.cells #[.slice (some ⟨pb, po, none⟩) PL p.pc] 24)).alloc (.cells #[.int .i64 5, .int .i64 (fn : Nat), .int .i64 (bm : Nat), .int .i64 tob, .int .i64 other, .int .i64 pos, .int .i64 id, .int .i64 kind, .int .i64 dst, .int .i64 a, .int .i64 b2, .int .i64 c, .int .i64 f2, .int .i64 n, .int .i64 x0, .int .i64 x1, .int .i64 x2] 55)).alloc (.cells #[.bool false, .slice none 0 0, .slice none 0 0] 35)) = W at HBb HX0 HX1 HX2 HRW HXG
  obtain ⟨g, hg⟩ : ∃ g, w.heap.size = g := ⟨_, rfl⟩
  have HGL := Lib.hid HBb.out.size
  rw [hg] at HBb HGL HX0 HX1 HX2 HPB HBB HXA
  have HL0 := Lib.hid (HX0.out.lt (Nat.zero_lt_succ _))
  have HL1 := Lib.hid (HX1.out.lt (Nat.zero_lt_succ _))
  have HL2 := Lib.hid (HX2.out.lt (Nat.zero_lt_succ _))
  have HC : Hid (∀ wr, Below W.heap.size W wr → wr.cell? ⟨g, 0, none⟩ = some (.slice (some ⟨pb, po, none⟩) PL p.pc) ∧ wr.cell? ⟨g + 1, 0, none⟩ = some (.int .i64 5) ∧ wr.cell? ⟨g + 1, 1, none⟩ = some (.int .i64 (fn : Nat)) ∧ wr.cell? ⟨g + 1, 2, none⟩ = some (.int .i64 (bm : Nat)) ∧ wr.cell? ⟨g + 1, 3, none⟩ = some (.int .i64 tob) ∧ wr.cell? ⟨g + 1, 4, none⟩ = some (.int .i64 other) ∧ wr.cell? ⟨g + 1, 5, none⟩ = some (.int .i64 pos) ∧ wr.cell? ⟨pb, po + fn * 3 + 2, none⟩ = some (.slice (some ⟨bb, bo, none⟩) BL bc) ∧ wr.cell? ⟨bb, bo + bm * 3, none⟩ = some (.bool lv) ∧ wr.cell? ⟨bb, bo + bm * 3 + 1, none⟩ = some (.slice ca CL cc) ∧ wr.cell? ⟨bb, bo + bm * 3 + 2, none⟩ = some (.slice sa SL sc)) := Lib.hid fun wr hb => ⟨((HX0.out.below hb HL0.out) 0 _ rfl).1, ((HX1.out.below hb HL1.out) 0 _ rfl).1, ((HX1.out.below hb HL1.out) 1 _ rfl).1, ((HX1.out.below hb HL1.out) 2 _ rfl).1, ((HX1.out.below hb HL1.out) 3 _ rfl).1, ((HX1.out.below hb HL1.out) 4 _ rfl).1, ((HX1.out.below hb HL1.out) 5 _ rfl).1, ((HBb.out.trans (hb.mono HGL.out)).cell (p := ⟨pb, po + fn * 3 + 2, none⟩) HPB.out).trans HC2.out, ((HBb.out.trans (hb.mono HGL.out)).cell (p := ⟨bb, bo + bm * 3, none⟩) HBB.out).trans HD0.out, ((HBb.out.trans (hb.mono HGL.out)).cell (p := ⟨bb, bo + bm * 3 + 1, none⟩) HBB.out).trans HD1.out, ((HBb.out.trans (hb.mono HGL.out)).cell (p := ⟨bb, bo + bm * 3 + 2, none⟩) HBB.out).trans HD2.out⟩
  go_enter Tryz.func115, Tryz.ntmps115
  go_wp2_with fail
  have HBN : Hid (Below W.heap.size W W.drew) := Lib.hid (Below.refl _ _).drew
  go_region_held3 (fun w' => w'.cell? ⟨g, 0, none⟩ = some (.slice (some ⟨pb, po, none⟩) PL p.pc) ∧ w'.cell? ⟨g + 1, 0, none⟩ = some (.int .i64 5) ∧ w'.cell? ⟨g + 1, 1, none⟩ = some (.int .i64 (fn : Nat)) ∧ w'.cell? ⟨g + 1, 2, none⟩ = some (.int .i64 (bm : Nat)) ∧ w'.cell? ⟨g + 1, 3, none⟩ = some (.int .i64 tob) ∧ w'.cell? ⟨g + 1, 4, none⟩ = some (.int .i64 other) ∧ w'.cell? ⟨g + 1, 5, none⟩ = some (.int .i64 pos) ∧ w'.cell? ⟨pb, po + fn * 3 + 2, none⟩ = some (.slice (some ⟨bb, bo, none⟩) BL bc) ∧ w'.cell? ⟨bb, bo + bm * 3, none⟩ = some (.bool lv) ∧ w'.cell? ⟨bb, bo + bm * 3 + 1, none⟩ = some (.slice ca CL cc) ∧ w'.cell? ⟨bb, bo + bm * 3 + 2, none⟩ = some (.slice sa SL sc))
    (first | exact HC.out _ HBN.out | exact HC.out _ (HBN.out.alloc HBN.out.size _))
    (fail)
  have HXB := Lib.hid (show BoxL ((W.alloc (.cells #[.bool lv, .slice ca CL cc, .slice sa SL sc] 35)).drew) W.heap.size [.bool lv, .slice ca CL cc, .slice sa SL sc] from (BoxL.new W _ _).drew)
  have HB2 := Lib.hid (show Below W.heap.size W ((W.alloc (.cells #[.bool lv, .slice ca CL cc, .slice sa SL sc] 35)).drew) from (below1 W _).drew)
  clear HBN
  generalize (W.alloc (.cells #[.bool lv, .slice ca CL cc, .slice sa SL sc] 35)).drew = W2 at HXB HB2 ⊢
  obtain ⟨gb, hgb⟩ : ∃ b, W.heap.size = b := ⟨_, rfl⟩
  rw [hgb] at HXB ⊢
  have HGB := Lib.hid (show g + 1 + 1 < gb by rw [← hgb]; exact HL2.out)
  have HLB := Lib.hid (HXB.out.lt (Nat.zero_lt_succ _))
  have HL22 := Lib.hid (show g + 1 + 1 < W2.heap.size from Nat.lt_of_lt_of_le HL2.out HB2.out.size)
  have HX22 := Lib.hid (HX2.out.below HB2.out HL2.out)
  have HRD2 := Lib.hid (HRW.out.on HB2.out)
  have HXI2 := Lib.hid (HXG.out.on HB2.out)
  have HBF := Lib.hid (HBb.out.trans (HB2.out.mono HGL.out))
  have HGF := Lib.hid (Nat.le_trans HGL.out HB2.out.size)
  clear hgb

  have HD : Hid (∀ wr, Below W2.heap.size W2 wr → wr.cell? ⟨g, 0, none⟩ = some (.slice (some ⟨pb, po, none⟩) PL p.pc) ∧ wr.cell? ⟨g + 1, 0, none⟩ = some (.int .i64 5) ∧ wr.cell? ⟨g + 1, 1, none⟩ = some (.int .i64 (fn : Nat)) ∧ wr.cell? ⟨g + 1, 2, none⟩ = some (.int .i64 (bm : Nat)) ∧ wr.cell? ⟨g + 1, 3, none⟩ = some (.int .i64 tob) ∧ wr.cell? ⟨g + 1, 4, none⟩ = some (.int .i64 other) ∧ wr.cell? ⟨g + 1, 5, none⟩ = some (.int .i64 pos) ∧ wr.cell? ⟨gb, 0, none⟩ = some (.bool lv) ∧ wr.frozen? ⟨gb, 0, none⟩ = false ∧ wr.cell? ⟨gb, 1, none⟩ = some (.slice ca CL cc) ∧ wr.frozen? ⟨gb, 1, none⟩ = false ∧ wr.cell? ⟨gb, 2, none⟩ = some (.slice sa SL sc) ∧ wr.frozen? ⟨gb, 2, none⟩ = false ∧ wr.cell? ⟨g + 1 + 1, 0, none⟩ = some (.bool false) ∧ wr.frozen? ⟨g + 1 + 1, 0, none⟩ = false ∧ wr.cell? ⟨g + 1 + 1, 1, none⟩ = some (.slice none 0 0) ∧ wr.frozen? ⟨g + 1 + 1, 1, none⟩ = false ∧ wr.cell? ⟨g + 1 + 1, 2, none⟩ = some (.slice none 0 0) ∧ wr.frozen? ⟨g + 1 + 1, 2, none⟩ = false) := Lib.hid fun wr hb => ⟨((HX0.out.below (HB2.out.trans (hb.mono HB2.out.size)) HL0.out) 0 _ rfl).1, ((HX1.out.below (HB2.out.trans (hb.mono HB2.out.size)) HL1.out) 0 _ rfl).1, ((HX1.out.below (HB2.out.trans (hb.mono HB2.out.size)) HL1.out) 1 _ rfl).1, ((HX1.out.below (HB2.out.trans (hb.mono HB2.out.size)) HL1.out) 2 _ rfl).1, ((HX1.out.below (HB2.out.trans (hb.mono HB2.out.size)) HL1.out) 3 _ rfl).1, ((HX1.out.below (HB2.out.trans (hb.mono HB2.out.size)) HL1.out) 4 _ rfl).1, ((HX1.out.below (HB2.out.trans (hb.mono HB2.out.size)) HL1.out) 5 _ rfl).1, ((HXB.out.below hb HLB.out) 0 _ rfl).1, ((HXB.out.below hb HLB.out) 0 _ rfl).2, ((HXB.out.below hb HLB.out) 1 _ rfl).1, ((HXB.out.below hb HLB.out) 1 _ rfl).2, ((HXB.out.below hb HLB.out) 2 _ rfl).1, ((HXB.out.below hb HLB.out) 2 _ rfl).2, ((HX22.out.below hb HL22.out) 0 _ rfl).1, ((HX22.out.below hb HL22.out) 0 _ rfl).2, ((HX22.out.below hb HL22.out) 1 _ rfl).1, ((HX22.out.below hb HL22.out) 1 _ rfl).2, ((HX22.out.below hb HL22.out) 2 _ rfl).1, ((HX22.out.below hb HL22.out) 2 _ rfl).2⟩
  have HBM : Hid (Below W2.heap.size W2 W2) := Lib.hid (Below.refl _ _)
  obtain ⟨m0, m1, m2, m3, m4, m5, m6, m7, m8, m9, m10, m11, m12, m13, m14, m15, m16, m17, m18⟩ := HD.out _ HBM.out
  have HRS := Lib.hid hrs
  have HWO := Lib.hid (fun wr (hb : Below W2.heap.size W2 wr) => withoutEdge_any sa succ sc tob wr (HXI2.out.on hb).2 HRS.out HXW.out.2 (by rw [HSL.out]; omega))
  have hdl : (delN succ tob).length ≤ 1000 := Nat.le_trans (List.length_filter_le _ _) (by rw [HSL.out]; omega)
  have HWE := Lib.hid (fun wr (a1 : Option Addr) (c1 : Nat) (hI : Is wr.heap.size wr a1 (delN succ tob)) (hw : wfS a1 (delN succ tob).length c1) => withEdge_any a1 (delN succ tob) c1 other wr hI (delN_rises HRS.out tob) hw hdl)
  rw [HSL.out] at HWO
  clear hdl
  obtain ⟨DL, hDL⟩ : ∃ n, (delN succ tob).length = n := ⟨_, rfl⟩
  rw [hDL] at HWO HWE
  have HDL := Lib.hid hDL
  clear hDL
  have hgb := HGB.out
  go_upto_region 8 with fail
  clear m0 m1 m2 m3 m4 m5 m6 m7 m8 m9 m10 m11 m12 m13 m14 m15 m16 m17 m18 HBM
  have HBN : Hid (Below W2.heap.size W2 W2.drew) := Lib.hid (Below.refl _ _).drew
  refine wp_region_late (fun w' => w'.cell? ⟨g, 0, none⟩ = some (.slice (some ⟨pb, po, none⟩) PL p.pc) ∧ w'.cell? ⟨g + 1, 0, none⟩ = some (.int .i64 5) ∧ w'.cell? ⟨g + 1, 1, none⟩ = some (.int .i64 (fn : Nat)) ∧ w'.cell? ⟨g + 1, 2, none⟩ = some (.int .i64 (bm : Nat)) ∧ w'.cell? ⟨g + 1, 3, none⟩ = some (.int .i64 tob) ∧ w'.cell? ⟨g + 1, 4, none⟩ = some (.int .i64 other) ∧ w'.cell? ⟨g + 1, 5, none⟩ = some (.int .i64 pos) ∧ w'.cell? ⟨gb, 0, none⟩ = some (.bool lv) ∧ w'.frozen? ⟨gb, 0, none⟩ = false ∧ w'.cell? ⟨gb, 1, none⟩ = some (.slice ca CL cc) ∧ w'.frozen? ⟨gb, 1, none⟩ = false ∧ w'.cell? ⟨gb, 2, none⟩ = some (.slice sa SL sc) ∧ w'.frozen? ⟨gb, 2, none⟩ = false ∧ w'.cell? ⟨g + 1 + 1, 0, none⟩ = some (.bool false) ∧ w'.frozen? ⟨g + 1 + 1, 0, none⟩ = false ∧ w'.cell? ⟨g + 1 + 1, 1, none⟩ = some (.slice none 0 0) ∧ w'.frozen? ⟨g + 1 + 1, 1, none⟩ = false ∧ w'.cell? ⟨g + 1 + 1, 2, none⟩ = some (.slice none 0 0) ∧ w'.frozen? ⟨g + 1 + 1, 2, none⟩ = false) 8 (by kernel_rfl) (HD.out _ HBN.out) (fun hHeld => ?_)
  refine wpAnyE_take (i := 0) (v := ?v0) rfl (by kernel_rfl) (fun _ _ _ h => h) hHeld (by rfl) ?y0 ?_
  case y0 => (intro w' hSw; (try dsimp only at hSw); go_simp <;> with_reducible rfl)
  refine wpAnyE_take (i := 1) (v := ?v1) rfl (by kernel_rfl) (fun _ _ _ h => h) hHeld (by rfl) ?y1 ?_
  case y1 => (intro w' hSw; (try dsimp only at hSw); go_simp <;> with_reducible rfl)
  refine wpAnyE_take (i := 2) (v := ?v2) rfl (by kernel_rfl) (fun _ _ _ h => h) hHeld (by rfl) ?y2 ?_
  case y2 => (intro w' hSw; (try dsimp only at hSw); go_simp <;> with_reducible rfl)
  refine wpAnyE_take (i := 3) (v := ?v3) rfl (by kernel_rfl) (fun _ _ _ h => h) hHeld (by rfl) ?y3 ?_
  case y3 => (intro w' hSw; (try dsimp only at hSw); go_simp <;> with_reducible rfl)
  refine wpAnyE_take (i := 5) (v := ?v5) rfl (by kernel_rfl) (fun _ _ _ h => h) hHeld (by rfl) ?y5 ?_
  case y5 => (intro w' hSw; (try dsimp only at hSw); go_simp <;> with_reducible rfl)
  refine wpAnyE_take (i := 6) (v := ?v6) rfl (by kernel_rfl) (fun _ _ _ h => h) hHeld (by rfl) ?y6 ?_
  case y6 => (intro w' hSw; (try dsimp only at hSw); go_simp <;> with_reducible rfl)
  refine wpAnyE_one (i := 4) (by kernel_rfl) rfl (fun K hK => ?_)
  go_simp
  go_at_call 150
  refine (HWO.out _ HBN.out).mono ?_
  rintro e wz ⟨⟨a1, c1, rfl, hI1, hw1, -⟩, hb3⟩
  have hbx := HBN.out.trans (hb3.mono HBN.out.size)
  have HI1 := Lib.hid hI1
  have HW1 := Lib.hid hw1
  clear hb3 hI1 hw1 HBN
  have HBN := Lib.hid hbx
  clear hbx
  refine hK.out _ _ ?_ (fun hHeld => ?_)
  · exact HD.out _ HBN.out
  clear hK K
  refine wpAnyE_one (i := 7) (by kernel_rfl) rfl (fun K hK => ?_)
  go_simp
  go_at_call 151
  refine (HWE.out _ a1 c1 HI1.out HW1.out).mono ?_
  rintro e w3 ⟨⟨a', cap', rfl, hIs, hwf', hfar⟩, hb3⟩
  have hbx := HBN.out.trans (hb3.mono HBN.out.size)
  have HIS := Lib.hid hIs
  have HWF := Lib.hid hwf'
  have HFA := Lib.hid (show farS W2.heap.size none a' from fun p hp => (hfar p hp).imp (fun h => h) (fun h => Nat.le_trans HBN.out.size h))
  clear hb3 hIs hwf' hfar HBN
  have HBN := Lib.hid hbx
  clear hbx
  refine hK.out _ _ ?_ (fun hHeld => ?_)
  · exact HD.out _ HBN.out
  clear hK K
  refine wpAnyE_tail 8 (by decide) rfl (by kernel_rfl) ?_
  simp only [List.drop_succ_cons, List.drop_zero]
  have HBM := HBN
  clear HBN
  obtain ⟨m0, m1, m2, m3, m4, m5, m6, m7, m8, m9, m10, m11, m12, m13, m14, m15, m16, m17, m18⟩ := HD.out _ HBM.out
  go_wp2_with fail
  have HY := (((HX22.out.below HBM.out HL22.out).far (by omega : g + 1 + 1 ≠ gb) 2 (.slice a' (DL + 1) cap')).put3 (.bool lv) (.slice ca CL cc) (.slice a' (DL + 1) cap'))
  refine bodyPost_ret (ret_cell rfl _ _ (g + 1 + 1) [.bool lv, .slice ca CL cc, .slice a' (DL + 1) cap'] _ rfl HY Tryz.underlying35 rfl (by kernel_rfl)) rfl ?_
  have hag := HXA.out gb (by omega)
  have hag2 := HXA.out (g + 1 + 1) (by omega)
  have hold := HXI2.out.on HBM.out
  refine ⟨⟨lv, ca, cc, code, a', cap', addN (delN succ tob) other⟩, by simp only [Blk.val, HCL.out, addN_length, HDL.out], ?_, ⟨HXW.out.1, by show wfS a' (addN (delN succ tob) other).length cap'; rw [addN_length, HDL.out]; exact HWF.out⟩, rfl, ?_, ?_⟩
  · simp only [size_set]
    have hc1 : CodeIs w3.heap.size w3 ca code := hold.1
    have ha1 : ∀ kk, kk = gb ∨ kk = g + 1 + 1 → apartS kk ca code := fun kk hk => by rcases hk with rfl | rfl; exact hag.1; exact hag2.1
    have hc2 : Is w3.heap.size w3 a' (addN (delN succ tob) other) := HIS.out
    have ha2 : ∀ kk, kk = gb ∨ kk = g + 1 + 1 → apartS kk a' (addN (delN succ tob) other) := fun kk hk hn p hp => by
      have := HFA.out p hp
      rcases this with h | h
      · cases h
      · have q1 := HLB.out
        have q2 := HL22.out
        rcases hk with rfl | rfl <;> omega
    exact ⟨(CodeIs.setFar (g := g + 1 + 1) (CodeIs.setFar (g := g + 1 + 1) (CodeIs.setFar (g := g + 1 + 1) (CodeIs.setFar (g := gb) hc1 (ha1 _ (.inl rfl)) _ _) (ha1 _ (.inr rfl)) _ _) (ha1 _ (.inr rfl)) _ _) (ha1 _ (.inr rfl)) _ _), (Is.setFar (g := g + 1 + 1) (Is.setFar (g := g + 1 + 1) (Is.setFar (g := g + 1 + 1) (Is.setFar (g := gb) hc2 (ha2 _ (.inl rfl)) _ _) (ha2 _ (.inr rfl)) _ _) (ha2 _ (.inr rfl)) _ _) (ha2 _ (.inr rfl)) _ _)⟩
  · have hb := HBF.out.trans (HBM.out.mono HGF.out)
    have h1 : g ≤ gb := by omega
    have h2 : g ≤ g + 1 + 1 := by omega
    rw [← hg] at hb h1 h2
    exact (((hb.setCell (p := ⟨gb, 2, none⟩) h1 _).setCell (p := ⟨g + 1 + 1, 0, none⟩) (by rw [← hg]; omega) _).setCell (p := ⟨g + 1 + 1, 1, none⟩) (by rw [← hg]; omega) _).setCell (p := ⟨g + 1 + 1, 2, none⟩) (by rw [← hg]; omega) _
  · intro kk hk1 hk2
    have hxa := HXQ.out kk hk1
    have hkw : kk < W2.heap.size := Nat.lt_of_lt_of_le (by rw [← hg]; exact hk2) HGF.out
    exact ⟨hxa.1, apart_new HFA.out hkw⟩

end Go.Proofs.YtbddjneinfkmpaaGreatDoor

namespace Go.Proofs.YtbddjneinfkmpaaGreatDoor
open Go Go.RowKit Go.Sort

/-- A block of a function that may be: its edges, its lengths. -/
theorem blk_facts {p : Pg} (hs : p.sane) (hfew : p.few) {n : Nat} (hn : n < p.funs.length) (j : Nat) : Rises (blkAt (fdAt p.funs n).blocks j).succ ∧ (blkAt (fdAt p.funs n).blocks j).succ.length ≤ 30 ∧ (blkAt (fdAt p.funs n).blocks j).code.length ≤ 30 := by
  have h1 := (hfew.f n).b j
  refine ⟨?_, h1.2, h1.1⟩
  by_cases hj : j < (fdAt p.funs n).blocks.length
  · exact ((succOk_iff _ _).1 ((hs.2.1 n hn).2 j hj).2.2.1).1
  · have e : blkAt (fdAt p.funs n).blocks j = Blk.none := by unfold blkAt; rw [List.getElem?_eq_none (by omega)]; rfl
    rw [e]
    exact List.Pairwise.nil
theorem wf_fun {p : Pg} (hwf : p.wf) {n : Nat} (hn : n < p.funs.length) : (fdAt p.funs n).wf := by
  have e : fdAt p.funs n = p.funs[n] := by unfold fdAt; simp [hn]
  rw [e]
  exact hwf.2 _ (List.getElem_mem hn)

theorem changedBlock_any (B : Nat) (p : Pg) (e : Ed) (n m : Nat) (w : World) (h : Rd w p) (hB : PgIs B w p) (hfew : p.few) (hwf : p.wf) (hc : chk p e = 0) (h3 : 3 ≤ e.op) (hn : e.f = n) (hm : e.b = m) :
    Calls Tryz.prog 115 #[p.val, e.val] w fun r w' => BlkRes B w w' r (blkA p e (blkAt (fdAt p.funs n).blocks m)) := by
  obtain ⟨hs, ⟨-, h7⟩, -⟩ := chk_zero hc
  obtain ⟨n', m', hn', hm', hn2, hml, hfo, hfr, hbk, hbr, hin, -⟩ := app_view hc h3
  obtain rfl : n' = n := by omega
  obtain rfl : m' = m := by omega
  obtain ⟨f1, f2, f3⟩ := blk_facts hs hfew hn2 m'
  rcases (by omega : e.op = 3 ∨ e.op = 4 ∨ e.op = 5 ∨ e.op = 6 ∨ e.op = 7) with ho | ho | ho | ho | ho
  · have := chg3 B p e n' m' _ w h hB hfew hwf ho hn hm hn2 hml rfl f1 (by omega) (by omega)
    unfold blkA
    rw [if_pos ho]
    exact this
  · have := chg4 B p e n' m' _ w h hB hfew hwf ho hn hm hn2 hml rfl f1 (by omega) (by omega)
    unfold blkA
    rw [if_neg (by omega), if_pos ho]
    exact this
  · have := chg5 B p e n' m' _ w h hB hfew hwf ho hn hm hn2 hml rfl f1 (by omega) (by omega)
    unfold blkA
    rw [if_neg (by omega), if_neg (by omega), if_pos ho]
    exact this
  · obtain ⟨-, hpos, -⟩ := in6 hin ho
    rw [hbr] at hpos
    obtain ⟨k, hk⟩ := Int.eq_ofNat_of_zero_le hpos.1
    have := chg6 B p e n' m' _ w h hB hfew hwf ho hn hm hn2 hml rfl f1 (by omega) (by omega) k hk (by omega)
    unfold blkA
    rw [if_neg (by omega), if_neg (by omega), if_neg (by omega), if_pos ho, hk]
    exact this
  · obtain ⟨-, hat⟩ := in7 hin ho
    unfold atB at hat
    rw [hbr] at hat
    simp only [Bool.and_eq_true, decide_eq_true_eq] at hat
    obtain ⟨k, hk⟩ := Int.eq_ofNat_of_zero_le hat.1
    have := chg7 B p e n' m' _ w h hB hfew hwf ho hn hm hn2 hml rfl f1 (by omega) (by omega) k hk (by omega)
    unfold blkA
    rw [if_neg (by omega), if_neg (by omega), if_neg (by omega), if_neg (by omega), hk]
    exact this

set_option maxRecDepth 100000 in
set_option maxHeartbeats 16000000 in
theorem cbs1 (B : Nat) (p : Pg) (e : Ed) (fn : Nat) (w : World) (h : Rd w p) (hB : PgIs B w p) (hBw : B ≤ w.heap.size) (hfew : p.few) (hwf : p.wf) (hc : chk p e = 0) (hn : e.f = fn) (hn2 : fn < p.funs.length) (hop : e.op = 1) :
    Calls Tryz.prog 84 #[p.val, e.val] w fun r w' => BlksRes B w w' r (blksA p e (fdAt p.funs fn).blocks) := by
  obtain ⟨hs, -, -⟩ := chk_zero hc
  have hfw := wf_fun hwf hn2
  have hbl20 : (fdAt p.funs fn).blocks.length ≤ 20 := (hfew.f fn).1
  obtain ⟨pb, po, hpa, hpb, -, -, c2, hfdis⟩ := h.1 fn hn2
  obtain ⟨-, -, -, -, -, -, -, hfdb⟩ := hB fn hn2
  have HBQ := Lib.hid hB
  have HBWW := Lib.hid hBw
  obtain ⟨n', hn', hn2', hfb, hfr, hfo, hin⟩ := edit_fun hc (by omega)
  obtain rfl : fn = n' := by omega
  obtain ⟨k, hk, hk12, hkl, -, -⟩ := newBlk_here hfb (in1 hin hop)
  rw [hfr] at hkl
  have hspec : blksA p e (fdAt p.funs fn).blocks = if k = (fdAt p.funs fn).blocks.length then (fdAt p.funs fn).blocks ++ [newB] else (fdAt p.funs fn).blocks.set k newB := by
    unfold blksA
    rw [if_pos hop, hk]
    by_cases h : k = (fdAt p.funs fn).blocks.length
    · rw [if_pos (by omega), if_pos h]
    · rw [if_neg (by omega), if_neg h]; rfl
  obtain ⟨sp, hsp⟩ : ∃ sp, blksA p e (fdAt p.funs fn).blocks = sp := ⟨_, rfl⟩
  have HSP := Lib.hid (hspec.symm.trans hsp)
  rw [hsp]
  clear hspec hsp
  have HNB := Lib.hid (fun wr (h : Rd wr p) => (NewBlock_any p e.f wr h.1 h.2.1 h.2.2 hfew).mono (show ∀ x w', _ → x = .returned (.int .i64 (k : Nat)) ∧ Below wr.heap.size wr w' from fun x w' hx => by
    obtain ⟨⟨z, rfl, hz⟩, hb⟩ := hx
    exact ⟨by rw [newBlk_eq hz, hk], hb⟩))
  clear hfb hfr hfo hin hk hn2'
  have HRD0 := Lib.hid h
  have HPB := Lib.hid hpb
  have HC2 := Lib.hid c2
  have hlen10 := hfew.1
  clear h hfew hwf hc hs hpb c2 hB hBw
  generalize fdAt p.funs fn = fd at *
  obtain ⟨ar, vr, ba, bc, bl⟩ := fd
  obtain ⟨op, f, b, tob, other, pos, ⟨id, kind, dst, a, b2, c, f2, n, x0, x1, x2⟩⟩ := e
  dsimp only at *
  subst hn
  have HFI := Lib.hid hfdis
  have HFB0 := Lib.hid hfdb
  clear hfdb
  have HFW := Lib.hid hfw
  clear hfdis hfw
  unfold Pg.val Ed.val
  unfold Pg.val at *
  dsimp only
  simp only [hpa] at *
  obtain ⟨PL, hPL⟩ : ∃ PL, p.funs.length = PL := ⟨_, rfl⟩
  obtain ⟨BL, hBL⟩ : ∃ BL, bl.length = BL := ⟨_, rfl⟩
  have HBL := Lib.hid hBL
  simp only [hPL, hBL] at hn2 HC2 hlen10 hbl20 HNB hkl ⊢
  clear hPL hBL
  have hfi : (fn : Int) < (PL : Int) := by omega
  have HBb := Lib.hid (below2 w (.cells #[.slice (some ⟨pb, po, none⟩) PL p.pc] 24) (.cells #[.int .i64 op, .int .i64 (fn : Nat), .int .i64 b, .int .i64 tob, .int .i64 other, .int .i64 pos, .int .i64 id, .int .i64 kind, .int .i64 dst, .int .i64 a, .int .i64 b2, .int .i64 c, .int .i64 f2, .int .i64 n, .int .i64 x0, .int .i64 x1, .int .i64 x2] 55))
  have hx0 := BoxL.new w [.slice (some ⟨pb, po, none⟩) PL p.pc] 24
  have HX0 := Lib.hid (show BoxL ((w.alloc (.cells #[.slice (some ⟨pb, po, none⟩) PL p.pc] 24)).alloc (.cells #[.int .i64 op, .int .i64 (fn : Nat), .int .i64 b, .int .i64 tob, .int .i64 other, .int .i64 pos, .int .i64 id, .int .i64 kind, .int .i64 dst, .int .i64 a, .int .i64 b2, .int .i64 c, .int .i64 f2, .int .i64 n, .int .i64 x0, .int .i64 x1, .int .i64 x2] 55)) (w.heap.size) [.slice (some ⟨pb, po, none⟩) PL p.pc] from (hx0).alloc (Nat.zero_lt_succ _) (.cells #[.int .i64 op, .int .i64 (fn : Nat), .int .i64 b, .int .i64 tob, .int .i64 other, .int .i64 pos, .int .i64 id, .int .i64 kind, .int .i64 dst, .int .i64 a, .int .i64 b2, .int .i64 c, .int .i64 f2, .int .i64 n, .int .i64 x0, .int .i64 x1, .int .i64 x2] 55))
  have hx1 := BoxL.new (w.alloc (.cells #[.slice (some ⟨pb, po, none⟩) PL p.pc] 24)) [.int .i64 op, .int .i64 (fn : Nat), .int .i64 b, .int .i64 tob, .int .i64 other, .int .i64 pos, .int .i64 id, .int .i64 kind, .int .i64 dst, .int .i64 a, .int .i64 b2, .int .i64 c, .int .i64 f2, .int .i64 n, .int .i64 x0, .int .i64 x1, .int .i64 x2] 55
  rw [World.size_alloc] at hx1
  have HX1 := Lib.hid (show BoxL ((w.alloc (.cells #[.slice (some ⟨pb, po, none⟩) PL p.pc] 24)).alloc (.cells #[.int .i64 op, .int .i64 (fn : Nat), .int .i64 b, .int .i64 tob, .int .i64 other, .int .i64 pos, .int .i64 id, .int .i64 kind, .int .i64 dst, .int .i64 a, .int .i64 b2, .int .i64 c, .int .i64 f2, .int .i64 n, .int .i64 x0, .int .i64 x1, .int .i64 x2] 55)) (w.heap.size + 1) [.int .i64 op, .int .i64 (fn : Nat), .int .i64 b, .int .i64 tob, .int .i64 other, .int .i64 pos, .int .i64 id, .int .i64 kind, .int .i64 dst, .int .i64 a, .int .i64 b2, .int .i64 c, .int .i64 f2, .int .i64 n, .int .i64 x0, .int .i64 x1, .int .i64 x2] from hx1)
  clear hx0 hx1
  have HRW := Lib.hid (HRD0.out.on HBb.out)
  have HFG := Lib.hid (HFI.out.on HBb.out)
  have HFB := Lib.hid (HFB0.out.below (HBb.out.mono HBWW.out))
  have HQB := Lib.hid (HBQ.out.below (HBb.out.mono HBWW.out))
  have HBW2 := Lib.hid (Nat.le_trans HBWW.out HBb.out.size)
  clear HFI HFB0 HBQ
  generalize hW : ((w.alloc (.cells #[.slice (some ⟨pb, po, none⟩) PL p.pc] 24)).alloc (.cells #[.int .i64 op, .int .i64 (fn : Nat), .int .i64 b, .int .i64 tob, .int .i64 other, .int .i64 pos, .int .i64 id, .int .i64 kind, .int .i64 dst, .int .i64 a, .int .i64 b2, .int .i64 c, .int .i64 f2, .int .i64 n, .int .i64 x0, .int .i64 x1, .int .i64 x2] 55)) = W at HBb HX0 HX1 HRW HFG HFB HQB HBW2
  obtain ⟨g, hg⟩ : ∃ g, w.heap.size = g := ⟨_, rfl⟩
  have HGL := Lib.hid HBb.out.size
  rw [hg] at HBb HGL HX0 HX1 HPB
  have HL0 := Lib.hid (HX0.out.lt (Nat.zero_lt_succ _))
  have HL1 := Lib.hid (HX1.out.lt (Nat.zero_lt_succ _))
  have HC : Hid (∀ wr, Below W.heap.size W wr → wr.cell? ⟨g, 0, none⟩ = some (.slice (some ⟨pb, po, none⟩) PL p.pc) ∧ wr.cell? ⟨g + 1, 0, none⟩ = some (.int .i64 op) ∧ wr.cell? ⟨g + 1, 1, none⟩ = some (.int .i64 (fn : Nat)) ∧ wr.cell? ⟨g + 1, 2, none⟩ = some (.int .i64 b) ∧ wr.cell? ⟨pb, po + fn * 3 + 2, none⟩ = some (.slice ba BL bc) ∧ wr.rangeAt (g + 1) 0 [.int .i64 op, .int .i64 (fn : Nat), .int .i64 b, .int .i64 tob, .int .i64 other, .int .i64 pos, .int .i64 id, .int .i64 kind, .int .i64 dst, .int .i64 a, .int .i64 b2, .int .i64 c, .int .i64 f2, .int .i64 n, .int .i64 x0, .int .i64 x1, .int .i64 x2]) := Lib.hid fun wr hb => ⟨((HX0.out.below hb HL0.out) 0 _ rfl).1, ((HX1.out.below hb HL1.out) 0 _ rfl).1, ((HX1.out.below hb HL1.out) 1 _ rfl).1, ((HX1.out.below hb HL1.out) 2 _ rfl).1, ((HBb.out.trans (hb.mono HGL.out)).cell (p := ⟨pb, po + fn * 3 + 2, none⟩) HPB.out).trans HC2.out, (HX1.out.below hb HL1.out).range⟩
  have HBN : Hid (Below W.heap.size W W) := Lib.hid (Below.refl _ _)
  obtain ⟨m0, m1, m2, m3, m4, -⟩ := HC.out _ HBN.out
  go_enter Tryz.func84, Tryz.ntmps84
  have hop1 : (op == 1) = true := beq_iff_eq.2 hop
  clear hop
  have HWB := Lib.hid (fun wr (hb : Below W.heap.size W wr) => withBlock_any B ba bl bc k wr (HFG.out.on hb) (FdIs.below HFB.out (hb.mono HBW2.out)) HFW.out.2 HFW.out.1 (by rw [HBL.out]; omega) (by rw [HBL.out]; exact hkl))
  rw [HSP.out, HBL.out] at HWB
  go_wp2_with (first
    | (go_at_call 36; refine (HNB.out _ (HRW.out.on HBN.out)).mono ?_; rintro e wn ⟨rfl, hbn⟩; have hbx := HBN.out.trans (hbn.mono HBN.out.size); clear HBN hbn m0 m1 m2 m3 m4; have HBN := Lib.hid hbx; clear hbx; obtain ⟨m0, m1, m2, m3, m4, -⟩ := HC.out _ HBN.out)
    | (go_at_call 112; refine (HWB.out _ HBN.out).mono ?_; rintro e w2 ⟨l2, a2, c2, rfl, hi2, hw2, hwf2, hd2, hb2, hq2⟩))
  go_ret
  refine ⟨l2, a2, c2, rfl, hi2, hw2, hwf2, hd2, ?_, fun kk h1 h2 => hq2 kk h1 (Nat.lt_of_lt_of_le (by rw [← hg]; exact h2) (Nat.le_trans HGL.out HBN.out.size))⟩
  · have h1 := (HBb.out.trans (HBN.out.mono HGL.out)).trans (hb2.mono (Nat.le_trans HGL.out HBN.out.size))
    rw [← hg] at h1
    exact h1

set_option maxRecDepth 100000 in
set_option maxHeartbeats 16000000 in
theorem cbs2 (B : Nat) (p : Pg) (e : Ed) (fn : Nat) (w : World) (h : Rd w p) (hB : PgIs B w p) (hBw : B ≤ w.heap.size) (hfew : p.few) (hwf : p.wf) (hc : chk p e = 0) (hn : e.f = fn) (hn2 : fn < p.funs.length) (hop : e.op = 2) :
    Calls Tryz.prog 84 #[p.val, e.val] w fun r w' => BlksRes B w w' r (blksA p e (fdAt p.funs fn).blocks) := by
  obtain ⟨hs, -, -⟩ := chk_zero hc
  have hfw := wf_fun hwf hn2
  have hbl20 : (fdAt p.funs fn).blocks.length ≤ 20 := (hfew.f fn).1
  obtain ⟨pb, po, hpa, hpb, -, -, c2, hfdis⟩ := h.1 fn hn2
  obtain ⟨-, -, -, -, -, -, -, hfdb⟩ := hB fn hn2
  have HBQ := Lib.hid hB
  have HBWW := Lib.hid hBw
  obtain ⟨n', hn', hn2', hfb, hfr, hfo, hin⟩ := edit_fun hc (by omega)
  obtain rfl : fn = n' := by omega
  obtain ⟨hbk, -⟩ := in2 hin hop
  obtain ⟨m, hm, hml, -, -⟩ := blkB_at hbk
  rw [hfr] at hml
  have hfacts := fun j => blk_facts hs hfew hn2 j
  have hspec : blksA p e (fdAt p.funs fn).blocks = trimL (((fdAt p.funs fn).blocks.set m Blk.none).map (delB (m : Int))) := by
    unfold blksA
    rw [if_neg (by omega), if_pos hop, hm]
    rfl
  obtain ⟨sp, hsp⟩ : ∃ sp, blksA p e (fdAt p.funs fn).blocks = sp := ⟨_, rfl⟩
  have HSP := Lib.hid (hspec.symm.trans hsp)
  rw [hsp]
  have HFA := Lib.hid hfacts
  clear hspec hsp hfacts hfb hfr hfo hin hn2' hbk
  have HRD0 := Lib.hid h
  have HPB := Lib.hid hpb
  have HC2 := Lib.hid c2
  have hlen10 := hfew.1
  clear h hfew hwf hc hs hpb c2 hB hBw
  generalize fdAt p.funs fn = fd at *
  obtain ⟨ar, vr, ba, bc, bl⟩ := fd
  obtain ⟨op, f, b, tob, other, pos, ⟨id, kind, dst, a, b2, c, f2, n, x0, x1, x2⟩⟩ := e
  dsimp only at *
  subst hn
  subst hm
  have HFI := Lib.hid hfdis
  have HFB0 := Lib.hid hfdb
  clear hfdb
  have HFW := Lib.hid hfw
  clear hfdis hfw
  unfold Pg.val Ed.val
  unfold Pg.val at *
  dsimp only
  simp only [hpa] at *
  obtain ⟨PL, hPL⟩ : ∃ PL, p.funs.length = PL := ⟨_, rfl⟩
  obtain ⟨BL, hBL⟩ : ∃ BL, bl.length = BL := ⟨_, rfl⟩
  have HBL := Lib.hid hBL
  simp only [hPL, hBL] at hn2 HC2 hlen10 hbl20 hml ⊢
  clear hPL hBL
  have hfi : (fn : Int) < (PL : Int) := by omega
  have HBb := Lib.hid (below2 w (.cells #[.slice (some ⟨pb, po, none⟩) PL p.pc] 24) (.cells #[.int .i64 op, .int .i64 (fn : Nat), .int .i64 (m : Nat), .int .i64 tob, .int .i64 other, .int .i64 pos, .int .i64 id, .int .i64 kind, .int .i64 dst, .int .i64 a, .int .i64 b2, .int .i64 c, .int .i64 f2, .int .i64 n, .int .i64 x0, .int .i64 x1, .int .i64 x2] 55))
  have hx0 := BoxL.new w [.slice (some ⟨pb, po, none⟩) PL p.pc] 24
  have HX0 := Lib.hid (show BoxL ((w.alloc (.cells #[.slice (some ⟨pb, po, none⟩) PL p.pc] 24)).alloc (.cells #[.int .i64 op, .int .i64 (fn : Nat), .int .i64 (m : Nat), .int .i64 tob, .int .i64 other, .int .i64 pos, .int .i64 id, .int .i64 kind, .int .i64 dst, .int .i64 a, .int .i64 b2, .int .i64 c, .int .i64 f2, .int .i64 n, .int .i64 x0, .int .i64 x1, .int .i64 x2] 55)) (w.heap.size) [.slice (some ⟨pb, po, none⟩) PL p.pc] from (hx0).alloc (Nat.zero_lt_succ _) (.cells #[.int .i64 op, .int .i64 (fn : Nat), .int .i64 (m : Nat), .int .i64 tob, .int .i64 other, .int .i64 pos, .int .i64 id, .int .i64 kind, .int .i64 dst, .int .i64 a, .int .i64 b2, .int .i64 c, .int .i64 f2, .int .i64 n, .int .i64 x0, .int .i64 x1, .int .i64 x2] 55))
  have hx1 := BoxL.new (w.alloc (.cells #[.slice (some ⟨pb, po, none⟩) PL p.pc] 24)) [.int .i64 op, .int .i64 (fn : Nat), .int .i64 (m : Nat), .int .i64 tob, .int .i64 other, .int .i64 pos, .int .i64 id, .int .i64 kind, .int .i64 dst, .int .i64 a, .int .i64 b2, .int .i64 c, .int .i64 f2, .int .i64 n, .int .i64 x0, .int .i64 x1, .int .i64 x2] 55
  rw [World.size_alloc] at hx1
  have HX1 := Lib.hid (show BoxL ((w.alloc (.cells #[.slice (some ⟨pb, po, none⟩) PL p.pc] 24)).alloc (.cells #[.int .i64 op, .int .i64 (fn : Nat), .int .i64 (m : Nat), .int .i64 tob, .int .i64 other, .int .i64 pos, .int .i64 id, .int .i64 kind, .int .i64 dst, .int .i64 a, .int .i64 b2, .int .i64 c, .int .i64 f2, .int .i64 n, .int .i64 x0, .int .i64 x1, .int .i64 x2] 55)) (w.heap.size + 1) [.int .i64 op, .int .i64 (fn : Nat), .int .i64 (m : Nat), .int .i64 tob, .int .i64 other, .int .i64 pos, .int .i64 id, .int .i64 kind, .int .i64 dst, .int .i64 a, .int .i64 b2, .int .i64 c, .int .i64 f2, .int .i64 n, .int .i64 x0, .int .i64 x1, .int .i64 x2] from hx1)
  clear hx0 hx1
  have HRW := Lib.hid (HRD0.out.on HBb.out)
  have HFG := Lib.hid (HFI.out.on HBb.out)
  have HFB := Lib.hid (HFB0.out.below (HBb.out.mono HBWW.out))
  have HQB := Lib.hid (HBQ.out.below (HBb.out.mono HBWW.out))
  have HBW2 := Lib.hid (Nat.le_trans HBWW.out HBb.out.size)
  clear HFI HFB0 HBQ
  generalize hW : ((w.alloc (.cells #[.slice (some ⟨pb, po, none⟩) PL p.pc] 24)).alloc (.cells #[.int .i64 op, .int .i64 (fn : Nat), .int .i64 (m : Nat), .int .i64 tob, .int .i64 other, .int .i64 pos, .int .i64 id, .int .i64 kind, .int .i64 dst, .int .i64 a, .int .i64 b2, .int .i64 c, .int .i64 f2, .int .i64 n, .int .i64 x0, .int .i64 x1, .int .i64 x2] 55)) = W at HBb HX0 HX1 HRW HFG HFB HQB HBW2
  obtain ⟨g, hg⟩ : ∃ g, w.heap.size = g := ⟨_, rfl⟩
  have HGL := Lib.hid HBb.out.size
  rw [hg] at HBb HGL HX0 HX1 HPB
  have HL0 := Lib.hid (HX0.out.lt (Nat.zero_lt_succ _))
  have HL1 := Lib.hid (HX1.out.lt (Nat.zero_lt_succ _))
  have HC : Hid (∀ wr, Below W.heap.size W wr → wr.cell? ⟨g, 0, none⟩ = some (.slice (some ⟨pb, po, none⟩) PL p.pc) ∧ wr.cell? ⟨g + 1, 0, none⟩ = some (.int .i64 op) ∧ wr.cell? ⟨g + 1, 1, none⟩ = some (.int .i64 (fn : Nat)) ∧ wr.cell? ⟨g + 1, 2, none⟩ = some (.int .i64 (m : Nat)) ∧ wr.cell? ⟨pb, po + fn * 3 + 2, none⟩ = some (.slice ba BL bc) ∧ wr.rangeAt (g + 1) 0 [.int .i64 op, .int .i64 (fn : Nat), .int .i64 (m : Nat), .int .i64 tob, .int .i64 other, .int .i64 pos, .int .i64 id, .int .i64 kind, .int .i64 dst, .int .i64 a, .int .i64 b2, .int .i64 c, .int .i64 f2, .int .i64 n, .int .i64 x0, .int .i64 x1, .int .i64 x2]) := Lib.hid fun wr hb => ⟨((HX0.out.below hb HL0.out) 0 _ rfl).1, ((HX1.out.below hb HL1.out) 0 _ rfl).1, ((HX1.out.below hb HL1.out) 1 _ rfl).1, ((HX1.out.below hb HL1.out) 2 _ rfl).1, ((HBb.out.trans (hb.mono HGL.out)).cell (p := ⟨pb, po + fn * 3 + 2, none⟩) HPB.out).trans HC2.out, (HX1.out.below hb HL1.out).range⟩
  have HBN : Hid (Below W.heap.size W W) := Lib.hid (Below.refl _ _)
  obtain ⟨m0, m1, m2, m3, m4, -⟩ := HC.out _ HBN.out
  go_enter Tryz.func84, Tryz.ntmps84
  have hop1 : (op == 1) = false := by rw [hop]; rfl
  have hop2 : (op == 2) = true := by rw [hop]; rfl
  clear hop
  have HWB := Lib.hid (fun wr (hb : Below W.heap.size W wr) => withoutBlock_any B ba bl bc m wr (HFG.out.on hb) (FdIs.below HFB.out (hb.mono HBW2.out)) HFW.out.2 (by rw [HBL.out]; omega) (by rw [HBL.out]; exact hml) (fun j => ⟨(HFA.out j).1, Nat.le_trans (HFA.out j).2.1 (by decide)⟩))
  rw [HSP.out, HBL.out] at HWB
  go_wp2_with (go_at_call 113; refine (HWB.out _ HBN.out).mono ?_; rintro e w2 ⟨l2, a2, c2, rfl, hi2, hw2, hwf2, hd2, hb2, hq2⟩)
  go_ret
  refine ⟨l2, a2, c2, rfl, hi2, hw2, hwf2, hd2, ?_, fun kk h1 h2 => hq2 kk h1 (Nat.lt_of_lt_of_le (by rw [← hg]; exact h2) (Nat.le_trans HGL.out HBN.out.size))⟩
  have h1 := (HBb.out.trans (HBN.out.mono HGL.out)).trans (hb2.mono (Nat.le_trans HGL.out HBN.out.size))
  rw [← hg] at h1
  exact h1

set_option maxRecDepth 100000 in
set_option maxHeartbeats 16000000 in
theorem cbs3 (B : Nat) (p : Pg) (e : Ed) (fn : Nat) (w : World) (h : Rd w p) (hB : PgIs B w p) (hBw : B ≤ w.heap.size) (hfew : p.few) (hwf : p.wf) (hc : chk p e = 0) (hn : e.f = fn) (hn2 : fn < p.funs.length) (hop : 3 ≤ e.op) :
    Calls Tryz.prog 84 #[p.val, e.val] w fun r w' => BlksRes B w w' r (blksA p e (fdAt p.funs fn).blocks) := by
  obtain ⟨hs, -, -⟩ := chk_zero hc
  have hfw := wf_fun hwf hn2
  have hbl20 : (fdAt p.funs fn).blocks.length ≤ 20 := (hfew.f fn).1
  obtain ⟨pb, po, hpa, hpb, -, -, c2, hfdis⟩ := h.1 fn hn2
  obtain ⟨-, -, -, -, -, -, -, hfdb⟩ := hB fn hn2
  have HBQ := Lib.hid hB
  have HBWW := Lib.hid hBw
  obtain ⟨n', m, hn', hm, hn2', hml, -⟩ := app_view hc hop
  obtain rfl : fn = n' := by omega
  obtain ⟨bx0, hbx0⟩ : ∃ x, blkA p e (blkAt (fdAt p.funs fn).blocks m) = x := ⟨_, rfl⟩
  have HCB := Lib.hid (fun wr (h : Rd wr p) (hB : PgIs B wr p) => changedBlock_any B p e fn m wr h hB hfew hwf hc hop hn hm)
  rw [hbx0] at HCB
  have hspec : blksA p e (fdAt p.funs fn).blocks = (fdAt p.funs fn).blocks.set m bx0 := by
    unfold blksA
    rw [if_neg (by omega), if_neg (by omega), hm]
    show (fdAt p.funs fn).blocks.set m (blkA p e (blkAt (fdAt p.funs fn).blocks m)) = _
    rw [hbx0]
  obtain ⟨sp, hsp⟩ : ∃ sp, blksA p e (fdAt p.funs fn).blocks = sp := ⟨_, rfl⟩
  have HSP := Lib.hid (hspec.symm.trans hsp)
  rw [hsp]
  clear hspec hsp hbx0 hn2'
  unfold Ed.val at HCB
  have HRD0 := Lib.hid h
  have HPB := Lib.hid hpb
  have HC2 := Lib.hid c2
  have hlen10 := hfew.1
  clear h hfew hwf hc hs hpb c2 hB hBw
  generalize fdAt p.funs fn = fd at *
  obtain ⟨ar, vr, ba, bc, bl⟩ := fd
  obtain ⟨op, f, b, tob, other, pos, ⟨id, kind, dst, a, b2, c, f2, n, x0, x1, x2⟩⟩ := e
  dsimp only at *
  subst hn
  subst hm
  have HFI := Lib.hid hfdis
  have HFB0 := Lib.hid hfdb
  clear hfdb
  have HFW := Lib.hid hfw
  clear hfdis hfw
  unfold Pg.val Ed.val
  unfold Pg.val at *
  dsimp only
  simp only [hpa] at *
  obtain ⟨PL, hPL⟩ : ∃ PL, p.funs.length = PL := ⟨_, rfl⟩
  obtain ⟨BL, hBL⟩ : ∃ BL, bl.length = BL := ⟨_, rfl⟩
  have HBL := Lib.hid hBL
  simp only [hPL, hBL] at hn2 HC2 hlen10 hbl20 hml HCB ⊢
  clear hPL hBL
  have hfi : (fn : Int) < (PL : Int) := by omega
  have HBb := Lib.hid (below2 w (.cells #[.slice (some ⟨pb, po, none⟩) PL p.pc] 24) (.cells #[.int .i64 op, .int .i64 (fn : Nat), .int .i64 (m : Nat), .int .i64 tob, .int .i64 other, .int .i64 pos, .int .i64 id, .int .i64 kind, .int .i64 dst, .int .i64 a, .int .i64 b2, .int .i64 c, .int .i64 f2, .int .i64 n, .int .i64 x0, .int .i64 x1, .int .i64 x2] 55))
  have hx0 := BoxL.new w [.slice (some ⟨pb, po, none⟩) PL p.pc] 24
  have HX0 := Lib.hid (show BoxL ((w.alloc (.cells #[.slice (some ⟨pb, po, none⟩) PL p.pc] 24)).alloc (.cells #[.int .i64 op, .int .i64 (fn : Nat), .int .i64 (m : Nat), .int .i64 tob, .int .i64 other, .int .i64 pos, .int .i64 id, .int .i64 kind, .int .i64 dst, .int .i64 a, .int .i64 b2, .int .i64 c, .int .i64 f2, .int .i64 n, .int .i64 x0, .int .i64 x1, .int .i64 x2] 55)) (w.heap.size) [.slice (some ⟨pb, po, none⟩) PL p.pc] from (hx0).alloc (Nat.zero_lt_succ _) (.cells #[.int .i64 op, .int .i64 (fn : Nat), .int .i64 (m : Nat), .int .i64 tob, .int .i64 other, .int .i64 pos, .int .i64 id, .int .i64 kind, .int .i64 dst, .int .i64 a, .int .i64 b2, .int .i64 c, .int .i64 f2, .int .i64 n, .int .i64 x0, .int .i64 x1, .int .i64 x2] 55))
  have hx1 := BoxL.new (w.alloc (.cells #[.slice (some ⟨pb, po, none⟩) PL p.pc] 24)) [.int .i64 op, .int .i64 (fn : Nat), .int .i64 (m : Nat), .int .i64 tob, .int .i64 other, .int .i64 pos, .int .i64 id, .int .i64 kind, .int .i64 dst, .int .i64 a, .int .i64 b2, .int .i64 c, .int .i64 f2, .int .i64 n, .int .i64 x0, .int .i64 x1, .int .i64 x2] 55
  rw [World.size_alloc] at hx1
  have HX1 := Lib.hid (show BoxL ((w.alloc (.cells #[.slice (some ⟨pb, po, none⟩) PL p.pc] 24)).alloc (.cells #[.int .i64 op, .int .i64 (fn : Nat), .int .i64 (m : Nat), .int .i64 tob, .int .i64 other, .int .i64 pos, .int .i64 id, .int .i64 kind, .int .i64 dst, .int .i64 a, .int .i64 b2, .int .i64 c, .int .i64 f2, .int .i64 n, .int .i64 x0, .int .i64 x1, .int .i64 x2] 55)) (w.heap.size + 1) [.int .i64 op, .int .i64 (fn : Nat), .int .i64 (m : Nat), .int .i64 tob, .int .i64 other, .int .i64 pos, .int .i64 id, .int .i64 kind, .int .i64 dst, .int .i64 a, .int .i64 b2, .int .i64 c, .int .i64 f2, .int .i64 n, .int .i64 x0, .int .i64 x1, .int .i64 x2] from hx1)
  clear hx0 hx1
  have HRW := Lib.hid (HRD0.out.on HBb.out)
  have HFG := Lib.hid (HFI.out.on HBb.out)
  have HFB := Lib.hid (HFB0.out.below (HBb.out.mono HBWW.out))
  have HQB := Lib.hid (HBQ.out.below (HBb.out.mono HBWW.out))
  have HBW2 := Lib.hid (Nat.le_trans HBWW.out HBb.out.size)
  clear HFI HFB0 HBQ
  generalize hW : ((w.alloc (.cells #[.slice (some ⟨pb, po, none⟩) PL p.pc] 24)).alloc (.cells #[.int .i64 op, .int .i64 (fn : Nat), .int .i64 (m : Nat), .int .i64 tob, .int .i64 other, .int .i64 pos, .int .i64 id, .int .i64 kind, .int .i64 dst, .int .i64 a, .int .i64 b2, .int .i64 c, .int .i64 f2, .int .i64 n, .int .i64 x0, .int .i64 x1, .int .i64 x2] 55)) = W at HBb HX0 HX1 HRW HFG HFB HQB HBW2
  obtain ⟨g, hg⟩ : ∃ g, w.heap.size = g := ⟨_, rfl⟩
  have HGL := Lib.hid HBb.out.size
  rw [hg] at HBb HGL HX0 HX1 HPB
  have HL0 := Lib.hid (HX0.out.lt (Nat.zero_lt_succ _))
  have HL1 := Lib.hid (HX1.out.lt (Nat.zero_lt_succ _))
  have HC : Hid (∀ wr, Below W.heap.size W wr → wr.cell? ⟨g, 0, none⟩ = some (.slice (some ⟨pb, po, none⟩) PL p.pc) ∧ wr.cell? ⟨g + 1, 0, none⟩ = some (.int .i64 op) ∧ wr.cell? ⟨g + 1, 1, none⟩ = some (.int .i64 (fn : Nat)) ∧ wr.cell? ⟨g + 1, 2, none⟩ = some (.int .i64 (m : Nat)) ∧ wr.cell? ⟨pb, po + fn * 3 + 2, none⟩ = some (.slice ba BL bc) ∧ wr.rangeAt (g + 1) 0 [.int .i64 op, .int .i64 (fn : Nat), .int .i64 (m : Nat), .int .i64 tob, .int .i64 other, .int .i64 pos, .int .i64 id, .int .i64 kind, .int .i64 dst, .int .i64 a, .int .i64 b2, .int .i64 c, .int .i64 f2, .int .i64 n, .int .i64 x0, .int .i64 x1, .int .i64 x2]) := Lib.hid fun wr hb => ⟨((HX0.out.below hb HL0.out) 0 _ rfl).1, ((HX1.out.below hb HL1.out) 0 _ rfl).1, ((HX1.out.below hb HL1.out) 1 _ rfl).1, ((HX1.out.below hb HL1.out) 2 _ rfl).1, ((HBb.out.trans (hb.mono HGL.out)).cell (p := ⟨pb, po + fn * 3 + 2, none⟩) HPB.out).trans HC2.out, (HX1.out.below hb HL1.out).range⟩
  have HBN : Hid (Below W.heap.size W W) := Lib.hid (Below.refl _ _)
  obtain ⟨m0, m1, m2, m3, m4, -⟩ := HC.out _ HBN.out
  go_enter Tryz.func84, Tryz.ntmps84
  have hop1 : (op == 1) = false := beq_false_of_ne (by omega)
  have hop2 : (op == 2) = false := beq_false_of_ne (by omega)
  go_upto_region 7 with fail
  clear m0 m1 m2 m3 m4 HBN
  have HBN : Hid (Below W.heap.size W W.drew) := Lib.hid (Below.refl _ _).drew
  refine wp_region_late (fun w' => w'.cell? ⟨g, 0, none⟩ = some (.slice (some ⟨pb, po, none⟩) PL p.pc) ∧ w'.cell? ⟨g + 1, 0, none⟩ = some (.int .i64 op) ∧ w'.cell? ⟨g + 1, 1, none⟩ = some (.int .i64 (fn : Nat)) ∧ w'.cell? ⟨g + 1, 2, none⟩ = some (.int .i64 (m : Nat)) ∧ w'.cell? ⟨pb, po + fn * 3 + 2, none⟩ = some (.slice ba BL bc) ∧ w'.rangeAt (g + 1) 0 [.int .i64 op, .int .i64 (fn : Nat), .int .i64 (m : Nat), .int .i64 tob, .int .i64 other, .int .i64 pos, .int .i64 id, .int .i64 kind, .int .i64 dst, .int .i64 a, .int .i64 b2, .int .i64 c, .int .i64 f2, .int .i64 n, .int .i64 x0, .int .i64 x1, .int .i64 x2]) 7 (by kernel_rfl) (HC.out _ HBN.out) (fun hHeld => ?_)
  refine wpAnyE_take (i := 0) (v := ?v0) rfl (by kernel_rfl) (fun _ _ _ h => h) hHeld (by rfl) ?y0 ?_
  case y0 => (intro w' hSw; (try dsimp only at hSw); go_simp <;> with_reducible rfl)
  refine wpAnyE_take (i := 1) (v := ?v1) rfl (by kernel_rfl) (fun _ _ _ h => h) hHeld (by rfl) ?y1 ?_
  case y1 => (intro w' hSw; (try dsimp only at hSw); go_simp <;> with_reducible rfl)
  refine wpAnyE_take (i := 2) (v := ?v2) rfl (by kernel_rfl) (fun _ _ _ h => h) hHeld (by rfl) ?y2 ?_
  case y2 => (intro w' hSw; (try dsimp only at hSw); go_simp <;> with_reducible rfl)
  refine wpAnyE_take (i := 3) (v := ?v3) rfl (by kernel_rfl) (fun _ _ _ h => h) hHeld (by rfl) ?y3 ?_
  case y3 => (intro w' hSw; (try dsimp only at hSw); go_simp <;> with_reducible rfl)
  refine wpAnyE_takeY (i := 4) rfl (by kernel_rfl) (fun _ _ _ h => h) hHeld (yieldsIf_load_mid (by rfl) 55 _ rfl (g + 1) 0 rfl [.int .i64 op, .int .i64 (fn : Nat), .int .i64 (m : Nat), .int .i64 tob, .int .i64 other, .int .i64 pos, .int .i64 id, .int .i64 kind, .int .i64 dst, .int .i64 a, .int .i64 b2, .int .i64 c, .int .i64 f2, .int .i64 n, .int .i64 x0, .int .i64 x1, .int .i64 x2] _ (fun w h => h.2.2.2.2.2) Tryz.underlying55 rfl (by kernel_rfl)) ?_
  refine wpAnyE_one (i := 5) (by kernel_rfl) rfl (fun K hK => ?_)
  go_simp
  go_at_call 115
  refine (HCB.out _ (HRW.out.on HBN.out) (HQB.out.below (HBN.out.mono HBW2.out))).mono ?_
  rintro e w2 ⟨⟨lv, ca, cc, code, sa, sc, succ⟩, rfl, hbi, hbw, hbd, hb2, hbq⟩
  unfold Blk.val
  have HBQ2 := Lib.hid hbq
  clear hbq
  have HBS := Lib.hid HBN.out.size
  have hbx := HBN.out.trans (hb2.mono HBN.out.size)
  have HBI := Lib.hid hbi
  have HBW := Lib.hid hbw
  have HBD := Lib.hid hbd
  clear hb2 hbi hbw hbd HBN
  have HBN := Lib.hid hbx
  clear hbx
  refine hK.out _ _ ?_ (fun hHeld => ?_)
  · exact HC.out _ HBN.out
  clear hK K
  have HSE := Lib.hid (set_blk ba (brow bl) bl.length bc m lv ca code.length cc sa succ.length sc w2 (row_of_blks (HFG.out.on HBN.out)) (brow_length bl) (brow_one bl) (by rw [HBL.out]; omega) (by rw [HBL.out]; exact hml))
  rw [HBL.out] at HSE
  refine wpAnyE_one (i := 6) (by kernel_rfl) rfl (fun K hK => ?_)
  go_simp
  go_at_call 114
  refine HSE.out.mono ?_
  rintro e w3 ⟨⟨g', rfl, hgw3, hg3⟩, hb3⟩
  have HGW3 := Lib.hid (Nat.le_trans HBN.out.size hgw3)
  clear hgw3
  have hbx := HBN.out.trans (hb3.mono HBN.out.size)
  have HG3 := Lib.hid hg3
  have HB3 := Lib.hid hb3
  clear hg3 hb3 HBN
  have HBN := Lib.hid hbx
  clear hbx
  refine hK.out _ _ ?_ (fun hHeld => ?_)
  · exact HC.out _ HBN.out
  clear hK K
  refine wpAnyE_tail 7 (by decide) rfl (by kernel_rfl) ?_
  simp only [List.drop_succ_cons, List.drop_zero]
  go_wp2_with fail
  go_ret
  have hrow := row_block HG3.out
  have e1 := brow_set (l := bl) (k := m) (by rw [HBL.out]; exact hml) ⟨lv, ca, cc, code, sa, sc, succ⟩
  dsimp only at e1
  rw [e1] at hrow
  refine ⟨bl.set m ⟨lv, ca, cc, code, sa, sc, succ⟩, some ⟨g', 0, none⟩, BL, by rw [List.length_set, HBL.out]; rfl, blks_of_row hrow (fun j hj => ?_), wf_of_at (fun j hj => ?_), by rw [List.length_set, HBL.out]; exact ⟨Nat.le_refl _, fun h => by cases h⟩, ?_, ?_, fun kk h1 h2 => ⟨fun _ p hp => by cases hp; show g' ≠ kk; have := HGW3.out; have := HGL.out; rw [hg] at h2; omega, fun j => ?_⟩⟩
  · rw [blkAt_set]
    split
    · exact HBI.out.on HB3.out
    · exact (blk_is (HFG.out) j).on HBN.out
  · rw [blkAt_set]
    split
    · exact HBW.out
    · exact wf_at HFW.out.2 j
  · rw [← HSP.out]
    refine map_d_of (by rw [List.length_set, List.length_set]) (fun j => ?_)
    rw [blkAt_set, blkAt_set]
    split
    · exact HBD.out
    · rfl
  · have h1 := HBb.out.trans (HBN.out.mono HGL.out)
    rw [← hg] at h1
    exact h1
  · rw [blkAt_set]
    split
    · exact HBQ2.out kk h1 (Nat.lt_of_lt_of_le (by rw [← hg]; exact h2) (Nat.le_trans HGL.out HBS.out))
    · exact (blk_is HFB.out j).apart h1

end Go.Proofs.YtbddjneinfkmpaaGreatDoor

namespace Go.Proofs.YtbddjneinfkmpaaGreatDoor
open Go Go.RowKit Go.Sort

theorem changedBlocks_any (B : Nat) (p : Pg) (e : Ed) (fn : Nat) (w : World) (h : Rd w p) (hB : PgIs B w p) (hBw : B ≤ w.heap.size) (hfew : p.few) (hwf : p.wf) (hc : chk p e = 0) (hn : e.f = fn) (hn2 : fn < p.funs.length) (h0 : e.op ≠ 0) :
    Calls Tryz.prog 84 #[p.val, e.val] w fun r w' => BlksRes B w w' r (blksA p e (fdAt p.funs fn).blocks) := by
  have h1 := (chk_zero hc).2.1.1
  rcases (by omega : e.op = 1 ∨ e.op = 2 ∨ 3 ≤ e.op) with ho | ho | ho
  · exact cbs1 B p e fn w h hB hBw hfew hwf hc hn hn2 ho
  · exact cbs2 B p e fn w h hB hBw hfew hwf hc hn hn2 ho
  · exact cbs3 B p e fn w h hB hBw hfew hwf hc hn hn2 ho
/-- A program that was told, as it should be. -/
def AppRes (p : Pg) (e : Ed) (w w' : World) (x : Ending) : Prop :=
  ∃ q : Pg, x = .returned (.tuple #[q.val, .int .i64 (chk p e)]) ∧ PgIs w'.heap.size w' q ∧ q.wf ∧ q.d = (appP p e).d ∧ Below w.heap.size w w'

set_option maxRecDepth 100000 in
set_option maxHeartbeats 16000000 in
theorem applyE (p : Pg) (e : Ed) (w : World) (h : Rd w p) (hfew : p.few) (hwf : p.wf) (hc : ¬ chk p e = 0) :
    Calls Tryz.prog 49 #[p.val, e.val] w fun x w' => AppRes p e w w' x := by
  obtain ⟨r, hr⟩ : ∃ r, chk p e = r := ⟨_, rfl⟩
  have HCE := Lib.hid (fun wr (h : Rd wr p) => Check_any p e wr h hfew r hr)
  have hrb : (r != 0) = true := by simp only [bne, beq_false_of_ne (show r ≠ 0 from fun h => hc (hr.trans h)), Bool.not_false]
  have hap := app_same hc
  unfold AppRes
  rw [hap, hr]
  clear hap hr hc
  unfold Ed.val at HCE
  have HRD0 := Lib.hid h
  have HWFP := Lib.hid hwf
  have hlen10 := hfew.1
  clear h hfew hwf
  obtain ⟨op, f, b, tob, other, pos, ⟨id, kind, dst, a, b2, c, f2, n, x0, x1, x2⟩⟩ := e
  dsimp only at *

  unfold Pg.val Ed.val
  unfold Pg.val at *
  dsimp only at *
  generalize hPL : p.funs.length = PL at *
  have HPL := Lib.hid hPL
  clear hPL
  have HBb := Lib.hid (below3 w (.cells #[.slice p.pa PL p.pc] 24) (.cells #[.int .i64 op, .int .i64 f, .int .i64 b, .int .i64 tob, .int .i64 other, .int .i64 pos, .int .i64 id, .int .i64 kind, .int .i64 dst, .int .i64 a, .int .i64 b2, .int .i64 c, .int .i64 f2, .int .i64 n, .int .i64 x0, .int .i64 x1, .int .i64 x2] 55) (.cells #[.slice none 0 0] 24))
  have hx0 := BoxL.new w [.slice p.pa PL p.pc] 24
  have HX0 := Lib.hid (show BoxL (((w.alloc (.cells #[.slice p.pa PL p.pc] 24)).alloc (.cells #[.int .i64 op, .int .i64 f, .int .i64 b, .int .i64 tob, .int .i64 other, .int .i64 pos, .int .i64 id, .int .i64 kind, .int .i64 dst, .int .i64 a, .int .i64 b2, .int .i64 c, .int .i64 f2, .int .i64 n, .int .i64 x0, .int .i64 x1, .int .i64 x2] 55)).alloc (.cells #[.slice none 0 0] 24)) (w.heap.size) [.slice p.pa PL p.pc] from ((hx0).alloc (Nat.zero_lt_succ _) (.cells #[.int .i64 op, .int .i64 f, .int .i64 b, .int .i64 tob, .int .i64 other, .int .i64 pos, .int .i64 id, .int .i64 kind, .int .i64 dst, .int .i64 a, .int .i64 b2, .int .i64 c, .int .i64 f2, .int .i64 n, .int .i64 x0, .int .i64 x1, .int .i64 x2] 55)).alloc (Nat.zero_lt_succ _) (.cells #[.slice none 0 0] 24))
  have hx1 := BoxL.new (w.alloc (.cells #[.slice p.pa PL p.pc] 24)) [.int .i64 op, .int .i64 f, .int .i64 b, .int .i64 tob, .int .i64 other, .int .i64 pos, .int .i64 id, .int .i64 kind, .int .i64 dst, .int .i64 a, .int .i64 b2, .int .i64 c, .int .i64 f2, .int .i64 n, .int .i64 x0, .int .i64 x1, .int .i64 x2] 55
  rw [World.size_alloc] at hx1
  have HX1 := Lib.hid (show BoxL (((w.alloc (.cells #[.slice p.pa PL p.pc] 24)).alloc (.cells #[.int .i64 op, .int .i64 f, .int .i64 b, .int .i64 tob, .int .i64 other, .int .i64 pos, .int .i64 id, .int .i64 kind, .int .i64 dst, .int .i64 a, .int .i64 b2, .int .i64 c, .int .i64 f2, .int .i64 n, .int .i64 x0, .int .i64 x1, .int .i64 x2] 55)).alloc (.cells #[.slice none 0 0] 24)) (w.heap.size + 1) [.int .i64 op, .int .i64 f, .int .i64 b, .int .i64 tob, .int .i64 other, .int .i64 pos, .int .i64 id, .int .i64 kind, .int .i64 dst, .int .i64 a, .int .i64 b2, .int .i64 c, .int .i64 f2, .int .i64 n, .int .i64 x0, .int .i64 x1, .int .i64 x2] from (hx1).alloc (Nat.zero_lt_succ _) (.cells #[.slice none 0 0] 24))
  have hx2 := BoxL.new ((w.alloc (.cells #[.slice p.pa PL p.pc] 24)).alloc (.cells #[.int .i64 op, .int .i64 f, .int .i64 b, .int .i64 tob, .int .i64 other, .int .i64 pos, .int .i64 id, .int .i64 kind, .int .i64 dst, .int .i64 a, .int .i64 b2, .int .i64 c, .int .i64 f2, .int .i64 n, .int .i64 x0, .int .i64 x1, .int .i64 x2] 55)) [.slice none 0 0] 24
  rw [World.size_alloc, World.size_alloc] at hx2
  have HX2 := Lib.hid (show BoxL (((w.alloc (.cells #[.slice p.pa PL p.pc] 24)).alloc (.cells #[.int .i64 op, .int .i64 f, .int .i64 b, .int .i64 tob, .int .i64 other, .int .i64 pos, .int .i64 id, .int .i64 kind, .int .i64 dst, .int .i64 a, .int .i64 b2, .int .i64 c, .int .i64 f2, .int .i64 n, .int .i64 x0, .int .i64 x1, .int .i64 x2] 55)).alloc (.cells #[.slice none 0 0] 24)) (w.heap.size + 1 + 1) [.slice none 0 0] from hx2)
  clear hx0 hx1 hx2
  have HRW := Lib.hid (HRD0.out.on HBb.out)
  generalize hW : (((w.alloc (.cells #[.slice p.pa PL p.pc] 24)).alloc (.cells #[.int .i64 op, .int .i64 f, .int .i64 b, .int .i64 tob, .int .i64 other, .int .i64 pos, .int .i64 id, .int .i64 kind, .int .i64 dst, .int .i64 a, .int .i64 b2, .int .i64 c, .int .i64 f2, .int .i64 n, .int .i64 x0, .int .i64 x1, .int .i64 x2] 55)).alloc (.cells #[.slice none 0 0] 24)) = W at HBb HX0 HX1 HX2 HRW
  obtain ⟨g, hg⟩ : ∃ g, w.heap.size = g := ⟨_, rfl⟩
  have HGL := Lib.hid HBb.out.size
  rw [hg] at HBb HGL HX0 HX1 HX2
  have HL0 := Lib.hid (HX0.out.lt (Nat.zero_lt_succ _))
  have HL1 := Lib.hid (HX1.out.lt (Nat.zero_lt_succ _))
  have HL2 := Lib.hid (HX2.out.lt (Nat.zero_lt_succ _))
  have HC : Hid (∀ wr, Below W.heap.size W wr → wr.cell? ⟨g, 0, none⟩ = some (.slice p.pa PL p.pc) ∧ wr.cell? ⟨g + 1, 0, none⟩ = some (.int .i64 op) ∧ wr.cell? ⟨g + 1, 1, none⟩ = some (.int .i64 f) ∧ wr.cell? ⟨g + 1, 2, none⟩ = some (.int .i64 b) ∧ wr.cell? ⟨g + 1, 3, none⟩ = some (.int .i64 tob) ∧ wr.cell? ⟨g + 1 + 1, 0, none⟩ = some (.slice none 0 0) ∧ wr.frozen? ⟨g + 1 + 1, 0, none⟩ = false ∧ wr.rangeAt (g + 1) 0 [.int .i64 op, .int .i64 f, .int .i64 b, .int .i64 tob, .int .i64 other, .int .i64 pos, .int .i64 id, .int .i64 kind, .int .i64 dst, .int .i64 a, .int .i64 b2, .int .i64 c, .int .i64 f2, .int .i64 n, .int .i64 x0, .int .i64 x1, .int .i64 x2]) := Lib.hid fun wr hb => ⟨((HX0.out.below hb HL0.out) 0 _ rfl).1, ((HX1.out.below hb HL1.out) 0 _ rfl).1, ((HX1.out.below hb HL1.out) 1 _ rfl).1, ((HX1.out.below hb HL1.out) 2 _ rfl).1, ((HX1.out.below hb HL1.out) 3 _ rfl).1, ((HX2.out.below hb HL2.out) 0 _ rfl).1, ((HX2.out.below hb HL2.out) 0 _ rfl).2, (HX1.out.below hb HL1.out).range⟩
  have HBN : Hid (Below W.heap.size W W) := Lib.hid (Below.refl _ _)
  obtain ⟨m0, m1, m2, m3, m4, m5, m6, -⟩ := HC.out _ HBN.out
  go_enter Tryz.func49, Tryz.ntmps49
  go_wp2_with (first
    | (go_at_call 39; refine (HCE.out _ (HRW.out.on HBN.out)).mono ?_; rintro e wd ⟨rfl, hbn⟩; have hbx := HBN.out.trans (hbn.mono HBN.out.size); clear HBN hbn m0 m1 m2 m3 m4 m5 m6; have HBN := Lib.hid hbx; clear hbx; obtain ⟨m0, m1, m2, m3, m4, m5, m6, -⟩ := HC.out _ HBN.out)
    | ((with_reducible apply wpList_load_w (ty := 55) (b := g + 1) (o := 0) (cs := [.int .i64 op, .int .i64 f, .int .i64 b, .int .i64 tob, .int .i64 other, .int .i64 pos, .int .i64 id, .int .i64 kind, .int .i64 dst, .int .i64 a, .int .i64 b2, .int .i64 c, .int .i64 f2, .int .i64 n, .int .i64 x0, .int .i64 x1, .int .i64 x2])); rotate_left; rfl; rfl; exact (HC.out _ HBN.out).2.2.2.2.2.2.2; exact Tryz.underlying55; rfl; kernel_rfl; rotate_left; rfl; simp only [Act.put, List.setIfInBounds_toArray, List.set_cons_zero, List.set_cons_succ]))
  refine bodyPost_ret (ret_box rfl _ _ (g + 1 + 1) [.slice p.pa PL p.pc] _ _ rfl rfl ?_ Tryz.underlying24 rfl (by kernel_rfl)) rfl ?_
  · exact BoxL.put (cs := [.slice none 0 0]) (HX2.out.below HBN.out HL2.out) 0 _ (Nat.zero_lt_succ _)
  · have hbF : Below w.heap.size w (wd.setCell ⟨g + 1 + 1, 0, none⟩ (.slice p.pa PL p.pc)) := by
      rw [hg]
      exact (HBb.out.trans (HBN.out.mono HGL.out)).setCell (p := ⟨g + 1 + 1, 0, none⟩) (show g ≤ g + 1 + 1 by omega) _
    exact ⟨p, by rw [HPL.out]; rfl, HRD0.out.1.on hbF, HWFP.out, rfl, hbF⟩

end Go.Proofs.YtbddjneinfkmpaaGreatDoor

namespace Go.Proofs.YtbddjneinfkmpaaGreatDoor
open Go Go.RowKit Go.Sort

theorem RowIs.setFar {B : Nat} {W : World} {a : Option Addr} {cs : List Value} (h : RowIs B W a cs) {g : Nat} (ha : ∀ p, a = some p → p.block ≠ g) (j : Nat) (u : Value) : RowIs B (W.setCell ⟨g, j, none⟩ u) a cs := fun k v hk => by
  obtain ⟨b, o, e, hlt, hc⟩ := h k v hk
  refine ⟨b, o, e, hlt, ?_⟩
  have hne := ha _ e
  rw [World.cell?_setCell_other _ _ _ _ (fun e => hne (by simpa using (congrArg Addr.block e).symm))]
  exact hc
theorem newB_set {W : World} {a : Option Addr} (h : BlksIs W.heap.size W a [newB]) {g : Nat} (ha : ∀ p, a = some p → p.block ≠ g) (j : Nat) (u : Value) : BlksIs (W.setCell ⟨g, j, none⟩ u).heap.size (W.setCell ⟨g, j, none⟩ u) a [newB] := by
  rw [size_set]
  refine blks_of_row ((row_of_blks h).setFar ha j u) (fun i hi => ?_)
  obtain rfl : i = 0 := by simpa using hi
  exact newB_is _ _
theorem funs_new {p : Pg} {W' : World} {a' : Option Addr} {c' : Nat} {f : Fd} (hp : PgIs W'.heap.size W' p) (hrow : RowIs W'.heap.size W' a' (frow (p.funs ++ [f]))) (hf : FdIs W'.heap.size W' f) : PgIs W'.heap.size W' ⟨a', c', p.funs ++ [f]⟩ := by
  refine prog_of_row hrow (fun j hj => ?_)
  dsimp only at hj ⊢
  rw [List.length_append] at hj
  by_cases hjl : j < p.funs.length
  · have e : fdAt (p.funs ++ [f]) j = fdAt p.funs j := by
      unfold fdAt
      rw [List.getElem?_append_left hjl]
    rw [e]
    obtain ⟨_, _, -, -, -, -, -, h⟩ := hp j hjl
    exact h
  · obtain rfl : j = p.funs.length := by simp at hj; omega
    have e : fdAt (p.funs ++ [f]) p.funs.length = f := by simp [fdAt]
    rw [e]
    exact hf

set_option maxRecDepth 100000 in
set_option maxHeartbeats 16000000 in
theorem applyA (p : Pg) (e : Ed) (w : World) (h : Rd w p) (hfew : p.few) (hwf : p.wf) (hc : chk p e = 0) (h0 : e.op = 0) :
    Calls Tryz.prog 49 #[p.val, e.val] w fun x w' => AppRes p e w w' x := by
  have HCE := Lib.hid (fun wr (h : Rd wr p) => Check_any p e wr h hfew 0 hc)
  have hap : (appP p e).d = (⟨.none, 0, p.funs ++ [⟨e.b, e.tob, .none, 0, [newB]⟩]⟩ : Pg).d := by
    unfold appP
    rw [if_pos hc, if_pos h0]
  have HAP := Lib.hid hap
  unfold AppRes
  rw [hc]
  clear hap hc
  unfold Ed.val at HCE
  have HRD0 := Lib.hid h
  have HWFP := Lib.hid hwf
  have hlen10 := hfew.1
  clear h hfew hwf
  obtain ⟨op, f, b, tob, other, pos, ⟨id, kind, dst, a, b2, c, f2, n, x0, x1, x2⟩⟩ := e
  dsimp only at *
  subst h0
  unfold Pg.val Ed.val
  unfold Pg.val at *
  dsimp only at *
  generalize hPL : p.funs.length = PL at *
  have HPL := Lib.hid hPL
  clear hPL
  have HBb := Lib.hid (below3 w (.cells #[.slice p.pa PL p.pc] 24) (.cells #[.int .i64 0, .int .i64 f, .int .i64 b, .int .i64 tob, .int .i64 other, .int .i64 pos, .int .i64 id, .int .i64 kind, .int .i64 dst, .int .i64 a, .int .i64 b2, .int .i64 c, .int .i64 f2, .int .i64 n, .int .i64 x0, .int .i64 x1, .int .i64 x2] 55) (.cells #[.slice none 0 0] 24))
  have hx0 := BoxL.new w [.slice p.pa PL p.pc] 24
  have HX0 := Lib.hid (show BoxL (((w.alloc (.cells #[.slice p.pa PL p.pc] 24)).alloc (.cells #[.int .i64 0, .int .i64 f, .int .i64 b, .int .i64 tob, .int .i64 other, .int .i64 pos, .int .i64 id, .int .i64 kind, .int .i64 dst, .int .i64 a, .int .i64 b2, .int .i64 c, .int .i64 f2, .int .i64 n, .int .i64 x0, .int .i64 x1, .int .i64 x2] 55)).alloc (.cells #[.slice none 0 0] 24)) (w.heap.size) [.slice p.pa PL p.pc] from ((hx0).alloc (Nat.zero_lt_succ _) (.cells #[.int .i64 0, .int .i64 f, .int .i64 b, .int .i64 tob, .int .i64 other, .int .i64 pos, .int .i64 id, .int .i64 kind, .int .i64 dst, .int .i64 a, .int .i64 b2, .int .i64 c, .int .i64 f2, .int .i64 n, .int .i64 x0, .int .i64 x1, .int .i64 x2] 55)).alloc (Nat.zero_lt_succ _) (.cells #[.slice none 0 0] 24))
  have hx1 := BoxL.new (w.alloc (.cells #[.slice p.pa PL p.pc] 24)) [.int .i64 0, .int .i64 f, .int .i64 b, .int .i64 tob, .int .i64 other, .int .i64 pos, .int .i64 id, .int .i64 kind, .int .i64 dst, .int .i64 a, .int .i64 b2, .int .i64 c, .int .i64 f2, .int .i64 n, .int .i64 x0, .int .i64 x1, .int .i64 x2] 55
  rw [World.size_alloc] at hx1
  have HX1 := Lib.hid (show BoxL (((w.alloc (.cells #[.slice p.pa PL p.pc] 24)).alloc (.cells #[.int .i64 0, .int .i64 f, .int .i64 b, .int .i64 tob, .int .i64 other, .int .i64 pos, .int .i64 id, .int .i64 kind, .int .i64 dst, .int .i64 a, .int .i64 b2, .int .i64 c, .int .i64 f2, .int .i64 n, .int .i64 x0, .int .i64 x1, .int .i64 x2] 55)).alloc (.cells #[.slice none 0 0] 24)) (w.heap.size + 1) [.int .i64 0, .int .i64 f, .int .i64 b, .int .i64 tob, .int .i64 other, .int .i64 pos, .int .i64 id, .int .i64 kind, .int .i64 dst, .int .i64 a, .int .i64 b2, .int .i64 c, .int .i64 f2, .int .i64 n, .int .i64 x0, .int .i64 x1, .int .i64 x2] from (hx1).alloc (Nat.zero_lt_succ _) (.cells #[.slice none 0 0] 24))
  have hx2 := BoxL.new ((w.alloc (.cells #[.slice p.pa PL p.pc] 24)).alloc (.cells #[.int .i64 0, .int .i64 f, .int .i64 b, .int .i64 tob, .int .i64 other, .int .i64 pos, .int .i64 id, .int .i64 kind, .int .i64 dst, .int .i64 a, .int .i64 b2, .int .i64 c, .int .i64 f2, .int .i64 n, .int .i64 x0, .int .i64 x1, .int .i64 x2] 55)) [.slice none 0 0] 24
  rw [World.size_alloc, World.size_alloc] at hx2
  have HX2 := Lib.hid (show BoxL (((w.alloc (.cells #[.slice p.pa PL p.pc] 24)).alloc (.cells #[.int .i64 0, .int .i64 f, .int .i64 b, .int .i64 tob, .int .i64 other, .int .i64 pos, .int .i64 id, .int .i64 kind, .int .i64 dst, .int .i64 a, .int .i64 b2, .int .i64 c, .int .i64 f2, .int .i64 n, .int .i64 x0, .int .i64 x1, .int .i64 x2] 55)).alloc (.cells #[.slice none 0 0] 24)) (w.heap.size + 1 + 1) [.slice none 0 0] from hx2)
  clear hx0 hx1 hx2
  have HRW := Lib.hid (HRD0.out.on HBb.out)
  generalize hW : (((w.alloc (.cells #[.slice p.pa PL p.pc] 24)).alloc (.cells #[.int .i64 0, .int .i64 f, .int .i64 b, .int .i64 tob, .int .i64 other, .int .i64 pos, .int .i64 id, .int .i64 kind, .int .i64 dst, .int .i64 a, .int .i64 b2, .int .i64 c, .int .i64 f2, .int .i64 n, .int .i64 x0, .int .i64 x1, .int .i64 x2] 55)).alloc (.cells #[.slice none 0 0] 24)) = W at HBb HX0 HX1 HX2 HRW
  obtain ⟨g, hg⟩ : ∃ g, w.heap.size = g := ⟨_, rfl⟩
  have HGL := Lib.hid HBb.out.size
  rw [hg] at HBb HGL HX0 HX1 HX2
  have HL0 := Lib.hid (HX0.out.lt (Nat.zero_lt_succ _))
  have HL1 := Lib.hid (HX1.out.lt (Nat.zero_lt_succ _))
  have HL2 := Lib.hid (HX2.out.lt (Nat.zero_lt_succ _))
  have HC : Hid (∀ wr, Below W.heap.size W wr → wr.cell? ⟨g, 0, none⟩ = some (.slice p.pa PL p.pc) ∧ wr.cell? ⟨g + 1, 0, none⟩ = some (.int .i64 0) ∧ wr.cell? ⟨g + 1, 1, none⟩ = some (.int .i64 f) ∧ wr.cell? ⟨g + 1, 2, none⟩ = some (.int .i64 b) ∧ wr.cell? ⟨g + 1, 3, none⟩ = some (.int .i64 tob) ∧ wr.cell? ⟨g + 1 + 1, 0, none⟩ = some (.slice none 0 0) ∧ wr.frozen? ⟨g + 1 + 1, 0, none⟩ = false ∧ wr.rangeAt (g + 1) 0 [.int .i64 0, .int .i64 f, .int .i64 b, .int .i64 tob, .int .i64 other, .int .i64 pos, .int .i64 id, .int .i64 kind, .int .i64 dst, .int .i64 a, .int .i64 b2, .int .i64 c, .int .i64 f2, .int .i64 n, .int .i64 x0, .int .i64 x1, .int .i64 x2]) := Lib.hid fun wr hb => ⟨((HX0.out.below hb HL0.out) 0 _ rfl).1, ((HX1.out.below hb HL1.out) 0 _ rfl).1, ((HX1.out.below hb HL1.out) 1 _ rfl).1, ((HX1.out.below hb HL1.out) 2 _ rfl).1, ((HX1.out.below hb HL1.out) 3 _ rfl).1, ((HX2.out.below hb HL2.out) 0 _ rfl).1, ((HX2.out.below hb HL2.out) 0 _ rfl).2, (HX1.out.below hb HL1.out).range⟩
  have HBN : Hid (Below W.heap.size W W) := Lib.hid (Below.refl _ _)
  obtain ⟨m0, m1, m2, m3, m4, m5, m6, -⟩ := HC.out _ HBN.out
  go_enter Tryz.func49, Tryz.ntmps49
  go_upto_region 5 with (first
    | (go_at_call 39; refine (HCE.out _ (HRW.out.on HBN.out)).mono ?_; rintro e wd ⟨rfl, hbn⟩; have hbx := HBN.out.trans (hbn.mono HBN.out.size); clear HBN hbn m0 m1 m2 m3 m4 m5 m6; have HBN := Lib.hid hbx; clear hbx; obtain ⟨m0, m1, m2, m3, m4, m5, m6, -⟩ := HC.out _ HBN.out)
    | ((with_reducible apply wpList_load_w (ty := 55) (b := g + 1) (o := 0) (cs := [.int .i64 0, .int .i64 f, .int .i64 b, .int .i64 tob, .int .i64 other, .int .i64 pos, .int .i64 id, .int .i64 kind, .int .i64 dst, .int .i64 a, .int .i64 b2, .int .i64 c, .int .i64 f2, .int .i64 n, .int .i64 x0, .int .i64 x1, .int .i64 x2])); rotate_left; rfl; rfl; exact (HC.out _ HBN.out).2.2.2.2.2.2.2; exact Tryz.underlying55; rfl; kernel_rfl; rotate_left; rfl; simp only [Act.put, List.setIfInBounds_toArray, List.set_cons_zero, List.set_cons_succ]))
  clear m0 m1 m2 m3 m4 m5 m6
  have hbx := HBN.out.drew
  clear HBN
  have HBN := Lib.hid hbx
  clear hbx
  refine wp_region_late (fun w' => w'.cell? ⟨g, 0, none⟩ = some (.slice p.pa PL p.pc) ∧ w'.cell? ⟨g + 1, 0, none⟩ = some (.int .i64 0) ∧ w'.cell? ⟨g + 1, 1, none⟩ = some (.int .i64 f) ∧ w'.cell? ⟨g + 1, 2, none⟩ = some (.int .i64 b) ∧ w'.cell? ⟨g + 1, 3, none⟩ = some (.int .i64 tob) ∧ w'.cell? ⟨g + 1 + 1, 0, none⟩ = some (.slice none 0 0) ∧ w'.frozen? ⟨g + 1 + 1, 0, none⟩ = false ∧ w'.rangeAt (g + 1) 0 [.int .i64 0, .int .i64 f, .int .i64 b, .int .i64 tob, .int .i64 other, .int .i64 pos, .int .i64 id, .int .i64 kind, .int .i64 dst, .int .i64 a, .int .i64 b2, .int .i64 c, .int .i64 f2, .int .i64 n, .int .i64 x0, .int .i64 x1, .int .i64 x2]) 12 (by kernel_rfl) (HC.out _ HBN.out) (fun hHeld => ?_)
  refine wpAnyE_take (i := 0) (v := ?v0) rfl (by kernel_rfl) (fun _ _ _ h => h) hHeld (by rfl) ?y0 ?_
  case y0 => (intro w' hSw; (try dsimp only at hSw); go_simp <;> with_reducible rfl)
  refine wpAnyE_take (i := 1) (v := ?v1) rfl (by kernel_rfl) (fun _ _ _ h => h) hHeld (by rfl) ?y1 ?_
  case y1 => (intro w' hSw; (try dsimp only at hSw); go_simp <;> with_reducible rfl)
  refine wpAnyE_take (i := 2) (v := ?v2) rfl (by kernel_rfl) (fun _ _ _ h => h) hHeld (by rfl) ?y2 ?_
  case y2 => (intro w' hSw; (try dsimp only at hSw); go_simp <;> with_reducible rfl)
  refine wpAnyE_take (i := 3) (v := ?v3) rfl (by kernel_rfl) (fun _ _ _ h => h) hHeld (by rfl) ?y3 ?_
  case y3 => (intro w' hSw; (try dsimp only at hSw); go_simp <;> with_reducible rfl)
  refine wpAnyE_take (i := 4) (v := ?v4) rfl (by kernel_rfl) (fun _ _ _ h => h) hHeld (by rfl) ?y4 ?_
  case y4 => (intro w' hSw; (try dsimp only at hSw); go_simp <;> with_reducible rfl)
  refine wpAnyE_take (i := 5) (v := ?v5) rfl (by kernel_rfl) (fun _ _ _ h => h) hHeld (by rfl) ?y5 ?_
  case y5 => (intro w' hSw; (try dsimp only at hSw); go_simp <;> with_reducible rfl)
  refine wpAnyE_take (i := 6) (v := ?v6) rfl (by kernel_rfl) (fun _ _ _ h => h) hHeld (by rfl) ?y6 ?_
  case y6 => (intro w' hSw; (try dsimp only at hSw); go_simp <;> with_reducible rfl)
  refine wpAnyE_take (i := 7) (v := ?v7) rfl (by kernel_rfl) (fun _ _ _ h => h) hHeld (by rfl) ?y7 ?_
  case y7 => (intro w' hSw; (try dsimp only at hSw); go_simp <;> with_reducible rfl)
  refine wpAnyE_take (i := 8) (v := ?v8) rfl (by kernel_rfl) (fun _ _ _ h => h) hHeld (by rfl) ?y8 ?_
  case y8 => (intro w' hSw; (try dsimp only at hSw); go_simp <;> with_reducible rfl)
  refine wpAnyE_one (i := 9) (by kernel_rfl) rfl (fun K hK => ?_)
  go_simp
  go_at_call 83
  refine (newFun_any b tob _).mono ?_
  rintro e w2 ⟨⟨g1, rfl, hnb, hg1⟩, hb2⟩
  have hbx := HBN.out.trans (hb2.mono HBN.out.size)
  have HG1 := Lib.hid (Nat.le_trans HBN.out.size hg1)
  have HNB := Lib.hid hnb
  clear hb2 hnb hg1 HBN
  have HBN := Lib.hid hbx
  clear hbx
  refine hK.out _ _ ?_ (fun hHeld => ?_)
  · exact HC.out _ HBN.out
  clear hK K
  have HPU := Lib.hid (put_fun p.pa (frow p.funs) PL p.pc PL b tob (some ⟨g1, 0, none⟩) 1 1 w2 (row_of_prog (HRW.out.on HBN.out).1) (by rw [frow_length, HPL.out]) (frow_one _) (by omega) (Nat.le_refl _) (by rw [← HPL.out]; exact HWFP.out.1.1) HWFP.out.1.2)
  refine wpAnyE_one (i := 10) (by kernel_rfl) rfl (fun K hK => ?_)
  go_simp
  go_at_call 82
  refine HPU.out.mono ?_
  rintro e w3 ⟨⟨a', cap', rfl, hrow, hwf', hfar⟩, hb3⟩
  have hbx := HBN.out.trans (hb3.mono HBN.out.size)
  have HROW := Lib.hid hrow
  have HWF := Lib.hid hwf'
  have HFA := Lib.hid (show ∀ p, a' = some p → W.heap.size ≤ p.block from fun p hp => (hfar p hp).elim (fun h => nomatch h) (fun h => Nat.le_trans HBN.out.size h))
  have HNB3 := Lib.hid (BlksIs.on HNB.out hb3)
  clear hb3 hrow hwf' hfar HBN HPU HNB
  have HBN := Lib.hid hbx
  clear hbx
  refine hK.out _ _ ?_ (fun hHeld => ?_)
  · exact HC.out _ HBN.out
  clear hK K
  refine wpAnyE_take (i := 11) (v := ?v11) rfl (by kernel_rfl) (fun _ _ _ h => h) hHeld (by rfl) ?y11 ?_
  case y11 => (intro w' hSw; (try dsimp only at hSw); go_simp <;> with_reducible rfl)
  refine wpAnyE_tail 12 (by decide) rfl (by kernel_rfl) ?_
  simp only [List.drop_succ_cons, List.drop_zero]
  obtain ⟨m0, m1, m2, m3, m4, m5, m6, -⟩ := HC.out _ HBN.out
  go_wp2_with fail
  refine bodyPost_ret (ret_box rfl _ _ (g + 1 + 1) [.slice a' (PL + 1) cap'] _ _ rfl rfl ?_ Tryz.underlying24 rfl (by kernel_rfl)) rfl ?_
  · exact BoxL.put (cs := [.slice none 0 0]) (HX2.out.below HBN.out HL2.out) 0 _ (Nat.zero_lt_succ _)
  · have hlen : (p.funs ++ [(⟨b, tob, some ⟨g1, 0, none⟩, 1, [newB]⟩ : Fd)]).length = PL + 1 := by rw [List.length_append, HPL.out]; rfl
    have hbF : Below w.heap.size w (w3.setCell ⟨g + 1 + 1, 0, none⟩ (.slice a' (PL + 1) cap')) := by
      rw [hg]
      exact (HBb.out.trans (HBN.out.mono HGL.out)).setCell (p := ⟨g + 1 + 1, 0, none⟩) (show g ≤ g + 1 + 1 by omega) _
    have hl2 := HL2.out
    have hrow : RowIs w3.heap.size w3 a' (frow (p.funs ++ [(⟨b, tob, some ⟨g1, 0, none⟩, 1, [newB]⟩ : Fd)])) := by
      have h := HROW.out
      have e : (frow p.funs).length = PL * 3 := by rw [frow_length, HPL.out]
      rw [← e, List.take_length, List.drop_length] at h
      have e2 : frow (p.funs ++ [(⟨b, tob, some ⟨g1, 0, none⟩, 1, [newB]⟩ : Fd)]) = frow p.funs ++ ([.int .i64 b, .int .i64 tob, .slice (some ⟨g1, 0, none⟩) 1 1] ++ []) := by
        simp [frow, Fd.cells]
      rw [e2]
      exact h
    refine ⟨⟨a', cap', p.funs ++ [⟨b, tob, some ⟨g1, 0, none⟩, 1, [newB]⟩]⟩, by dsimp only; rw [hlen]; rfl, funs_new (HRD0.out.1.on hbF) ?_ ?_, ⟨by dsimp only; rw [hlen]; exact HWF.out, fun f hf => ?_⟩, ?_, hbF⟩
    · rw [size_set]
      exact hrow.setFar (fun p hp => by have := HFA.out p hp; omega) _ _
    · exact newB_set HNB3.out (fun p hp => by cases hp; have := HG1.out; show g1 ≠ _; omega) _ _
    · rcases List.mem_append.1 hf with h | h
      · exact HWFP.out.2 f h
      · obtain rfl := List.mem_singleton.1 h
        refine ⟨⟨Nat.le_refl _, fun h => nomatch h⟩, fun x hx => ?_⟩
        obtain rfl := List.mem_singleton.1 hx
        exact ⟨⟨Nat.le_refl _, fun _ => rfl⟩, ⟨Nat.le_refl _, fun _ => rfl⟩⟩
    · rw [HAP.out]
      simp [Pg.d, Fd.d]

end Go.Proofs.YtbddjneinfkmpaaGreatDoor

namespace Go.Proofs.YtbddjneinfkmpaaGreatDoor
open Go Go.RowKit Go.Sort

theorem blks_setFar {W : World} {a : Option Addr} {l : List Blk} (h : BlksIs W.heap.size W a l) {g : Nat} (ha : apartS g a l) (hb : ∀ j, (blkAt l j).apart g) (i : Nat) (u : Value) : BlksIs (W.setCell ⟨g, i, none⟩ u).heap.size (W.setCell ⟨g, i, none⟩ u) a l := by
  rw [size_set]
  by_cases hl : l = []
  · subst hl
    exact fun j hj => absurd hj (Nat.not_lt_zero j)
  · exact blks_of_row ((row_of_blks h).setFar (ha hl) i u) (fun j _ => (blk_is h j).setFar (hb j) i u)
theorem funs_set {p : Pg} {W' : World} {a' : Option Addr} {c' k : Nat} {f : Fd} (hp : PgIs W'.heap.size W' p) (hrow : RowIs W'.heap.size W' a' (frow (p.funs.set k f))) (hf : FdIs W'.heap.size W' f) : PgIs W'.heap.size W' ⟨a', c', p.funs.set k f⟩ := by
  refine prog_of_row hrow (fun j hj => ?_)
  dsimp only at hj ⊢
  rw [List.length_set] at hj
  rw [fdAt_set]
  split
  · exact hf
  · obtain ⟨_, _, -, -, -, -, -, h⟩ := hp j hj
    exact h

set_option maxRecDepth 100000 in
set_option maxHeartbeats 16000000 in
theorem applyB (p : Pg) (e : Ed) (w : World) (h : Rd w p) (hfew : p.few) (hwf : p.wf) (hc : chk p e = 0) (h0 : e.op ≠ 0) :
    Calls Tryz.prog 49 #[p.val, e.val] w fun x w' => AppRes p e w w' x := by
  have HCE := Lib.hid (fun wr (h : Rd wr p) => Check_any p e wr h hfew 0 hc)
  obtain ⟨fn, hn, hn2, -, -, -, -⟩ := edit_fun hc h0
  have hap : (appP p e).d = (⟨.none, 0, p.funs.set fn (funA p e (fdAt p.funs fn))⟩ : Pg).d := by
    unfold appP
    rw [if_pos hc, if_neg h0, hn]
    rfl
  have HAP := Lib.hid hap
  have HCB := Lib.hid (fun wr (B : Nat) (h : Rd wr p) (hB : PgIs B wr p) (hBw : B ≤ wr.heap.size) => changedBlocks_any B p e fn wr h hB hBw hfew hwf hc hn hn2 h0)
  have hfw := wf_fun hwf hn2
  obtain ⟨pb, po, hpa, hpb, c0, c1, c2, -⟩ := h.1 fn hn2
  unfold AppRes
  rw [hc]
  unfold Ed.val Pg.val at HCE HCB
  have HRD0 := Lib.hid h
  have HWFP := Lib.hid hwf
  have HPB := Lib.hid hpb
  have HC0 := Lib.hid c0
  have HC1 := Lib.hid c1
  have HC2 := Lib.hid c2
  have HFW := Lib.hid hfw
  have hlen10 := hfew.1
  clear h hfew hwf hc hap hpb c0 c1 c2 hfw
  obtain ⟨fd, hfd⟩ : ∃ fd, fdAt p.funs fn = fd := ⟨_, rfl⟩
  rw [hfd] at HAP HCB HC0 HC1 HC2 HFW
  have HFD := Lib.hid hfd
  clear hfd
  obtain ⟨ar, vr, ba, bc, bl⟩ := fd
  obtain ⟨op, f, b, tob, other, pos, ⟨id, kind, dst, a, b2, c, f2, n, x0, x1, x2⟩⟩ := e
  dsimp only at *
  subst hn
  have hop0 : (op == 0) = false := beq_false_of_ne h0
  clear h0
  unfold Pg.val Ed.val
  dsimp only
  have HPA := Lib.hid hpa
  simp only [hpa] at HCE HCB ⊢
  clear hpa
  obtain ⟨PL, hPL⟩ : ∃ PL, p.funs.length = PL := ⟨_, rfl⟩
  obtain ⟨BL, hBL⟩ : ∃ BL, bl.length = BL := ⟨_, rfl⟩
  have HPL := Lib.hid hPL
  simp only [hPL, hBL] at hn2 HC2 hlen10 HCE HCB ⊢
  clear hPL hBL
  have hfi : (fn : Int) < (PL : Int) := by omega
  have HBb := Lib.hid (below3 w (.cells #[.slice (some ⟨pb, po, none⟩) PL p.pc] 24) (.cells #[.int .i64 op, .int .i64 (fn : Nat), .int .i64 b, .int .i64 tob, .int .i64 other, .int .i64 pos, .int .i64 id, .int .i64 kind, .int .i64 dst, .int .i64 a, .int .i64 b2, .int .i64 c, .int .i64 f2, .int .i64 n, .int .i64 x0, .int .i64 x1, .int .i64 x2] 55) (.cells #[.slice none 0 0] 24))
  have hx0 := BoxL.new w [.slice (some ⟨pb, po, none⟩) PL p.pc] 24
  have HX0 := Lib.hid (show BoxL (((w.alloc (.cells #[.slice (some ⟨pb, po, none⟩) PL p.pc] 24)).alloc (.cells #[.int .i64 op, .int .i64 (fn : Nat), .int .i64 b, .int .i64 tob, .int .i64 other, .int .i64 pos, .int .i64 id, .int .i64 kind, .int .i64 dst, .int .i64 a, .int .i64 b2, .int .i64 c, .int .i64 f2, .int .i64 n, .int .i64 x0, .int .i64 x1, .int .i64 x2] 55)).alloc (.cells #[.slice none 0 0] 24)) (w.heap.size) [.slice (some ⟨pb, po, none⟩) PL p.pc] from ((hx0).alloc (Nat.zero_lt_succ _) (.cells #[.int .i64 op, .int .i64 (fn : Nat), .int .i64 b, .int .i64 tob, .int .i64 other, .int .i64 pos, .int .i64 id, .int .i64 kind, .int .i64 dst, .int .i64 a, .int .i64 b2, .int .i64 c, .int .i64 f2, .int .i64 n, .int .i64 x0, .int .i64 x1, .int .i64 x2] 55)).alloc (Nat.zero_lt_succ _) (.cells #[.slice none 0 0] 24))
  have hx1 := BoxL.new (w.alloc (.cells #[.slice (some ⟨pb, po, none⟩) PL p.pc] 24)) [.int .i64 op, .int .i64 (fn : Nat), .int .i64 b, .int .i64 tob, .int .i64 other, .int .i64 pos, .int .i64 id, .int .i64 kind, .int .i64 dst, .int .i64 a, .int .i64 b2, .int .i64 c, .int .i64 f2, .int .i64 n, .int .i64 x0, .int .i64 x1, .int .i64 x2] 55
  rw [World.size_alloc] at hx1
  have HX1 := Lib.hid (show BoxL (((w.alloc (.cells #[.slice (some ⟨pb, po, none⟩) PL p.pc] 24)).alloc (.cells #[.int .i64 op, .int .i64 (fn : Nat), .int .i64 b, .int .i64 tob, .int .i64 other, .int .i64 pos, .int .i64 id, .int .i64 kind, .int .i64 dst, .int .i64 a, .int .i64 b2, .int .i64 c, .int .i64 f2, .int .i64 n, .int .i64 x0, .int .i64 x1, .int .i64 x2] 55)).alloc (.cells #[.slice none 0 0] 24)) (w.heap.size + 1) [.int .i64 op, .int .i64 (fn : Nat), .int .i64 b, .int .i64 tob, .int .i64 other, .int .i64 pos, .int .i64 id, .int .i64 kind, .int .i64 dst, .int .i64 a, .int .i64 b2, .int .i64 c, .int .i64 f2, .int .i64 n, .int .i64 x0, .int .i64 x1, .int .i64 x2] from (hx1).alloc (Nat.zero_lt_succ _) (.cells #[.slice none 0 0] 24))
  have hx2 := BoxL.new ((w.alloc (.cells #[.slice (some ⟨pb, po, none⟩) PL p.pc] 24)).alloc (.cells #[.int .i64 op, .int .i64 (fn : Nat), .int .i64 b, .int .i64 tob, .int .i64 other, .int .i64 pos, .int .i64 id, .int .i64 kind, .int .i64 dst, .int .i64 a, .int .i64 b2, .int .i64 c, .int .i64 f2, .int .i64 n, .int .i64 x0, .int .i64 x1, .int .i64 x2] 55)) [.slice none 0 0] 24
  rw [World.size_alloc, World.size_alloc] at hx2
  have HX2 := Lib.hid (show BoxL (((w.alloc (.cells #[.slice (some ⟨pb, po, none⟩) PL p.pc] 24)).alloc (.cells #[.int .i64 op, .int .i64 (fn : Nat), .int .i64 b, .int .i64 tob, .int .i64 other, .int .i64 pos, .int .i64 id, .int .i64 kind, .int .i64 dst, .int .i64 a, .int .i64 b2, .int .i64 c, .int .i64 f2, .int .i64 n, .int .i64 x0, .int .i64 x1, .int .i64 x2] 55)).alloc (.cells #[.slice none 0 0] 24)) (w.heap.size + 1 + 1) [.slice none 0 0] from hx2)
  clear hx0 hx1 hx2
  have HRW := Lib.hid (HRD0.out.on HBb.out)
  generalize hW : (((w.alloc (.cells #[.slice (some ⟨pb, po, none⟩) PL p.pc] 24)).alloc (.cells #[.int .i64 op, .int .i64 (fn : Nat), .int .i64 b, .int .i64 tob, .int .i64 other, .int .i64 pos, .int .i64 id, .int .i64 kind, .int .i64 dst, .int .i64 a, .int .i64 b2, .int .i64 c, .int .i64 f2, .int .i64 n, .int .i64 x0, .int .i64 x1, .int .i64 x2] 55)).alloc (.cells #[.slice none 0 0] 24)) = W at HBb HX0 HX1 HX2 HRW
  obtain ⟨g, hg⟩ : ∃ g, w.heap.size = g := ⟨_, rfl⟩
  have HGL := Lib.hid HBb.out.size
  rw [hg] at HBb HGL HX0 HX1 HX2 HPB
  have HL0 := Lib.hid (HX0.out.lt (Nat.zero_lt_succ _))
  have HL1 := Lib.hid (HX1.out.lt (Nat.zero_lt_succ _))
  have HL2 := Lib.hid (HX2.out.lt (Nat.zero_lt_succ _))
  have HC : Hid (∀ wr, Below W.heap.size W wr → wr.cell? ⟨g, 0, none⟩ = some (.slice (some ⟨pb, po, none⟩) PL p.pc) ∧ wr.cell? ⟨g + 1, 0, none⟩ = some (.int .i64 op) ∧ wr.cell? ⟨g + 1, 1, none⟩ = some (.int .i64 (fn : Nat)) ∧ wr.cell? ⟨g + 1, 2, none⟩ = some (.int .i64 b) ∧ wr.cell? ⟨g + 1, 3, none⟩ = some (.int .i64 tob) ∧ wr.cell? ⟨g + 1 + 1, 0, none⟩ = some (.slice none 0 0) ∧ wr.frozen? ⟨g + 1 + 1, 0, none⟩ = false ∧ wr.cell? ⟨pb, po + fn * 3, none⟩ = some (.int .i64 ar) ∧ wr.cell? ⟨pb, po + fn * 3 + 1, none⟩ = some (.int .i64 vr) ∧ wr.cell? ⟨pb, po + fn * 3 + 2, none⟩ = some (.slice ba BL bc) ∧ wr.rangeAt (g + 1) 0 [.int .i64 op, .int .i64 (fn : Nat), .int .i64 b, .int .i64 tob, .int .i64 other, .int .i64 pos, .int .i64 id, .int .i64 kind, .int .i64 dst, .int .i64 a, .int .i64 b2, .int .i64 c, .int .i64 f2, .int .i64 n, .int .i64 x0, .int .i64 x1, .int .i64 x2]) := Lib.hid fun wr hb => ⟨((HX0.out.below hb HL0.out) 0 _ rfl).1, ((HX1.out.below hb HL1.out) 0 _ rfl).1, ((HX1.out.below hb HL1.out) 1 _ rfl).1, ((HX1.out.below hb HL1.out) 2 _ rfl).1, ((HX1.out.below hb HL1.out) 3 _ rfl).1, ((HX2.out.below hb HL2.out) 0 _ rfl).1, ((HX2.out.below hb HL2.out) 0 _ rfl).2, ((HBb.out.trans (hb.mono HGL.out)).cell (p := ⟨pb, po + fn * 3, none⟩) HPB.out).trans HC0.out, ((HBb.out.trans (hb.mono HGL.out)).cell (p := ⟨pb, po + fn * 3 + 1, none⟩) HPB.out).trans HC1.out, ((HBb.out.trans (hb.mono HGL.out)).cell (p := ⟨pb, po + fn * 3 + 2, none⟩) HPB.out).trans HC2.out, (HX1.out.below hb HL1.out).range⟩
  have HBN : Hid (Below W.heap.size W W) := Lib.hid (Below.refl _ _)
  obtain ⟨m0, m1, m2, m3, m4, m5, m6, m7, m8, m9, -⟩ := HC.out _ HBN.out
  go_enter Tryz.func49, Tryz.ntmps49
  go_upto_region 6 with (first
    | (go_at_call 39; refine (HCE.out _ (HRW.out.on HBN.out)).mono ?_; rintro e wd ⟨rfl, hbn⟩; have hbx := HBN.out.trans (hbn.mono HBN.out.size); clear HBN hbn m0 m1 m2 m3 m4 m5 m6 m7 m8 m9; have HBN := Lib.hid hbx; clear hbx; obtain ⟨m0, m1, m2, m3, m4, m5, m6, m7, m8, m9, -⟩ := HC.out _ HBN.out)
    | ((with_reducible apply wpList_load_w (ty := 55) (b := g + 1) (o := 0) (cs := [.int .i64 op, .int .i64 (fn : Nat), .int .i64 b, .int .i64 tob, .int .i64 other, .int .i64 pos, .int .i64 id, .int .i64 kind, .int .i64 dst, .int .i64 a, .int .i64 b2, .int .i64 c, .int .i64 f2, .int .i64 n, .int .i64 x0, .int .i64 x1, .int .i64 x2])); rotate_left; rfl; rfl; exact (HC.out _ HBN.out).2.2.2.2.2.2.2.2.2.2; exact Tryz.underlying55; rfl; kernel_rfl; rotate_left; rfl; simp only [Act.put, List.setIfInBounds_toArray, List.set_cons_zero, List.set_cons_succ]))
  go_upto_region 7 with fail
  have hx3 := BoxL.new wd [.int .i64 ar, .int .i64 vr, .slice ba BL bc] 29
  have hbx := HBN.out.trans ((below1 wd (.cells #[.int .i64 ar, .int .i64 vr, .slice ba BL bc] 29)).mono HBN.out.size)
  have HX3 := Lib.hid (show BoxL (wd.alloc (.cells #[.int .i64 ar, .int .i64 vr, .slice ba BL bc] 29)) wd.heap.size [.int .i64 ar, .int .i64 vr, .slice ba BL bc] from hx3)
  have HGW := Lib.hid HBN.out.size
  clear hx3 HBN m0 m1 m2 m3 m4 m5 m6 m7 m8 m9
  have HBN := Lib.hid hbx
  clear hbx
  have HLF := Lib.hid (HX3.out.lt (Nat.zero_lt_succ _))
  generalize wd.alloc (.cells #[.int .i64 ar, .int .i64 vr, .slice ba BL bc] 29) = W3 at *
  generalize wd.heap.size = gf at *
  obtain ⟨m0, m1, m2, m3, m4, m5, m6, m7, m8, m9, -⟩ := HC.out _ HBN.out
  have HCW := Lib.hid (HCB.out W3 g (HRW.out.on HBN.out) (by have h := HRD0.out.1; rw [hg] at h; exact h.below (HBb.out.trans (HBN.out.mono HGL.out))) (Nat.le_trans HGL.out HBN.out.size))
  go_upto_region 8 with (first
    | (go_at_call 84; refine HCW.out.mono ?_; rintro r w4 ⟨l2, a2, cap2, rfl, hi, hw, hwf2, hd, hb4, hq⟩; have HX4 := Lib.hid (HX3.out.below hb4 HLF.out); have hbx := HBN.out.trans (hb4.mono HBN.out.size); have HI := Lib.hid hi; have HW := Lib.hid hw; have HWF2 := Lib.hid hwf2; have HD := Lib.hid hd; have HQ := Lib.hid hq; have HS3 := Lib.hid (Nat.le_trans HBN.out.size (Nat.le_refl _)); clear hi hw hwf2 hd hb4 hq HBN HX3 m0 m1 m2 m3 m4 m5 m6 m7 m8 m9; have HBN := Lib.hid hbx; clear hbx; obtain ⟨m0, m1, m2, m3, m4, m5, m6, m7, m8, m9, -⟩ := HC.out _ HBN.out; obtain ⟨s0, -⟩ := HX4.out 0 _ rfl; obtain ⟨s1, -⟩ := HX4.out 1 _ rfl; obtain ⟨s2, s3⟩ := HX4.out 2 _ rfl)
    | ((with_reducible apply wpList_load_w (ty := 55) (b := g + 1) (o := 0) (cs := [.int .i64 op, .int .i64 (fn : Nat), .int .i64 b, .int .i64 tob, .int .i64 other, .int .i64 pos, .int .i64 id, .int .i64 kind, .int .i64 dst, .int .i64 a, .int .i64 b2, .int .i64 c, .int .i64 f2, .int .i64 n, .int .i64 x0, .int .i64 x1, .int .i64 x2])); rotate_left; rfl; rfl; exact (HC.out _ HBN.out).2.2.2.2.2.2.2.2.2.2; exact Tryz.underlying55; rfl; kernel_rfl; rotate_left; rfl; simp only [Act.put, List.setIfInBounds_toArray, List.set_cons_zero, List.set_cons_succ]))
  have HX5 := Lib.hid (show BoxL (w4.setCell ⟨gf, 2, none⟩ (.slice a2 l2.length cap2)) gf [.int .i64 ar, .int .i64 vr, .slice a2 l2.length cap2] from HX4.out.put 2 (.slice a2 l2.length cap2) (Nat.lt_succ_self _))
  have HI5 := Lib.hid (blks_setFar HI.out (HQ.out gf (Nat.le_trans HGL.out HGW.out) HLF.out).1 (HQ.out gf (Nat.le_trans HGL.out HGW.out) HLF.out).2 2 (.slice a2 l2.length cap2))
  have hbx := HBN.out.setCell (p := ⟨gf, 2, none⟩) HGW.out (.slice a2 l2.length cap2)
  clear HBN HX4 HI m0 m1 m2 m3 m4 m5 m6 m7 m8 m9 s0 s1 s2 s3
  have HBN := Lib.hid hbx
  clear hbx
  generalize w4.setCell ⟨gf, 2, none⟩ (.slice a2 l2.length cap2) = W5 at *
  obtain ⟨m0, m1, m2, m3, m4, m5, m6, m7, m8, m9, -⟩ := HC.out _ HBN.out
  obtain ⟨s0, -⟩ := HX5.out 0 _ rfl
  obtain ⟨s1, -⟩ := HX5.out 1 _ rfl
  obtain ⟨s2, -⟩ := HX5.out 2 _ rfl
  have HSE := Lib.hid (set_fun (some ⟨pb, po, none⟩) (frow p.funs) PL p.pc fn ar vr a2 l2.length cap2 W5 (by rw [← HPA.out]; exact row_of_prog (HRW.out.on HBN.out).1) (by rw [frow_length, HPL.out]) (frow_one _) (by omega) hn2)
  go_wp2_with (go_at_call 85; refine HSE.out.mono ?_; rintro e w6 ⟨⟨g', rfl, hgg, hG⟩, hb6⟩; have HGG := Lib.hid (Nat.le_trans HBN.out.size hgg); have HG := Lib.hid hG; have HI6 := Lib.hid (BlksIs.on HI5.out hb6); have hbx := HBN.out.trans (hb6.mono HBN.out.size); clear hgg hG hb6 HBN HX5 HI5 HSE s0 s1 s2 m0 m1 m2 m3 m4 m5 m6 m7 m8 m9; have HBN := Lib.hid hbx; clear hbx; obtain ⟨m0, m1, m2, m3, m4, m5, m6, m7, m8, m9, -⟩ := HC.out _ HBN.out)
  refine bodyPost_ret (ret_box rfl _ _ (g + 1 + 1) [.slice (some ⟨g', 0, none⟩) PL PL] _ _ rfl rfl ?_ Tryz.underlying24 rfl (by kernel_rfl)) rfl ?_
  · exact BoxL.put (cs := [.slice none 0 0]) (HX2.out.below HBN.out HL2.out) 0 _ (Nat.zero_lt_succ _)
  · have hlen : (p.funs.set fn (⟨ar, vr, a2, cap2, l2⟩ : Fd)).length = PL := by rw [List.length_set, HPL.out]
    have hbF : Below w.heap.size w (w6.setCell ⟨g + 1 + 1, 0, none⟩ (.slice (some ⟨g', 0, none⟩) PL PL)) := by
      rw [hg]
      exact (HBb.out.trans (HBN.out.mono HGL.out)).setCell (p := ⟨g + 1 + 1, 0, none⟩) (show g ≤ g + 1 + 1 by omega) _
    have hl2 := HL2.out
    have hgg := HGG.out
    have hs3 := HS3.out
    have hrow : RowIs w6.heap.size w6 (some ⟨g', 0, none⟩) (frow (p.funs.set fn (⟨ar, vr, a2, cap2, l2⟩ : Fd))) := by
      have h := row_block HG.out
      have e := frow_set (l := p.funs) (k := fn) (by rw [HPL.out]; exact hn2) ⟨ar, vr, a2, cap2, l2⟩
      dsimp only at e
      rw [e] at h
      exact h
    refine ⟨⟨some ⟨g', 0, none⟩, PL, p.funs.set fn ⟨ar, vr, a2, cap2, l2⟩⟩, by dsimp only; rw [hlen]; rfl, funs_set (HRD0.out.1.on hbF) ?_ ?_, ⟨by dsimp only; rw [hlen]; exact ⟨Nat.le_refl _, fun h => nomatch h⟩, fun f hf => ?_⟩, ?_, hbF⟩
    · rw [size_set]
      exact hrow.setFar (fun p hp => by cases hp; show g' ≠ _; omega) _ _
    · exact blks_setFar HI6.out (HQ.out (g + 1 + 1) (by omega) (by omega)).1 (HQ.out (g + 1 + 1) (by omega) (by omega)).2 _ _
    · rcases List.mem_or_eq_of_mem_set hf with h | h
      · exact HWFP.out.2 f h
      · subst h
        exact ⟨HWF2.out, HW.out⟩
    · rw [HAP.out]
      have hd := HD.out
      simp only [Pg.d, List.map_set, Fd.d, funA, hd]

/-- Apply, whole. -/
theorem Apply_any (p : Pg) (e : Ed) (w : World) (h : Rd w p) (hfew : p.few) (hwf : p.wf) :
    Calls Tryz.prog 49 #[p.val, e.val] w fun x w' => AppRes p e w w' x := by
  by_cases hc : chk p e = 0
  · by_cases h0 : e.op = 0
    · exact applyA p e w h hfew hwf hc h0
    · exact applyB p e w h hfew hwf hc h0
  · exact applyE p e w h hfew hwf hc
end Go.Proofs.YtbddjneinfkmpaaGreatDoor
