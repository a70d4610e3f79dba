/- ProgParts: its walk where there is such a block. -/
import Derived.Test.YtdhdpfloaelngaaDoorPgY
import Derived.Test.YtdhdpfloaelngaaDoorPgZ
namespace Go.Proofs.YtdhdpfloaelngaaDoor
open Go Go.RowKit Go.Sort

set_option maxRecDepth 100000 in
set_option maxHeartbeats 16000000 in
theorem ppC2 (p : Pg) (f b k : Int) (w : World) (hp : PgIs w.heap.size w p) (hT : KTab w) (hE : ETab w) (hfew : p.few) (hs : p.sane) (n : Nat) (hfn : f = (n : Int)) (hn : n < p.funs.length) (m : Nat) (hbm : b = (m : Int)) (hm : m < (fdAt p.funs n).blocks.length) (hlv : (blkAt (fdAt p.funs n).blocks m).live = true) (hk0 : 0 ≤ k) (hk : ((blkAt (fdAt p.funs n).blocks m).code.length : Int) ≤ k) :
    Calls Tryd.prog 6 #[p.val, .int .i64 f, .int .i64 b, .int .i64 k] w fun e w' => e = .returned (.bool true) ∧ Below w.heap.size w w' := by
  subst hfn
  subst hbm
  obtain ⟨hrf, hxe⟩ := funR_in hs hn
  have hrb : blkB p (n : Int) (m : Int) = true := by
    rw [blkB_iff, hxe]
    exact ⟨by omega, by omega, by simpa using hlv⟩
  have hye : blkR p (n : Int) (m : Int) = blkAt (fdAt p.funs n).blocks m := by
    unfold blkR
    rw [hrb, hxe]
    simp
  have hra : atB p (n : Int) (m : Int) k = false := by
    unfold atB
    rw [hye]
    have h : ¬ k < ((blkAt (fdAt p.funs n).blocks m).code.length : Int) := by omega
    simp [h]
  have HN := Lib.hid hn
  have hb20 := (hfew.f n).1
  have hc30 := ((hfew.f n).b m).1
  have hmi : (m : Int) < ((fdAt p.funs n).blocks.length : Int) := by omega
  obtain ⟨x, hx⟩ : ∃ x, funR p (n : Int) = x := ⟨_, rfl⟩
  obtain ⟨y, hy⟩ : ∃ y, blkR p (n : Int) (m : Int) = y := ⟨_, rfl⟩
  obtain ⟨i, hi⟩ : ∃ i, atR p (n : Int) (m : Int) k = i := ⟨_, rfl⟩
  have HH := Lib.hid (Here.new w p hp hT hE)
  have HB1 := Lib.hid (below1 w (.cells #[.slice p.pa p.funs.length p.pc] 24))
  have HA := Lib.hid (fun W (h : Here W p w.heap.size) => awake_any W h.2.1 h.2.2.1)
  have HFE := Lib.hid (fun W (h : Here W p w.heap.size) => Few_any p W h.1 true (by simp [hfew]))
  have HSA := Lib.hid (fun W (h : Here W p w.heap.size) => Sane_any p W h.1 h.2.1 h.2.2.1 hfew true (by simp [hs]))
  have HFU := Lib.hid (fun W (h : Here W p w.heap.size) => Fun_any p (n : Int) W h.1 h.2.1 h.2.2.1 hfew x hx _ hrf)
  have HBK := Lib.hid (fun W (h : Here W p w.heap.size) => Block_any p (n : Int) (m : Int) W h.1 h.2.1 h.2.2.1 hfew y hy _ hrb)
  have HAT := Lib.hid (fun W (h : Here W p w.heap.size) => At_any p (n : Int) (m : Int) k W h.1 h.2.1 h.2.2.1 hfew i hi _ hra)
  have HBX := Lib.hid (fun W (h : Here W p w.heap.size) => h.bx)
  have hlen := hfew.1
  have HXE := Lib.hid (hxe.symm.trans hx)
  have HYE := Lib.hid (hye.symm.trans hy)
  clear hp hT hE hfew hs hrf hrb hra hx hxe hy hye hi hn
  unfold Pg.val Fd.val Blk.val Ins.val at *
  obtain ⟨PL, hPL⟩ : ∃ PL, p.funs.length = PL := ⟨_, rfl⟩
  have HPL := Lib.hid hPL
  simp only [hPL] at HB1 HH HA HFE HSA HFU HBK HAT HBX hlen ⊢
  clear hPL
  obtain ⟨pa, pc, fs⟩ := p
  dsimp only at *
  obtain ⟨pb, po, hpa, -⟩ := HH.out.1 n HN.out
  dsimp only at hpa
  subst hpa
  have hni : (n : Int) < (PL : Int) := by have := HN.out; rw [HPL.out] at this; omega

  generalize hE : w.alloc (.cells #[.slice (some ⟨pb, po, none⟩) PL pc] 24) = W at HB1 HH
  obtain ⟨g, hg⟩ : ∃ g, w.heap.size = g := ⟨_, rfl⟩
  have HGL := Lib.hid HB1.out.size
  rw [hg] at HB1 HH HA HFE HSA HFU HBK HAT HBX HGL ⊢
  have k0 := HBX.out _ HH.out
  rw [HXE.out] at hb20 hm hlv hmi hc30 HYE hk
  obtain ⟨ar, vr, ba, bc, bl⟩ := x
  dsimp only at HYE
  rw [HYE.out] at hlv hc30 hk
  obtain ⟨lv, ca, cc, code, sa, sc, succ⟩ := y
  obtain ⟨i0, i1, i2, i3, i4, i5, i6, i7, i8, i9, i10⟩ := i
  dsimp only at *
  obtain ⟨BL, hBL⟩ : ∃ BL, bl.length = BL := ⟨_, rfl⟩
  obtain ⟨CL, hCL⟩ : ∃ CL, code.length = CL := ⟨_, rfl⟩
  obtain ⟨SL, hSL⟩ : ∃ SL, succ.length = SL := ⟨_, rfl⟩
  have HM := Lib.hid hm
  have HLV := Lib.hid hlv
  obtain ⟨-, -, -, -, -, -, -, hfd0⟩ := HH.out.1 n HN.out
  dsimp only at hfd0
  rw [HXE.out] at hfd0
  obtain ⟨bb, bo, hba, -, -, -, -, hbk0⟩ := hfd0 m hm
  dsimp only at hba hbk0
  subst hba
  rw [HYE.out] at hbk0
  clear hfd0 hbk0 hm hlv
  simp only [hBL, hCL, hSL] at HFU HBK
  rw [hBL] at hb20 hmi
  rw [hCL] at hc30 hk
  have hdk : decide (k < (CL : Int)) = false := decide_eq_false (by omega)
  have HBL := Lib.hid hBL
  have HCL := Lib.hid hCL
  clear hBL hCL hSL
  have HH0 := HH
  have HB0 := HB1
  have HG0 := HGL
  clear HH HB1 HGL
  go_enter Tryd.func6, Tryd.ntmps6
  go_wp2_with (first | (go_at_call 7; refine (HA.out _ HH0.out).mono ?_; rintro e wa ⟨rfl, hba⟩; have hbx := hba; have HHa := Lib.hid (HH0.out.on hbx); have HBa := Lib.hid (HB0.out.trans (hbx.mono HG0.out)); have HGa := Lib.hid (Nat.le_trans HG0.out hbx.size); clear hba hbx HH0 HB0 HG0 k0; have k0 := HBX.out _ HHa.out) | (go_at_call 8; refine (HFE.out _ HHa.out).mono ?_; rintro e wb ⟨rfl, hbb⟩; have hbx := hbb; have HHb := Lib.hid (HHa.out.on hbx); have HBb := Lib.hid (HBa.out.trans (hbx.mono HGa.out)); have HGb := Lib.hid (Nat.le_trans HGa.out hbx.size); clear hbb hbx HHa HBa HGa k0; have k0 := HBX.out _ HHb.out) | (go_at_call 9; refine (HSA.out _ HHb.out).mono ?_; rintro e wc ⟨rfl, hbc⟩; have hbx := hbc; have HHc := Lib.hid (HHb.out.on hbx); have HBc := Lib.hid (HBb.out.trans (hbx.mono HGb.out)); have HGc := Lib.hid (Nat.le_trans HGb.out hbx.size); clear hbc hbx HHb HBb HGb k0; have k0 := HBX.out _ HHc.out) | (go_at_call 10; refine (HFU.out _ HHc.out).mono ?_; rintro e wd ⟨rfl, hbd⟩; have hbx := hbd.alloc hbd.size (.cells #[.int .i64 ar, .int .i64 vr, .slice (some ⟨bb, bo, none⟩) BL bc] 29); have HHd := Lib.hid (HHc.out.on hbx); have HBd := Lib.hid (HBc.out.trans (hbx.mono HGc.out)); have HGd := Lib.hid (Nat.le_trans HGc.out hbx.size); have HX := Lib.hid (show BoxL (wd.alloc (.cells #[.int .i64 ar, .int .i64 vr, .slice (some ⟨bb, bo, none⟩) BL bc] 29)) wd.heap.size [.int .i64 ar, .int .i64 vr, .slice (some ⟨bb, bo, none⟩) BL bc] from BoxL.new wd _ 29); clear hbd hbx HHc HBc HGc k0; have k0 := HBX.out _ HHd.out) | (go_at_call 12; refine (HBK.out _ HHd.out).mono ?_; rintro e we ⟨rfl, hbe⟩; have hbx := hbe.alloc hbe.size (.cells #[.bool lv, .slice ca CL cc, .slice sa SL sc] 36); have HHe := Lib.hid (HHd.out.on hbx); have HBe := Lib.hid (HBd.out.trans (hbx.mono HGd.out)); have HGe := Lib.hid (Nat.le_trans HGd.out hbx.size); have HX2 := Lib.hid (HX.out.below hbx (HX.out.lt (Nat.zero_lt_succ _))); clear HX; have HX := HX2; clear HX2; have HY := Lib.hid (show BoxL (we.alloc (.cells #[.bool lv, .slice ca CL cc, .slice sa SL sc] 36)) we.heap.size [.bool lv, .slice ca CL cc, .slice sa SL sc] from BoxL.new we _ 36); clear hbe hbx HHd HBd HGd k0; have k0 := HBX.out _ HHe.out) | (go_at_call 18; refine (HAT.out _ HHe.out).mono ?_; rintro e wf ⟨rfl, hbf⟩; have hbx := hbf.alloc hbf.size (.cells #[.int .i64 i0, .int .i64 i1, .int .i64 i2, .int .i64 i3, .int .i64 i4, .int .i64 i5, .int .i64 i6, .int .i64 i7, .int .i64 i8, .int .i64 i9, .int .i64 i10] 45); have HHf := Lib.hid (HHe.out.on hbx); have HBf := Lib.hid (HBe.out.trans (hbx.mono HGe.out)); have HGf := Lib.hid (Nat.le_trans HGe.out hbx.size); have HX2 := Lib.hid (HX.out.below hbx (HX.out.lt (Nat.zero_lt_succ _))); clear HX; have HX := HX2; clear HX2; have HY2 := Lib.hid (HY.out.below hbx (HY.out.lt (Nat.zero_lt_succ _))); clear HY; have HY := HY2; clear HY2; have HI := Lib.hid (show BoxL (wf.alloc (.cells #[.int .i64 i0, .int .i64 i1, .int .i64 i2, .int .i64 i3, .int .i64 i4, .int .i64 i5, .int .i64 i6, .int .i64 i7, .int .i64 i8, .int .i64 i9, .int .i64 i10] 45)) wf.heap.size [.int .i64 i0, .int .i64 i1, .int .i64 i2, .int .i64 i3, .int .i64 i4, .int .i64 i5, .int .i64 i6, .int .i64 i7, .int .i64 i8, .int .i64 i9, .int .i64 i10] from BoxL.new wf _ 45); clear hbf hbx HHe HBe HGe k0; have k0 := HBX.out _ HHf.out; obtain ⟨_, _, e_, -, c0_, c1_, c2_, hfd_⟩ := HHf.out.1 n HN.out; cases e_; rw [HXE.out] at c0_ c1_ c2_ hfd_; dsimp only at c0_ c1_ c2_ hfd_; rw [HBL.out] at c2_; have c0 := c0_; have c1 := c1_; have c2 := c2_; obtain ⟨_, _, e2_, -, d0_, d1_, d2_, hbk_⟩ := hfd_ m HM.out; cases e2_; rw [HYE.out] at d0_ d1_ d2_ hbk_; dsimp only at d0_ d1_ d2_ hbk_; rw [HLV.out] at d0_; rw [HCL.out] at d1_; have d0 := d0_; have d1 := d1_; clear c0_ c1_ c2_ hfd_ d0_ d1_ d2_ hbk_))
  go_quiet (fail)
  go_wp2_with fail
  have hq := below_drewN (Below.refl (wf.alloc (.cells #[.int .i64 i0, .int .i64 i1, .int .i64 i2, .int .i64 i3, .int .i64 i4, .int .i64 i5, .int .i64 i6, .int .i64 i7, .int .i64 i8, .int .i64 i9, .int .i64 i10] 45)).heap.size (wf.alloc (.cells #[.int .i64 i0, .int .i64 i1, .int .i64 i2, .int .i64 i3, .int .i64 i4, .int .i64 i5, .int .i64 i6, .int .i64 i7, .int .i64 i8, .int .i64 i9, .int .i64 i10] 45))) nq
  have HHq := Lib.hid (HHf.out.on hq)
  have HBq := Lib.hid (HBf.out.trans (hq.mono HGf.out))
  have HGq := Lib.hid (Nat.le_trans HGf.out hq.size)
  have HXq := Lib.hid (HX.out.below hq (HX.out.lt (Nat.zero_lt_succ _)))
  have HYq := Lib.hid (HY.out.below hq (HY.out.lt (Nat.zero_lt_succ _)))
  clear hq k0 HHf HBf HGf HX HY HI c0 c1 c2 d0 d1
  generalize (wf.alloc (.cells #[.int .i64 i0, .int .i64 i1, .int .i64 i2, .int .i64 i3, .int .i64 i4, .int .i64 i5, .int .i64 i6, .int .i64 i7, .int .i64 i8, .int .i64 i9, .int .i64 i10] 45)).drewN nq = WL at HHq HBq HGq HXq HYq ⊢
  have k0 := HBX.out _ HHq.out
  obtain ⟨_, _, e_, -, c0_, c1_, c2_, hfd_⟩ := HHq.out.1 n HN.out
  cases e_
  rw [HXE.out] at c0_ c1_ c2_ hfd_
  dsimp only at c0_ c1_ c2_ hfd_
  rw [HBL.out] at c2_
  have c0 := c0_
  have c1 := c1_
  have c2 := c2_
  obtain ⟨_, _, e2_, -, d0_, d1_, d2_, hbk_⟩ := hfd_ m HM.out
  cases e2_
  rw [HYE.out] at d0_ d1_ d2_ hbk_
  dsimp only at d0_ d1_ d2_ hbk_
  rw [HLV.out] at d0_
  rw [HCL.out] at d1_
  have d0 := d0_
  have d1 := d1_
  clear c0_ c1_ c2_ hfd_ d0_ d1_ d2_ hbk_
  have x0 := (HXq.out 0 _ rfl).1
  have x1 := (HXq.out 1 _ rfl).1
  have y1 := (HYq.out 1 _ rfl).1
  go_quiet (fail)
  go_wp2_with fail
  go_ret
  exact ⟨rfl, below_drewN HBq.out _⟩

end Go.Proofs.YtdhdpfloaelngaaDoor
