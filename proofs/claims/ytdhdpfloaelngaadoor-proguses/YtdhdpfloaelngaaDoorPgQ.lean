/- Programs: Block. -/
import Derived.Test.YtdhdpfloaelngaaDoorPgP
namespace Go.Proofs.YtdhdpfloaelngaaDoor
open Go Go.RowKit Go.Sort

theorem funR_is {B : Nat} {W : World} {p : Pg} (h : PgIs B W p) (f : Int) : FdIs B W (funR p f) := by
  unfold funR
  split
  · rename_i hb
    unfold funB at hb
    simp at hb
    obtain ⟨k, rfl⟩ := Int.eq_ofNat_of_zero_le hb.1.1
    obtain ⟨-, -, -, -, -, -, -, hk⟩ := h k (by omega)
    simpa using hk
  · intro j hj
    simp [Fd.none] at hj
theorem funR_few {p : Pg} (h : p.few) (f : Int) : fewF (funR p f) := by
  unfold funR
  split
  · exact h.f _
  · exact ⟨by simp [Fd.none], fun k hk => by simp [Fd.none] at hk⟩
theorem funR_none {p : Pg} {f : Int} (h : funB p f = false) : funR p f = Fd.none := by unfold funR; simp [h]
theorem blkB_iff (p : Pg) (f b : Int) : blkB p f b = true ↔ liveAt (funR p f).blocks b := by
  unfold blkB liveAt
  simp [and_assoc]
theorem blkB_none {p : Pg} {f : Int} (h : funB p f = false) (b : Int) : blkB p f b = false := by
  unfold blkB
  rw [funR_none h]
  by_cases h0 : 0 ≤ b
  · have h1 : ¬ b < ((Fd.none.blocks.length : Nat) : Int) := by simp [Fd.none]; omega
    simp [h1]
  · simp [h0]

set_option maxRecDepth 100000 in
set_option maxHeartbeats 4000000 in
theorem Block_any (p : Pg) (f b : Int) (w : World) (hp : PgIs w.heap.size w p) (hT : KTab w) (hE : ETab w) (hfew : p.few) (y : Blk) (hy : blkR p f b = y) (r : Bool) (hr : blkB p f b = r) :
    Calls Tryd.prog 12 #[p.val, .int .i64 f, .int .i64 b] w fun e w' => e = .returned (.tuple #[y.val, .bool r]) ∧ Below w.heap.size w w' := by
  have HB2 := Lib.hid (below2 w (.cells #[.slice p.pa p.funs.length p.pc] 24) (.cells #[.bool false, .slice none 0 0, .slice none 0 0] 36))
  have h1 := BoxL.new w [.slice p.pa p.funs.length p.pc] 24
  have h2 := BoxL.new (w.alloc (.cells #[.slice p.pa p.funs.length p.pc] 24)) [.bool false, .slice none 0 0, .slice none 0 0] 36
  rw [World.size_alloc] at h2
  have HX1 := Lib.hid (h1.alloc (Nat.zero_lt_succ _) (.cells #[.bool false, .slice none 0 0, .slice none 0 0] 36))
  have HX2 := Lib.hid h2
  have HSZ : Hid (((w.alloc (.cells #[.slice p.pa p.funs.length p.pc] 24)).alloc (.cells #[.bool false, .slice none 0 0, .slice none 0 0] 36)).heap.size = w.heap.size + 2) := Lib.hid (by simp only [World.size_alloc])
  obtain ⟨x, hx⟩ : ∃ x, funR p f = x := ⟨_, rfl⟩
  obtain ⟨rf, hrf⟩ : ∃ rf, funB p f = rf := ⟨_, rfl⟩
  have HF := Lib.hid (Fun_any p f _ (hp.on HB2.out) (hT.on HB2.out) (hE.on HB2.out) hfew x hx rf hrf)
  have HFD := Lib.hid (funR_is (hp.below HB2.out) f)
  have HFW := Lib.hid (funR_few hfew f)
  have HLV := Lib.hid (blkB_iff p f b)
  rw [hx] at HFD HFW HLV
  rw [hr] at HLV
  have HNO : Hid (rf = false → r = false) := Lib.hid fun h => by rw [← hr]; exact blkB_none (hrf.trans h) b
  have HY : Hid (y = if r then blkAt x.blocks b.toNat else Blk.none) := Lib.hid (by rw [← hy, blkR, hr, hx])
  clear h1 h2 hT hE hfew hp hx hrf hy hr
  unfold Pg.val Fd.val at *
  obtain ⟨PL, hPL⟩ : ∃ PL, p.funs.length = PL := ⟨_, rfl⟩
  simp only [hPL] at HB2 HX1 HX2 HSZ HF HFD ⊢
  clear hPL
  generalize hE : (w.alloc (.cells #[.slice p.pa PL p.pc] 24)).alloc (.cells #[.bool false, .slice none 0 0, .slice none 0 0] 36) = W at HB2 HX1 HX2 HSZ HF HFD
  obtain ⟨g, hg⟩ : ∃ g, w.heap.size = g := ⟨_, rfl⟩
  have HGL := Lib.hid HB2.out.size
  rw [hg] at HB2 HX1 HX2 HSZ HGL HFD ⊢
  have p0 := (HX1.out 0 _ rfl).1
  obtain ⟨ar, vr, ba, bc, bl⟩ := x
  dsimp only at *
  have hb20 : bl.length ≤ 20 := HFW.out.1
  obtain ⟨BL, hBL⟩ : ∃ BL, bl.length = BL := ⟨_, rfl⟩
  have HBL := Lib.hid hBL
  rw [hBL] at HF hb20
  clear hBL HFW
  cases rf with
  | false =>
    have hr0 := HNO.out rfl
    subst hr0
    have hy0 : y = Blk.none := HY.out
    subst hy0
    unfold Blk.val Blk.none
    go_enter Tryd.func12, Tryd.ntmps12
    go_wp2_with (go_at_call 10; refine HF.out.mono ?_; rintro e wa ⟨rfl, hba⟩; have HW2 := Lib.hid ((HB2.out.trans (hba.mono HGL.out)).alloc (Nat.le_trans HGL.out hba.size) (.cells #[.int .i64 ar, .int .i64 vr, .slice ba BL bc] 29)); have HX3 := Lib.hid ((HX2.out.below hba (HX2.out.lt (Nat.zero_lt_succ _))).alloc (Nat.zero_lt_succ _) (.cells #[.int .i64 ar, .int .i64 vr, .slice ba BL bc] 29)); clear hba p0; have q0 := (HX3.out 0 _ rfl).1; have q1 := (HX3.out 1 _ rfl).1; have q2 := (HX3.out 2 _ rfl).1; have z0 := (HX3.out 0 _ rfl).2; have z1 := (HX3.out 1 _ rfl).2; have z2 := (HX3.out 2 _ rfl).2)
    refine bodyPost_ret (ret_box rfl _ _ (g + 1) [.bool false, .slice none 0 0, .slice none 0 0] _ _ rfl rfl ?_ Tryd.underlying36 rfl (by kernel_rfl)) rfl ?_
    · exact HX3.out.put3 _ _ _
    · exact ⟨rfl, below_put3 HW2.out (Nat.le_succ _) _ _ _⟩
  | true =>
  clear HNO
  have HIL := Lib.hid (fun W (h : BlksIs W.heap.size W ba bl) => isLive_any ba bl bc b W h BL HBL.out r HLV.out)
  cases r with
  | false =>
    have hy0 : y = Blk.none := HY.out
    subst hy0
    unfold Blk.val Blk.none
    go_enter Tryd.func12, Tryd.ntmps12
    go_wp2_with (first | (go_at_call 10; refine HF.out.mono ?_; rintro e wa ⟨rfl, hba⟩; have HW2 := Lib.hid ((HB2.out.trans (hba.mono HGL.out)).alloc (Nat.le_trans HGL.out hba.size) (.cells #[.int .i64 ar, .int .i64 vr, .slice ba BL bc] 29)); have HX3 := Lib.hid ((HX2.out.below hba (HX2.out.lt (Nat.zero_lt_succ _))).alloc (Nat.zero_lt_succ _) (.cells #[.int .i64 ar, .int .i64 vr, .slice ba BL bc] 29)); have HBI := Lib.hid (((HFD.out.below (hba.mono HGL.out)).below (((Below.refl _ _).alloc (Nat.le_trans HGL.out hba.size) (.cells #[.int .i64 ar, .int .i64 vr, .slice ba BL bc] 29)))).mono (Nat.le_trans (Nat.le_trans HGL.out hba.size) (below1 wa (.cells #[.int .i64 ar, .int .i64 vr, .slice ba BL bc] 29)).size)); clear hba p0; have q0 := (HX3.out 0 _ rfl).1; have q1 := (HX3.out 1 _ rfl).1; have q2 := (HX3.out 2 _ rfl).1; have z0 := (HX3.out 0 _ rfl).2; have z1 := (HX3.out 1 _ rfl).2; have z2 := (HX3.out 2 _ rfl).2) | (go_at_call 25; refine (HIL.out _ HBI.out).mono ?_; rintro e wb ⟨rfl, rfl⟩))
    refine bodyPost_ret (ret_box rfl _ _ (g + 1) [.bool false, .slice none 0 0, .slice none 0 0] _ _ rfl rfl ?_ Tryd.underlying36 rfl (by kernel_rfl)) rfl ?_
    · exact HX3.out.put3 _ _ _
    · exact ⟨rfl, below_put3 HW2.out (Nat.le_succ _) _ _ _⟩
  | true =>
    obtain ⟨hl1, hl2, hl3⟩ := HLV.out.1 rfl
    obtain ⟨k, rfl⟩ := Int.eq_ofNat_of_zero_le hl1
    have hk : k < bl.length := by omega
    rw [HBL.out] at hl2
    have hy0 : y = blkAt bl k := by have := HY.out; simpa using this
    subst hy0
    obtain ⟨bb, o, hbb, hbl, c0, c1, c2, -⟩ := HFD.out k hk
    subst hbb
    obtain ⟨lv, hlv⟩ : ∃ lv, (blkAt bl k).live = lv := ⟨_, rfl⟩
    obtain ⟨ca, hca⟩ : ∃ ca, (blkAt bl k).ca = ca := ⟨_, rfl⟩
    obtain ⟨cc, hcc⟩ : ∃ cc, (blkAt bl k).cc = cc := ⟨_, rfl⟩
    obtain ⟨sa, hsa⟩ : ∃ sa, (blkAt bl k).sa = sa := ⟨_, rfl⟩
    obtain ⟨sc, hsc⟩ : ∃ sc, (blkAt bl k).sc = sc := ⟨_, rfl⟩
    obtain ⟨CL, hCL⟩ : ∃ CL, (blkAt bl k).code.length = CL := ⟨_, rfl⟩
    obtain ⟨SL, hSL⟩ : ∃ SL, (blkAt bl k).succ.length = SL := ⟨_, rfl⟩
    unfold Blk.val
    simp only [hlv, hca, hcc, hsa, hsc, hCL, hSL] at c0 c1 c2 ⊢
    have HC0 := Lib.hid c0
    have HC1 := Lib.hid c1
    have HC2 := Lib.hid c2
    have HBLT := Lib.hid hbl
    clear hlv hca hcc hsa hsc hCL hSL c0 c1 c2 hbl hl1 hl3 HY hk
    go_enter Tryd.func12, Tryd.ntmps12
    go_wp2_with (first | (go_at_call 10; refine HF.out.mono ?_; rintro e wa ⟨rfl, hba⟩; have HWA := Lib.hid ((hba.mono HGL.out).alloc (Nat.le_trans HGL.out hba.size) (.cells #[.int .i64 ar, .int .i64 vr, .slice (some ⟨bb, o, none⟩) BL bc] 29)); have HW2 := Lib.hid (HB2.out.trans HWA.out); have HX3 := Lib.hid ((HX2.out.below hba (HX2.out.lt (Nat.zero_lt_succ _))).alloc (Nat.zero_lt_succ _) (.cells #[.int .i64 ar, .int .i64 vr, .slice (some ⟨bb, o, none⟩) BL bc] 29)); have HBI := Lib.hid ((HFD.out.below HWA.out).mono (Nat.le_trans HGL.out HWA.out.size)); clear hba p0; have c0 := (HWA.out.cell (p := ⟨bb, o + k * 3, none⟩) HBLT.out).trans HC0.out; have c1 := (HWA.out.cell (p := ⟨bb, o + k * 3 + 1, none⟩) HBLT.out).trans HC1.out; have c2 := (HWA.out.cell (p := ⟨bb, o + k * 3 + 2, none⟩) HBLT.out).trans HC2.out; have q0 := (HX3.out 0 _ rfl).1; have q1 := (HX3.out 1 _ rfl).1; have q2 := (HX3.out 2 _ rfl).1; have z0 := (HX3.out 0 _ rfl).2; have z1 := (HX3.out 1 _ rfl).2; have z2 := (HX3.out 2 _ rfl).2) | (go_at_call 25; refine (HIL.out _ HBI.out).mono ?_; rintro e wb ⟨rfl, rfl⟩))
    refine bodyPost_ret (ret_box rfl _ _ (g + 1) [.bool lv, .slice ca CL cc, .slice sa SL sc] _ _ rfl rfl ?_ Tryd.underlying36 rfl (by kernel_rfl)) rfl ?_
    · exact HX3.out.put3 _ _ _
    · exact ⟨rfl, below_put3 HW2.out (Nat.le_succ _) _ _ _⟩
end Go.Proofs.YtdhdpfloaelngaaDoor
