/- Programs: Preds where none follows. -/
import Derived.Test.YtdhdpfloaelngaaDoorPgS
namespace Go.Proofs.YtdhdpfloaelngaaDoor
open Go Go.RowKit Go.Sort

set_option maxRecDepth 100000 in
set_option maxHeartbeats 4000000 in
theorem Preds0_any (p : Pg) (f b : Int) (w : World) (hp : PgIs w.heap.size w p) (hT : KTab w) (hE : ETab w) (hfew : p.few) (hl : ∀ k, k < (funR p f).blocks.length → b ∉ (blkAt (funR p f).blocks k).succ) :
    Calls Tryd.prog 11 #[p.val, .int .i64 f, .int .i64 b] w fun e w' => e = .returned (.slice none 0 0) ∧ Below w.heap.size w w' := by
  have HB1 := Lib.hid (below1 w (.cells #[.slice p.pa p.funs.length p.pc] 24))
  obtain ⟨x, hx⟩ : ∃ x, funR p f = x := ⟨_, rfl⟩
  obtain ⟨rf, hrf⟩ : ∃ rf, funB p f = rf := ⟨_, rfl⟩
  have HF := Lib.hid (Fun_any p f _ (hp.on HB1.out) (hT.on HB1.out) (hE.on HB1.out) hfew x hx rf hrf)
  have HFD := Lib.hid (funR_is hp f)
  have HFW := Lib.hid (funR_few hfew f)
  have HL := Lib.hid hl
  rw [hx] at HFD HFW HL
  clear hT hE hfew hp hx hrf hl
  unfold Pg.val Fd.val at *
  obtain ⟨ar, vr, ba, bc, bl⟩ := x
  dsimp only at *
  have hb20 : bl.length ≤ 20 := HFW.out.1
  have HFB := Lib.hid (fun k => HFW.out.b k)
  dsimp only at HFB
  obtain ⟨BL, hBL⟩ : ∃ BL, bl.length = BL := ⟨_, rfl⟩
  have HBL := Lib.hid hBL
  rw [hBL] at HF hb20 HL
  clear hBL HFW
  go_enter Tryd.func11, Tryd.ntmps11
  go_wp2_with (go_at_call 10; refine HF.out.mono ?_; rintro e wa ⟨rfl, hba⟩; have HW2 := Lib.hid ((HB1.out.trans (hba.mono HB1.out.size)).alloc (Nat.le_trans HB1.out.size hba.size) (.cells #[.int .i64 ar, .int .i64 vr, .slice ba BL bc] 29)); clear hba)
  go_loopw [9, 21] (fun v i wr => ∃ q : Nat, q ≤ BL ∧ i = .int .i64 q ∧ v = .slice none 0 0 ∧ Hid (Below w.heap.size w wr)) (fun _ i _ => BL - (intOf i).toNat)
  case atStart => exact ⟨0, Nat.zero_le _, rfl, rfl, HW2⟩
  case round =>
    obtain ⟨q, hq, rfl, rfl, hBw⟩ := hrel
    by_cases hlt : q < BL
    · obtain ⟨g, o, rfl, hgl, c0, c1, c2, hbk⟩ := (HFD.out.below hBw.out) q (by rw [HBL.out]; exact hlt)
      have hin := HL.out q hlt
      have hs30 := (HFB.out q).2
      have HSI := Lib.hid (hbk.2.below (((Below.refl w.heap.size wr).alloc hBw.out.size (.cells #[.bool (blkAt bl q).live, .slice (blkAt bl q).ca (blkAt bl q).code.length (blkAt bl q).cc, .slice (blkAt bl q).sa (blkAt bl q).succ.length (blkAt bl q).sc] 36))))
      clear hbk hgl
      obtain ⟨bk, hbkq⟩ : ∃ bk, blkAt bl q = bk := ⟨_, rfl⟩
      simp only [hbkq] at c0 c1 c2 hin hs30 HSI
      clear hbkq
      obtain ⟨lv, ca, cc, code, sa, sc, succ⟩ := bk
      dsimp only at c0 c1 c2 hin hs30 HSI
      obtain ⟨SL, hSL⟩ : ∃ SL, succ.length = SL := ⟨_, rfl⟩
      obtain ⟨CL, hCL⟩ : ∃ CL, code.length = CL := ⟨_, rfl⟩
      rw [hSL] at c2 hs30
      rw [hCL] at c1
      simp only [hSL, hCL] at HSI
      have HSL := Lib.hid hSL
      clear hSL hCL
      have HBW := Lib.hid (hBw.out.alloc hBw.out.size (.cells #[.bool lv, .slice ca CL cc, .slice sa SL sc] 36))
      have HCT := Lib.hid (fun r hr => Bi.Contains_any sa succ sc b _ (HSI.out.mono HBW.out.size) SL HSL.out (by omega) r hr)
      have hqi : (q : Int) < (BL : Int) := by omega
      have HC := Lib.hid (HCT.out false (by simp [hin]))
      clear hin HCT
      go_wp2_with (go_at_call 24; refine HC.out.mono ?_; rintro e w' ⟨rfl, rfl⟩)
      go_roundw
      case rel => exact ⟨q + 1, by omega, by go_num, rfl, HBW⟩
      case measure => simp [intOf]; omega
    · obtain rfl : q = BL := by omega
      go_wp2_with fail
      go_ret
      exact ⟨rfl, hBw.out⟩
end Go.Proofs.YtdhdpfloaelngaaDoor
