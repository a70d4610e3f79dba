/- Programs: Preds. -/
import Derived.Test.YtdhdpfloaelngaaDoorPgR
namespace Go.Proofs.YtdhdpfloaelngaaDoor
open Go Go.RowKit Go.Sort

/-- The first q blocks that b may follow. -/
def predsTo (bl : List Blk) (b : Int) (q : Nat) : List Int := ((List.range q).filter fun k => decide (b ∈ (blkAt bl k).succ)).map fun k : Nat => (k : Int)
theorem predsTo_succ (bl : List Blk) (b : Int) (q : Nat) : predsTo bl b (q + 1) = predsTo bl b q ++ if b ∈ (blkAt bl q).succ then [(q : Int)] else [] := by
  unfold predsTo
  rw [List.range_succ, List.filter_append, List.map_append]
  by_cases h : b ∈ (blkAt bl q).succ
  · simp [h]
  · simp [h]
theorem predsTo_le (bl : List Blk) (b : Int) (q : Nat) : (predsTo bl b q).length ≤ q := by
  unfold predsTo
  rw [List.length_map]
  exact Nat.le_trans (List.length_filter_le _ _) (by simp)
noncomputable def predsR (p : Pg) (f b : Int) : List Int := predsTo (funR p f).blocks b (funR p f).blocks.length

set_option maxRecDepth 100000 in
set_option maxHeartbeats 4000000 in
theorem Preds_any (p : Pg) (f b : Int) (w : World) (hp : PgIs w.heap.size w p) (hT : KTab w) (hE : ETab w) (hfew : p.few) (l : List Int) (hl : predsR p f b = l) :
    Calls Tryd.prog 11 #[p.val, .int .i64 f, .int .i64 b] w fun e w' => ∃ u, e = .returned u ∧ w'.ownsRow w.heap.size 3 1 u l.length (l.map (Value.int .i64)) ∧ Below w.heap.size w w' := by
  have HB1 := Lib.hid (below1 w (.cells #[.slice p.pa p.funs.length p.pc] 24))
  obtain ⟨x, hx⟩ : ∃ x, funR p f = x := ⟨_, rfl⟩
  obtain ⟨rf, hrf⟩ : ∃ rf, funB p f = rf := ⟨_, rfl⟩
  have HF := Lib.hid (Fun_any p f _ (hp.on HB1.out) (hT.on HB1.out) (hE.on HB1.out) hfew x hx rf hrf)
  have HFD := Lib.hid (funR_is hp f)
  have HFW := Lib.hid (funR_few hfew f)
  have HL : Hid (predsTo x.blocks b x.blocks.length = l) := Lib.hid (by rw [← hl, predsR, hx])
  rw [hx] at HFD HFW
  clear hT hE hfew hp hx hrf hl
  unfold Pg.val Fd.val at *
  obtain ⟨ar, vr, ba, bc, bl⟩ := x
  dsimp only at *
  have hb20 : bl.length ≤ 20 := HFW.out.1
  have HFB := Lib.hid (fun k => HFW.out.b k)
  dsimp only at HFB
  obtain ⟨BL, hBL⟩ : ∃ BL, bl.length = BL := ⟨_, rfl⟩
  have HBL := Lib.hid hBL
  rw [hBL] at HF hb20 HL
  clear hBL HFW
  obtain ⟨i0, hi, hz0, hz1, hz2⟩ := info_parts info3
  go_enter Tryd.func11, Tryd.ntmps11
  go_wp2_with (go_at_call 10; refine HF.out.mono ?_; rintro e wa ⟨rfl, hba⟩; have HW2 := Lib.hid ((HB1.out.trans (hba.mono HB1.out.size)).alloc (Nat.le_trans HB1.out.size hba.size) (.cells #[.int .i64 ar, .int .i64 vr, .slice ba BL bc] 29)); clear hba)
  go_loopw [9, 21] (fun v i wr => ∃ q : Nat, q ≤ BL ∧ i = .int .i64 q ∧ Hid (wr.ownsRow w.heap.size 3 1 v (predsTo bl b q).length ((predsTo bl b q).map (Value.int .i64))) ∧ Hid (Below w.heap.size w wr)) (fun _ i _ => BL - (intOf i).toNat)
  case atStart => exact ⟨0, Nat.zero_le _, rfl, World.ownsRow_nil _ _ _ _, HW2⟩
  case round =>
    obtain ⟨q, hq, rfl, hown, hBw⟩ := hrel
    by_cases hlt : q < BL
    · obtain ⟨g, o, rfl, hgl, c0, c1, c2, hbk⟩ := (HFD.out.below hBw.out) q (by rw [HBL.out]; exact hlt)
      have hks := predsTo_succ bl b q
      have hkl := predsTo_le bl b q
      have hs30 := (HFB.out q).2
      have HSI := Lib.hid (hbk.2.below (((Below.refl w.heap.size wr).alloc hBw.out.size (.cells #[.bool (blkAt bl q).live, .slice (blkAt bl q).ca (blkAt bl q).code.length (blkAt bl q).cc, .slice (blkAt bl q).sa (blkAt bl q).succ.length (blkAt bl q).sc] 36))))
      clear hbk hgl
      obtain ⟨bk, hbkq⟩ : ∃ bk, blkAt bl q = bk := ⟨_, rfl⟩
      simp only [hbkq] at c0 c1 c2 hks hs30 HSI
      clear hbkq
      obtain ⟨lv, ca, cc, code, sa, sc, succ⟩ := bk
      dsimp only at c0 c1 c2 hks hs30 HSI
      obtain ⟨SL, hSL⟩ : ∃ SL, succ.length = SL := ⟨_, rfl⟩
      obtain ⟨CL, hCL⟩ : ∃ CL, code.length = CL := ⟨_, rfl⟩
      rw [hSL] at c2 hs30
      rw [hCL] at c1
      simp only [hSL, hCL] at HSI
      have HSL := Lib.hid hSL
      clear hSL hCL
      have HBW := Lib.hid (hBw.out.alloc hBw.out.size (.cells #[.bool lv, .slice ca CL cc, .slice sa SL sc] 36))
      have HOA := Lib.hid (hown.out.alloc (.cells #[.bool lv, .slice ca CL cc, .slice sa SL sc] 36))
      have HCT := Lib.hid (fun r hr => Bi.Contains_any sa succ sc b _ (HSI.out.mono HBW.out.size) SL HSL.out (by omega) r hr)
      have h63 : (predsTo bl b q).length + 1 ≤ maxLen := by unfold maxLen; omega
      have hby : ((predsTo bl b q).length + 1) * 8 ≤ 140737488355328 := by omega
      have hqi : (q : Int) < (BL : Int) := by omega
      by_cases hin : b ∈ succ
      · rw [if_pos hin] at hks
        have HKS := Lib.hid hks
        have HC := Lib.hid (HCT.out true (by simp [hin]))
        clear hks hin HCT
        go_wp2_with (first | (go_at_call 24; refine HC.out.mono ?_; rintro e w' ⟨rfl, rfl⟩) | (at_builtin; refine wpList_append_own _ rfl _ _ 32 rfl w.heap.size 3 i0 (.int .i64 0) 1 8 Tryd.underlying32 hi hz0 hz1 hz2 rfl (by decide) _ _ _ rfl (HOA.out.alloc _) ⟨_, 0, none⟩ 1 1 [.int .i64 (q : Int)] rfl rfl (by simpa only [World.size_alloc] using cell_one_new (wr.alloc (.cells #[.bool lv, .slice ca CL cc, .slice sa SL sc] 36)) (.int .i64 (q : Int)) 3) (by simp [Value.oneCell']) h63 hby (by have := HBW.out.size; simp only [World.size_alloc] at this ⊢; omega) ?_; intro v' w4 hown' hgrow _; have HB4 := Lib.hid (owns_grown (HBW.out.alloc HBW.out.size _) (HOA.out.alloc _) hgrow (by have := HBW.out.size; simp only [World.size_alloc] at this ⊢; omega)); have HO4 := Lib.hid hown'; clear hown' hgrow))
        go_roundw
        case rel =>
          refine ⟨q + 1, by omega, by go_num, ?_, HB4⟩
          rw [HKS.out]
          show w4.ownsRow w.heap.size 3 1 _ (predsTo bl b q ++ [(q : Int)]).length ((predsTo bl b q ++ [(q : Int)]).map (Value.int .i64))
          simpa using HO4.out
        case measure => simp [intOf]; omega
      · rw [if_neg hin, List.append_nil] at hks
        have HKS := Lib.hid hks
        have HC := Lib.hid (HCT.out false (by simp [hin]))
        clear hks hin HCT
        go_wp2_with (go_at_call 24; refine HC.out.mono ?_; rintro e w' ⟨rfl, rfl⟩)
        go_roundw
        case rel => exact ⟨q + 1, by omega, by go_num, by rw [HKS.out]; exact HOA, HBW⟩
        case measure => simp [intOf]; omega
    · obtain rfl : q = BL := by omega
      go_wp2_with fail
      go_ret
      rw [← HL.out]
      exact ⟨_, rfl, hown.out, hBw.out⟩
end Go.Proofs.YtdhdpfloaelngaaDoor
