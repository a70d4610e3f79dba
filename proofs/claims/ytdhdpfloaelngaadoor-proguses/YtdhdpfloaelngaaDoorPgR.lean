/- Programs: At. -/
import Derived.Test.YtdhdpfloaelngaaDoorPgQ
namespace Go.Proofs.YtdhdpfloaelngaaDoor
open Go Go.RowKit Go.Sort

theorem BoxL.put11 {W : World} {b : Nat} {v0 v1 v2 v3 v4 v5 v6 v7 v8 v9 v10 : Value} (h : BoxL W b [v0, v1, v2, v3, v4, v5, v6, v7, v8, v9, v10]) (u0 u1 u2 u3 u4 u5 u6 u7 u8 u9 u10 : Value) : BoxL (((((((((((W.setCell ⟨b, 0, none⟩ u0).setCell ⟨b, 1, none⟩ u1).setCell ⟨b, 2, none⟩ u2).setCell ⟨b, 3, none⟩ u3).setCell ⟨b, 4, none⟩ u4).setCell ⟨b, 5, none⟩ u5).setCell ⟨b, 6, none⟩ u6).setCell ⟨b, 7, none⟩ u7).setCell ⟨b, 8, none⟩ u8).setCell ⟨b, 9, none⟩ u9).setCell ⟨b, 10, none⟩ u10) b [u0, u1, u2, u3, u4, u5, u6, u7, u8, u9, u10] :=
  (((((((((((h.put 0 u0 (by simp)).put 1 u1 (by simp)).put 2 u2 (by simp)).put 3 u3 (by simp)).put 4 u4 (by simp)).put 5 u5 (by simp)).put 6 u6 (by simp)).put 7 u7 (by simp)).put 8 u8 (by simp)).put 9 u9 (by simp)).put 10 u10 (by simp))
theorem below_put11 {B : Nat} {w W : World} (h : Below B w W) {b : Nat} (hb : B ≤ b) (u0 u1 u2 u3 u4 u5 u6 u7 u8 u9 u10 : Value) : Below B w (((((((((((W.setCell ⟨b, 0, none⟩ u0).setCell ⟨b, 1, none⟩ u1).setCell ⟨b, 2, none⟩ u2).setCell ⟨b, 3, none⟩ u3).setCell ⟨b, 4, none⟩ u4).setCell ⟨b, 5, none⟩ u5).setCell ⟨b, 6, none⟩ u6).setCell ⟨b, 7, none⟩ u7).setCell ⟨b, 8, none⟩ u8).setCell ⟨b, 9, none⟩ u9).setCell ⟨b, 10, none⟩ u10) :=
  (((((((((((h.setCell (p := ⟨b, 0, none⟩) hb u0).setCell (p := ⟨b, 1, none⟩) hb u1).setCell (p := ⟨b, 2, none⟩) hb u2).setCell (p := ⟨b, 3, none⟩) hb u3).setCell (p := ⟨b, 4, none⟩) hb u4).setCell (p := ⟨b, 5, none⟩) hb u5).setCell (p := ⟨b, 6, none⟩) hb u6).setCell (p := ⟨b, 7, none⟩) hb u7).setCell (p := ⟨b, 8, none⟩) hb u8).setCell (p := ⟨b, 9, none⟩) hb u9).setCell (p := ⟨b, 10, none⟩) hb u10)
theorem blkR_is {B : Nat} {W : World} {p : Pg} (h : PgIs B W p) (f b : Int) : BlkIs B W (blkR p f b) := by
  unfold blkR
  split
  · rename_i hb
    unfold blkB at hb
    simp at hb
    obtain ⟨k, rfl⟩ := Int.eq_ofNat_of_zero_le hb.1.1
    obtain ⟨-, -, -, -, -, -, -, hk⟩ := funR_is h f k (by omega)
    simpa using hk
  · exact ⟨fun j hj => by simp [Blk.none] at hj, fun j hj => by simp [Blk.none] at hj⟩
theorem blkR_few {p : Pg} (h : p.few) (f b : Int) : fewB (blkR p f b) := by
  unfold blkR
  split
  · exact (funR_few h f).b _
  · exact ⟨by simp [Blk.none], by simp [Blk.none]⟩
theorem blkR_none {p : Pg} {f b : Int} (h : blkB p f b = false) : blkR p f b = Blk.none := by unfold blkR; simp [h]
theorem atB_none {p : Pg} {f b : Int} (h : blkB p f b = false) (k : Int) : atB p f b k = false := by
  unfold atB
  rw [blkR_none h]
  by_cases h0 : 0 ≤ k
  · have h1 : ¬ k < ((Blk.none.code.length : Nat) : Int) := by simp [Blk.none]; omega
    simp [h1]
  · simp [h0]

set_option maxRecDepth 100000 in
set_option maxHeartbeats 4000000 in
theorem At_any (p : Pg) (f b k : Int) (w : World) (hp : PgIs w.heap.size w p) (hT : KTab w) (hE : ETab w) (hfew : p.few) (i : Ins) (hi : atR p f b k = i) (r : Bool) (hr : atB p f b k = r) :
    Calls Tryd.prog 18 #[p.val, .int .i64 f, .int .i64 b, .int .i64 k] w fun e w' => e = .returned (.tuple #[i.val, .bool r]) ∧ Below w.heap.size w w' := by
  have HB2 := Lib.hid (below2 w (.cells #[.slice p.pa p.funs.length p.pc] 24) (.cells #[.int .i64 0, .int .i64 0, .int .i64 0, .int .i64 0, .int .i64 0, .int .i64 0, .int .i64 0, .int .i64 0, .int .i64 0, .int .i64 0, .int .i64 0] 45))
  have h1 := BoxL.new w [.slice p.pa p.funs.length p.pc] 24
  have h2 := BoxL.new (w.alloc (.cells #[.slice p.pa p.funs.length p.pc] 24)) [.int .i64 0, .int .i64 0, .int .i64 0, .int .i64 0, .int .i64 0, .int .i64 0, .int .i64 0, .int .i64 0, .int .i64 0, .int .i64 0, .int .i64 0] 45
  rw [World.size_alloc] at h2
  have HX1 := Lib.hid (h1.alloc (Nat.zero_lt_succ _) (.cells #[.int .i64 0, .int .i64 0, .int .i64 0, .int .i64 0, .int .i64 0, .int .i64 0, .int .i64 0, .int .i64 0, .int .i64 0, .int .i64 0, .int .i64 0] 45))
  have HX2 := Lib.hid h2
  obtain ⟨y, hy⟩ : ∃ y, blkR p f b = y := ⟨_, rfl⟩
  obtain ⟨rf, hrf⟩ : ∃ rf, blkB p f b = rf := ⟨_, rfl⟩
  have HF := Lib.hid (Block_any p f b _ (hp.on HB2.out) (hT.on HB2.out) (hE.on HB2.out) hfew y hy rf hrf)
  have HCD := Lib.hid (blkR_is (hp.below HB2.out) f b).1
  have HFW := Lib.hid (blkR_few hfew f b)
  rw [hy] at HCD HFW
  have HNO : Hid (rf = false → r = false) := Lib.hid fun h => by rw [← hr]; exact atB_none (hrf.trans h) k
  have HRB : Hid (r = (decide (0 ≤ k) && decide (k < y.code.length))) := Lib.hid (by rw [← hr, atB, hy])
  have HY : Hid (i = if r then insAt y.code k.toNat else Ins.none) := Lib.hid (by rw [← hi, atR, hr, hy])
  clear h1 h2 hT hE hfew hp hy hrf hi hr
  unfold Pg.val Blk.val at *
  obtain ⟨PL, hPL⟩ : ∃ PL, p.funs.length = PL := ⟨_, rfl⟩
  simp only [hPL] at HB2 HX1 HX2 HF HCD ⊢
  clear hPL
  generalize hE : (w.alloc (.cells #[.slice p.pa PL p.pc] 24)).alloc (.cells #[.int .i64 0, .int .i64 0, .int .i64 0, .int .i64 0, .int .i64 0, .int .i64 0, .int .i64 0, .int .i64 0, .int .i64 0, .int .i64 0, .int .i64 0] 45) = W at HB2 HX1 HX2 HF HCD
  obtain ⟨g, hg⟩ : ∃ g, w.heap.size = g := ⟨_, rfl⟩
  have HGL := Lib.hid HB2.out.size
  rw [hg] at HB2 HX1 HX2 HGL HCD ⊢
  have p0 := (HX1.out 0 _ rfl).1
  obtain ⟨lv, ca, cc, code, sa, sc, succ⟩ := y
  dsimp only at *
  have hc30 : code.length ≤ 30 := HFW.out.1
  obtain ⟨CL, hCL⟩ : ∃ CL, code.length = CL := ⟨_, rfl⟩
  obtain ⟨SL, hSL⟩ : ∃ SL, succ.length = SL := ⟨_, rfl⟩
  have HCL := Lib.hid hCL
  rw [hCL] at HF hc30 HRB
  rw [hSL] at HF
  clear hCL hSL HFW
  have hcase : (r = false ∧ i = Ins.none) ∨ (r = true ∧ rf = true ∧ ∃ n : Nat, k = (n : Int) ∧ n < CL ∧ i = insAt code n) := by
    cases r with
    | false => exact .inl ⟨rfl, HY.out⟩
    | true =>
      have h := HRB.out
      simp at h
      obtain ⟨n, rfl⟩ := Int.eq_ofNat_of_zero_le h.1
      refine .inr ⟨rfl, ?_, n, rfl, by omega, by have := HY.out; simpa using this⟩
      cases rf with
      | true => rfl
      | false => exact absurd (HNO.out rfl) (by simp)
  obtain ⟨rfl, rfl⟩ | ⟨rfl, rfl, n, rfl, hn, rfl⟩ := hcase
  · have hwhy : rf = false ∨ (rf = true ∧ k < 0) ∨ (rf = true ∧ 0 ≤ k ∧ (CL : Int) ≤ k) := by
      have h := HRB.out
      simp at h
      cases rf with
      | false => exact .inl rfl
      | true =>
        rcases Int.lt_or_le k 0 with h0 | h0
        · exact .inr (.inl ⟨rfl, h0⟩)
        · exact .inr (.inr ⟨rfl, h0, h h0⟩)
    unfold Ins.val Ins.none
    clear HRB HY HNO
    obtain rfl | ⟨rfl, hk0⟩ | ⟨rfl, hk0, hk1⟩ := hwhy
    all_goals
      go_enter Tryd.func18, Tryd.ntmps18
      go_wp2_with (go_at_call 12; refine HF.out.mono ?_; rintro e wa ⟨rfl, hba⟩; have HW2 := Lib.hid ((HB2.out.trans (hba.mono HGL.out)).alloc (Nat.le_trans HGL.out hba.size) (.cells #[.bool lv, .slice ca CL cc, .slice sa SL sc] 36)); have HX3 := Lib.hid ((HX2.out.below hba (HX2.out.lt (Nat.zero_lt_succ _))).alloc (Nat.zero_lt_succ _) (.cells #[.bool lv, .slice ca CL cc, .slice sa SL sc] 36)); clear hba p0; have q0 := (HX3.out 0 _ rfl).1; have q1 := (HX3.out 1 _ rfl).1; have q2 := (HX3.out 2 _ rfl).1; have q3 := (HX3.out 3 _ rfl).1; have q4 := (HX3.out 4 _ rfl).1; have q5 := (HX3.out 5 _ rfl).1; have q6 := (HX3.out 6 _ rfl).1; have q7 := (HX3.out 7 _ rfl).1; have q8 := (HX3.out 8 _ rfl).1; have q9 := (HX3.out 9 _ rfl).1; have q10 := (HX3.out 10 _ rfl).1; have z0 := (HX3.out 0 _ rfl).2; have z1 := (HX3.out 1 _ rfl).2; have z2 := (HX3.out 2 _ rfl).2; have z3 := (HX3.out 3 _ rfl).2; have z4 := (HX3.out 4 _ rfl).2; have z5 := (HX3.out 5 _ rfl).2; have z6 := (HX3.out 6 _ rfl).2; have z7 := (HX3.out 7 _ rfl).2; have z8 := (HX3.out 8 _ rfl).2; have z9 := (HX3.out 9 _ rfl).2; have z10 := (HX3.out 10 _ rfl).2)
      refine bodyPost_ret (ret_box rfl _ _ (g + 1) [.int .i64 0, .int .i64 0, .int .i64 0, .int .i64 0, .int .i64 0, .int .i64 0, .int .i64 0, .int .i64 0, .int .i64 0, .int .i64 0, .int .i64 0] _ _ rfl rfl ?_ Tryd.underlying45 rfl (by kernel_rfl)) rfl ?_
      · exact HX3.out.put11 _ _ _ _ _ _ _ _ _ _ _
      · exact ⟨rfl, below_put11 HW2.out (Nat.le_succ _) _ _ _ _ _ _ _ _ _ _ _⟩
  · obtain ⟨bb, o, hbb, hbl, c0, c1, c2, c3, c4, c5, c6, c7, c8, c9, c10⟩ := HCD.out.at n (by rw [HCL.out]; exact hn)
    subst hbb
    obtain ⟨ii, hii⟩ : ∃ ii, insAt code n = ii := ⟨_, rfl⟩
    rw [hii] at c0 c1 c2 c3 c4 c5 c6 c7 c8 c9 c10 ⊢
    have hni : (n : Int) < (CL : Int) := by omega
    obtain ⟨id, kind, dst, a, b', c, f', nn, x0, x1, x2⟩ := ii
    have HC0 := Lib.hid c0
    have HC1 := Lib.hid c1
    have HC2 := Lib.hid c2
    have HC3 := Lib.hid c3
    have HC4 := Lib.hid c4
    have HC5 := Lib.hid c5
    have HC6 := Lib.hid c6
    have HC7 := Lib.hid c7
    have HC8 := Lib.hid c8
    have HC9 := Lib.hid c9
    have HC10 := Lib.hid c10
    have HBLT := Lib.hid hbl
    clear hii c0 c1 c2 c3 c4 c5 c6 c7 c8 c9 c10 hbl HY HRB HNO
    unfold Ins.val
    dsimp only at *
    go_enter Tryd.func18, Tryd.ntmps18
    go_wp2_with (go_at_call 12; refine HF.out.mono ?_; rintro e wa ⟨rfl, hba⟩; have HWA := Lib.hid ((hba.mono HGL.out).alloc (Nat.le_trans HGL.out hba.size) (.cells #[.bool lv, .slice (some ⟨bb, o, none⟩) CL cc, .slice sa SL sc] 36)); have HW2 := Lib.hid (HB2.out.trans HWA.out); have HX3 := Lib.hid ((HX2.out.below hba (HX2.out.lt (Nat.zero_lt_succ _))).alloc (Nat.zero_lt_succ _) (.cells #[.bool lv, .slice (some ⟨bb, o, none⟩) CL cc, .slice sa SL sc] 36)); clear hba p0; have c0 := (HWA.out.cell (p := ⟨bb, o + n * 11, none⟩) HBLT.out).trans HC0.out; have c1 := (HWA.out.cell (p := ⟨bb, o + n * 11 + 1, none⟩) HBLT.out).trans HC1.out; have c2 := (HWA.out.cell (p := ⟨bb, o + n * 11 + 2, none⟩) HBLT.out).trans HC2.out; have c3 := (HWA.out.cell (p := ⟨bb, o + n * 11 + 3, none⟩) HBLT.out).trans HC3.out; have c4 := (HWA.out.cell (p := ⟨bb, o + n * 11 + 4, none⟩) HBLT.out).trans HC4.out; have c5 := (HWA.out.cell (p := ⟨bb, o + n * 11 + 5, none⟩) HBLT.out).trans HC5.out; have c6 := (HWA.out.cell (p := ⟨bb, o + n * 11 + 6, none⟩) HBLT.out).trans HC6.out; have c7 := (HWA.out.cell (p := ⟨bb, o + n * 11 + 7, none⟩) HBLT.out).trans HC7.out; have c8 := (HWA.out.cell (p := ⟨bb, o + n * 11 + 8, none⟩) HBLT.out).trans HC8.out; have c9 := (HWA.out.cell (p := ⟨bb, o + n * 11 + 9, none⟩) HBLT.out).trans HC9.out; have c10 := (HWA.out.cell (p := ⟨bb, o + n * 11 + 10, none⟩) HBLT.out).trans HC10.out; have q0 := (HX3.out 0 _ rfl).1; have q1 := (HX3.out 1 _ rfl).1; have q2 := (HX3.out 2 _ rfl).1; have q3 := (HX3.out 3 _ rfl).1; have q4 := (HX3.out 4 _ rfl).1; have q5 := (HX3.out 5 _ rfl).1; have q6 := (HX3.out 6 _ rfl).1; have q7 := (HX3.out 7 _ rfl).1; have q8 := (HX3.out 8 _ rfl).1; have q9 := (HX3.out 9 _ rfl).1; have q10 := (HX3.out 10 _ rfl).1; have z0 := (HX3.out 0 _ rfl).2; have z1 := (HX3.out 1 _ rfl).2; have z2 := (HX3.out 2 _ rfl).2; have z3 := (HX3.out 3 _ rfl).2; have z4 := (HX3.out 4 _ rfl).2; have z5 := (HX3.out 5 _ rfl).2; have z6 := (HX3.out 6 _ rfl).2; have z7 := (HX3.out 7 _ rfl).2; have z8 := (HX3.out 8 _ rfl).2; have z9 := (HX3.out 9 _ rfl).2; have z10 := (HX3.out 10 _ rfl).2)
    refine bodyPost_ret (ret_box rfl _ _ (g + 1) [.int .i64 id, .int .i64 kind, .int .i64 dst, .int .i64 a, .int .i64 b', .int .i64 c, .int .i64 f', .int .i64 nn, .int .i64 x0, .int .i64 x1, .int .i64 x2] _ _ rfl rfl ?_ Tryd.underlying45 rfl (by kernel_rfl)) rfl ?_
    · exact HX3.out.put11 _ _ _ _ _ _ _ _ _ _ _
    · exact ⟨rfl, below_put11 HW2.out (Nat.le_succ _) _ _ _ _ _ _ _ _ _ _ _⟩
end Go.Proofs.YtdhdpfloaelngaaDoor
