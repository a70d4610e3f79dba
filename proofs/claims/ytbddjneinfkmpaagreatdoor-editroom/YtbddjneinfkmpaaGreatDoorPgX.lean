/- PgX: several texts in one: PgP PgQ PgR PgS PgSz PgU PgV PgW PgY. -/
import Derived.Laws.ResultCell
import Derived.Test.YtbddjneinfkmpaaGreatDoorPgO
import Derived.Deep.RegionHeld3
import Derived.Test.YtbddjneinfkmpaaGreatDoorPgT

namespace Go.Proofs.YtbddjneinfkmpaaGreatDoor
open Go Go.RowKit Go.Sort

noncomputable def Pg.saneB (p : Pg) : Bool := @decide p.sane (Classical.propDecidable _)
theorem saneB_iff (p : Pg) : p.saneB = true ↔ p.sane := @decide_eq_true_iff p.sane (Classical.propDecidable _)
noncomputable def funB (p : Pg) (f : Int) : Bool := decide (0 ≤ f) && decide (f < p.funs.length) && p.saneB
noncomputable def funR (p : Pg) (f : Int) : Fd := if funB p f then fdAt p.funs f.toNat else Fd.none
noncomputable def blkB (p : Pg) (f b : Int) : Bool := decide (0 ≤ b) && decide (b < (funR p f).blocks.length) && (blkAt (funR p f).blocks b.toNat).live
noncomputable def blkR (p : Pg) (f b : Int) : Blk := if blkB p f b then blkAt (funR p f).blocks b.toNat else Blk.none
noncomputable def atB (p : Pg) (f b k : Int) : Bool := decide (0 ≤ k) && decide (k < (blkR p f b).code.length)
noncomputable def atR (p : Pg) (f b k : Int) : Ins := if atB p f b k then insAt (blkR p f b).code k.toNat else Ins.none

theorem run_loadVar_box {P : Program} (w : World) (g : Nat) (ty : TypeId) (cs : List Value) (d : TypeDesc) (hb : BoxL w g cs)
    (hu : P.underlying ty = some d) (hd : (match d with | .struct _ | .array _ _ => true | _ => false) = true) (hi : (P.info? ty).map (·.size) = some cs.length) :
    (loadVar ty ⟨g, 0, none⟩).run P w = .ok (.agg cs.toArray) w := by
  have hl : (loadCells ⟨g, 0, none⟩ cs.length).run P w = .ok cs.toArray w :=
    run_loadCells_list (P := P) w ⟨g, 0, none⟩ cs (fun j v hv => by
      have hadd : (⟨g, 0, none⟩ : Addr).add j = ⟨g, j, none⟩ := by unfold Addr.add; split <;> simp_all
      rw [hadd]
      exact (hb j v hv).1)
  cases hq : P.info? ty with
  | none => simp [hq] at hi
  | some i =>
    have hs : i.size = cs.length := by simpa [hq] using hi
    have hagg : (isAgg ty).run P w = .ok true w := by
      unfold isAgg
      rw [Sem.run_bind, run_underlying hu w]
      cases d <;> simp_all
    simp [loadVar, Sem.run_bind, hagg, sizeOf, typeInfo, hq, hs, hl]
/-- A result of several cells, and one more. -/
theorem ret_box {P : Program} {fn : Func} {p u : Tmp} {ty : TypeId} (h : fn.results = #[.cell p ty, .tmp u]) (tmps : Array Value) (w : World) (g : Nat) (cs : List Value) (b : Value) (d : TypeDesc) (hp : tmps.getD p undef = .pointer (some ⟨g, 0, none⟩)) (hbv : tmps.getD u undef = b) (hb : BoxL w g cs)
    (hu : P.underlying ty = some d) (hd : (match d with | .struct _ | .array _ _ => true | _ => false) = true) (hi : (P.info? ty).map (·.size) = some cs.length) :
    (results fn tmps).run P w = .ok (.tuple #[.agg cs.toArray, b]) w := by
  rw [results_cell_tmp h, hp, hbv]
  have ha : (asAddr (.pointer (some ⟨g, 0, none⟩))).run P w = .ok ⟨g, 0, none⟩ w := rfl
  rw [ha]
  simp only [Result.andThen, run_loadVar_box w g ty cs d hb hu hd hi]
theorem BoxL.put3 {W : World} {b : Nat} {v0 v1 v2 : Value} (h : BoxL W b [v0, v1, v2]) (u0 u1 u2 : Value) : BoxL (((W.setCell ⟨b, 0, none⟩ u0).setCell ⟨b, 1, none⟩ u1).setCell ⟨b, 2, none⟩ u2) b [u0, u1, u2] :=
  ((h.put 0 u0 (by simp)).put 1 u1 (by simp)).put 2 u2 (by simp)
theorem below_put3 {B : Nat} {w W : World} (h : Below B w W) {b : Nat} (hb : B ≤ b) (u0 u1 u2 : Value) : Below B w (((W.setCell ⟨b, 0, none⟩ u0).setCell ⟨b, 1, none⟩ u1).setCell ⟨b, 2, none⟩ u2) :=
  ((h.setCell (p := ⟨b, 0, none⟩) hb u0).setCell (p := ⟨b, 1, none⟩) hb u1).setCell (p := ⟨b, 2, none⟩) hb u2

set_option maxRecDepth 100000 in
set_option maxHeartbeats 4000000 in
theorem Fun_any (p : Pg) (f : Int) (w : World) (hp : PgIs w.heap.size w p) (hT : KTab w) (hE : ETab w) (hfew : p.few) (x : Fd) (hx : funR p f = x) (r : Bool) (hr : funB p f = r) :
    Calls Tryz.prog 15 #[p.val, .int .i64 f] w fun e w' => e = .returned (.tuple #[x.val, .bool r]) ∧ Below w.heap.size w w' := by
  have HB2 := Lib.hid (below2 w (.cells #[.slice p.pa p.funs.length p.pc] 24) (.cells #[.int .i64 0, .int .i64 0, .slice none 0 0] 29))
  have h1 := BoxL.new w [.slice p.pa p.funs.length p.pc] 24
  have h2 := BoxL.new (w.alloc (.cells #[.slice p.pa p.funs.length p.pc] 24)) [.int .i64 0, .int .i64 0, .slice none 0 0] 29
  rw [World.size_alloc] at h2
  have HX1 := Lib.hid (h1.alloc (Nat.zero_lt_succ _) (.cells #[.int .i64 0, .int .i64 0, .slice none 0 0] 29))
  have HX2 := Lib.hid h2
  have HS := Lib.hid (fun s hs => Sane_any p _ (hp.on HB2.out) (hT.on HB2.out) (hE.on HB2.out) hfew s hs)
  have HP := Lib.hid hp
  have hlen := hfew.1
  have HSZ : Hid (((w.alloc (.cells #[.slice p.pa p.funs.length p.pc] 24)).alloc (.cells #[.int .i64 0, .int .i64 0, .slice none 0 0] 29)).heap.size = w.heap.size + 2) := Lib.hid (by simp only [World.size_alloc])
  clear h1 h2 hT hE hfew hp
  by_cases h0 : f < 0
  · have hrr : funB p f = false := by unfold funB; simp; omega
    rw [← hx, ← hr, funR, hrr]
    clear HS HX1 hx hr hrr HSZ
    unfold Pg.val Fd.val
    go_enter Tryz.func15, Tryz.ntmps15
    go_wp2_with fail
    refine bodyPost_ret (ret_box rfl _ _ (w.heap.size + 1) [.int .i64 0, .int .i64 0, .slice none 0 0] _ _ rfl rfl ?_ Tryz.underlying29 rfl (by kernel_rfl)) rfl ?_
    · exact HX2.out
    · exact ⟨rfl, HB2.out⟩
  by_cases h1 : (p.funs.length : Int) ≤ f
  · have hrr : funB p f = false := by unfold funB; simp; omega
    rw [← hx, ← hr, funR, hrr]
    have h0' : 0 ≤ f := by omega
    clear HS HX1 hx hr hrr HSZ h0
    unfold Pg.val Fd.val
    go_enter Tryz.func15, Tryz.ntmps15
    go_wp2_with fail
    refine bodyPost_ret (ret_box rfl _ _ (w.heap.size + 1) [.int .i64 0, .int .i64 0, .slice none 0 0] _ _ rfl rfl ?_ Tryz.underlying29 rfl (by kernel_rfl)) rfl ?_
    · exact HX2.out
    · exact ⟨rfl, HB2.out⟩
  have h0' : 0 ≤ f := by omega
  have h1' : f < (p.funs.length : Int) := by omega
  have hrs : p.saneB = r := by
    rw [← hr]
    unfold funB
    simp [h0', h1']
  have HS2 := Lib.hid (HS.out r (by rw [← hrs]; exact saneB_iff p))
  obtain ⟨k, rfl⟩ := Int.eq_ofNat_of_zero_le h0'
  have hk : k < p.funs.length := by omega
  have HXX := Lib.hid hx
  have HRR := Lib.hid hr
  have HHP := Lib.hid (HP.out.below HB2.out k hk)
  have HK := Lib.hid hk
  clear hx hr hrs HS h0 h1
  unfold Pg.val at *
  obtain ⟨PL, hPL⟩ : ∃ PL, p.funs.length = PL := ⟨_, rfl⟩
  simp only [hPL] at HB2 HX1 HX2 HS2 HSZ h1' hlen HHP ⊢
  clear hPL
  generalize hE : (w.alloc (.cells #[.slice p.pa PL p.pc] 24)).alloc (.cells #[.int .i64 0, .int .i64 0, .slice none 0 0] 29) = W at HB2 HX1 HX2 HS2 HSZ HHP
  obtain ⟨g, hg⟩ : ∃ g, w.heap.size = g := ⟨_, rfl⟩
  have HGL := Lib.hid HB2.out.size
  rw [hg] at HB2 HX1 HX2 HSZ HGL HHP ⊢
  have p0 := (HX1.out 0 _ rfl).1
  cases r with
  | false =>
    have hx0 : x = Fd.none := by rw [← HXX.out, funR, HRR.out]; rfl
    subst hx0
    unfold Fd.val Fd.none
    go_enter Tryz.func15, Tryz.ntmps15
    go_wp2_with (go_at_call 23; refine HS2.out.mono ?_; rintro e wa ⟨rfl, hba⟩; have HW2 := Lib.hid (HB2.out.trans (hba.mono HGL.out)); have HX3 := Lib.hid (HX2.out.below hba (HX2.out.lt (Nat.zero_lt_succ _))); clear hba p0; have q0 := (HX3.out 0 _ rfl).1; have q1 := (HX3.out 1 _ rfl).1; have q2 := (HX3.out 2 _ rfl).1; have z0 := (HX3.out 0 _ rfl).2; have z1 := (HX3.out 1 _ rfl).2; have z2 := (HX3.out 2 _ rfl).2)
    refine bodyPost_ret (ret_box rfl _ _ (g + 1) [.int .i64 0, .int .i64 0, .slice none 0 0] _ _ rfl rfl ?_ Tryz.underlying29 rfl (by kernel_rfl)) rfl ?_
    · exact HX3.out.put3 _ _ _
    · exact ⟨rfl, below_put3 HW2.out (Nat.le_succ _) _ _ _⟩
  | true =>
    have hx0 : x = fdAt p.funs k := by rw [← HXX.out, funR, HRR.out]; simp
    subst hx0
    obtain ⟨b, o, hpa, hbl, c0, c1, c2, -⟩ := HHP.out
    obtain ⟨ar, har⟩ : ∃ ar, (fdAt p.funs k).ar = ar := ⟨_, rfl⟩
    obtain ⟨vr, hvr⟩ : ∃ vr, (fdAt p.funs k).vr = vr := ⟨_, rfl⟩
    obtain ⟨ba, hba⟩ : ∃ ba, (fdAt p.funs k).ba = ba := ⟨_, rfl⟩
    obtain ⟨bc, hbc⟩ : ∃ bc, (fdAt p.funs k).bc = bc := ⟨_, rfl⟩
    obtain ⟨BL, hBL⟩ : ∃ BL, (fdAt p.funs k).blocks.length = BL := ⟨_, rfl⟩
    unfold Fd.val
    simp only [har, hvr, hba, hbc, hBL, hpa] at c0 c1 c2 HX1 p0 HS2 ⊢
    rw [hpa] at hE
    have HC0 := Lib.hid c0
    have HC1 := Lib.hid c1
    have HC2 := Lib.hid c2
    have HBLT := Lib.hid (Nat.lt_of_lt_of_le hbl HGL.out)
    clear har hvr hba hbc hBL hpa c0 c1 c2 hbl HHP
    go_enter Tryz.func15, Tryz.ntmps15
    go_wp2_with (go_at_call 23; refine HS2.out.mono ?_; rintro e wa ⟨rfl, hba⟩; have HW2 := Lib.hid (HB2.out.trans (hba.mono HGL.out)); have HX3 := Lib.hid (HX2.out.below hba (HX2.out.lt (Nat.zero_lt_succ _))); have HX4 := Lib.hid (HX1.out.below hba (HX1.out.lt (Nat.zero_lt_succ _))); have c0 := (hba.cell (p := ⟨b, o + k * 3, none⟩) HBLT.out).trans HC0.out; have c1 := (hba.cell (p := ⟨b, o + k * 3 + 1, none⟩) HBLT.out).trans HC1.out; have c2 := (hba.cell (p := ⟨b, o + k * 3 + 2, none⟩) HBLT.out).trans HC2.out; clear hba p0; have p0 := (HX4.out 0 _ rfl).1; have q0 := (HX3.out 0 _ rfl).1; have q1 := (HX3.out 1 _ rfl).1; have q2 := (HX3.out 2 _ rfl).1; have z0 := (HX3.out 0 _ rfl).2; have z1 := (HX3.out 1 _ rfl).2; have z2 := (HX3.out 2 _ rfl).2)
    refine bodyPost_ret (ret_box rfl _ _ (g + 1) [.int .i64 ar, .int .i64 vr, .slice ba BL bc] _ _ rfl rfl ?_ Tryz.underlying29 rfl (by kernel_rfl)) rfl ?_
    · exact HX3.out.put3 _ _ _
    · exact ⟨rfl, below_put3 HW2.out (Nat.le_succ _) _ _ _⟩
end Go.Proofs.YtbddjneinfkmpaaGreatDoor

namespace Go.Proofs.YtbddjneinfkmpaaGreatDoor
open Go Go.RowKit Go.Sort

theorem funR_is {B : Nat} {W : World} {p : Pg} (h : PgIs B W p) (f : Int) : FdIs B W (funR p f) := by
  unfold funR
  split
  · rename_i hb
    unfold funB at hb
    simp at hb
    obtain ⟨k, rfl⟩ := Int.eq_ofNat_of_zero_le hb.1.1
    obtain ⟨-, -, -, -, -, -, -, hk⟩ := h k (by omega)
    simpa using hk
  · intro j hj
    simp [Fd.none] at hj
theorem funR_few {p : Pg} (h : p.few) (f : Int) : fewF (funR p f) := by
  unfold funR
  split
  · exact h.f _
  · exact ⟨by simp [Fd.none], fun k hk => by simp [Fd.none] at hk⟩
theorem funR_none {p : Pg} {f : Int} (h : funB p f = false) : funR p f = Fd.none := by unfold funR; simp [h]
theorem blkB_iff (p : Pg) (f b : Int) : blkB p f b = true ↔ liveAt (funR p f).blocks b := by
  unfold blkB liveAt
  simp [and_assoc]
theorem blkB_none {p : Pg} {f : Int} (h : funB p f = false) (b : Int) : blkB p f b = false := by
  unfold blkB
  rw [funR_none h]
  by_cases h0 : 0 ≤ b
  · have h1 : ¬ b < ((Fd.none.blocks.length : Nat) : Int) := by simp [Fd.none]; omega
    simp [h1]
  · simp [h0]

set_option maxRecDepth 100000 in
set_option maxHeartbeats 4000000 in
theorem Block_any (p : Pg) (f b : Int) (w : World) (hp : PgIs w.heap.size w p) (hT : KTab w) (hE : ETab w) (hfew : p.few) (y : Blk) (hy : blkR p f b = y) (r : Bool) (hr : blkB p f b = r) :
    Calls Tryz.prog 17 #[p.val, .int .i64 f, .int .i64 b] w fun e w' => e = .returned (.tuple #[y.val, .bool r]) ∧ Below w.heap.size w w' := by
  have HB2 := Lib.hid (below2 w (.cells #[.slice p.pa p.funs.length p.pc] 24) (.cells #[.bool false, .slice none 0 0, .slice none 0 0] 35))
  have h1 := BoxL.new w [.slice p.pa p.funs.length p.pc] 24
  have h2 := BoxL.new (w.alloc (.cells #[.slice p.pa p.funs.length p.pc] 24)) [.bool false, .slice none 0 0, .slice none 0 0] 35
  rw [World.size_alloc] at h2
  have HX1 := Lib.hid (h1.alloc (Nat.zero_lt_succ _) (.cells #[.bool false, .slice none 0 0, .slice none 0 0] 35))
  have HX2 := Lib.hid h2
  have HSZ : Hid (((w.alloc (.cells #[.slice p.pa p.funs.length p.pc] 24)).alloc (.cells #[.bool false, .slice none 0 0, .slice none 0 0] 35)).heap.size = w.heap.size + 2) := Lib.hid (by simp only [World.size_alloc])
  obtain ⟨x, hx⟩ : ∃ x, funR p f = x := ⟨_, rfl⟩
  obtain ⟨rf, hrf⟩ : ∃ rf, funB p f = rf := ⟨_, rfl⟩
  have HF := Lib.hid (Fun_any p f _ (hp.on HB2.out) (hT.on HB2.out) (hE.on HB2.out) hfew x hx rf hrf)
  have HFD := Lib.hid (funR_is (hp.below HB2.out) f)
  have HFW := Lib.hid (funR_few hfew f)
  have HLV := Lib.hid (blkB_iff p f b)
  rw [hx] at HFD HFW HLV
  rw [hr] at HLV
  have HNO : Hid (rf = false → r = false) := Lib.hid fun h => by rw [← hr]; exact blkB_none (hrf.trans h) b
  have HY : Hid (y = if r then blkAt x.blocks b.toNat else Blk.none) := Lib.hid (by rw [← hy, blkR, hr, hx])
  clear h1 h2 hT hE hfew hp hx hrf hy hr
  unfold Pg.val Fd.val at *
  obtain ⟨PL, hPL⟩ : ∃ PL, p.funs.length = PL := ⟨_, rfl⟩
  simp only [hPL] at HB2 HX1 HX2 HSZ HF HFD ⊢
  clear hPL
  generalize hE : (w.alloc (.cells #[.slice p.pa PL p.pc] 24)).alloc (.cells #[.bool false, .slice none 0 0, .slice none 0 0] 35) = W at HB2 HX1 HX2 HSZ HF HFD
  obtain ⟨g, hg⟩ : ∃ g, w.heap.size = g := ⟨_, rfl⟩
  have HGL := Lib.hid HB2.out.size
  rw [hg] at HB2 HX1 HX2 HSZ HGL HFD ⊢
  have p0 := (HX1.out 0 _ rfl).1
  obtain ⟨ar, vr, ba, bc, bl⟩ := x
  dsimp only at *
  have hb20 : bl.length ≤ 20 := HFW.out.1
  obtain ⟨BL, hBL⟩ : ∃ BL, bl.length = BL := ⟨_, rfl⟩
  have HBL := Lib.hid hBL
  rw [hBL] at HF hb20
  clear hBL HFW
  cases rf with
  | false =>
    have hr0 := HNO.out rfl
    subst hr0
    have hy0 : y = Blk.none := HY.out
    subst hy0
    unfold Blk.val Blk.none
    go_enter Tryz.func17, Tryz.ntmps17
    go_wp2_with (go_at_call 15; refine HF.out.mono ?_; rintro e wa ⟨rfl, hba⟩; have HW2 := Lib.hid ((HB2.out.trans (hba.mono HGL.out)).alloc (Nat.le_trans HGL.out hba.size) (.cells #[.int .i64 ar, .int .i64 vr, .slice ba BL bc] 29)); have HX3 := Lib.hid ((HX2.out.below hba (HX2.out.lt (Nat.zero_lt_succ _))).alloc (Nat.zero_lt_succ _) (.cells #[.int .i64 ar, .int .i64 vr, .slice ba BL bc] 29)); clear hba p0; have q0 := (HX3.out 0 _ rfl).1; have q1 := (HX3.out 1 _ rfl).1; have q2 := (HX3.out 2 _ rfl).1; have z0 := (HX3.out 0 _ rfl).2; have z1 := (HX3.out 1 _ rfl).2; have z2 := (HX3.out 2 _ rfl).2)
    refine bodyPost_ret (ret_box rfl _ _ (g + 1) [.bool false, .slice none 0 0, .slice none 0 0] _ _ rfl rfl ?_ Tryz.underlying35 rfl (by kernel_rfl)) rfl ?_
    · exact HX3.out.put3 _ _ _
    · exact ⟨rfl, below_put3 HW2.out (Nat.le_succ _) _ _ _⟩
  | true =>
  clear HNO
  have HIL := Lib.hid (fun W (h : BlksIs W.heap.size W ba bl) => isLive_any ba bl bc b W h BL HBL.out r HLV.out)
  cases r with
  | false =>
    have hy0 : y = Blk.none := HY.out
    subst hy0
    unfold Blk.val Blk.none
    go_enter Tryz.func17, Tryz.ntmps17
    go_wp2_with (first | (go_at_call 15; refine HF.out.mono ?_; rintro e wa ⟨rfl, hba⟩; have HW2 := Lib.hid ((HB2.out.trans (hba.mono HGL.out)).alloc (Nat.le_trans HGL.out hba.size) (.cells #[.int .i64 ar, .int .i64 vr, .slice ba BL bc] 29)); have HX3 := Lib.hid ((HX2.out.below hba (HX2.out.lt (Nat.zero_lt_succ _))).alloc (Nat.zero_lt_succ _) (.cells #[.int .i64 ar, .int .i64 vr, .slice ba BL bc] 29)); have HBI := Lib.hid (((HFD.out.below (hba.mono HGL.out)).below (((Below.refl _ _).alloc (Nat.le_trans HGL.out hba.size) (.cells #[.int .i64 ar, .int .i64 vr, .slice ba BL bc] 29)))).mono (Nat.le_trans (Nat.le_trans HGL.out hba.size) (below1 wa (.cells #[.int .i64 ar, .int .i64 vr, .slice ba BL bc] 29)).size)); clear hba p0; have q0 := (HX3.out 0 _ rfl).1; have q1 := (HX3.out 1 _ rfl).1; have q2 := (HX3.out 2 _ rfl).1; have z0 := (HX3.out 0 _ rfl).2; have z1 := (HX3.out 1 _ rfl).2; have z2 := (HX3.out 2 _ rfl).2) | (go_at_call 59; refine (HIL.out _ HBI.out).mono ?_; rintro e wb ⟨rfl, rfl⟩))
    refine bodyPost_ret (ret_box rfl _ _ (g + 1) [.bool false, .slice none 0 0, .slice none 0 0] _ _ rfl rfl ?_ Tryz.underlying35 rfl (by kernel_rfl)) rfl ?_
    · exact HX3.out.put3 _ _ _
    · exact ⟨rfl, below_put3 HW2.out (Nat.le_succ _) _ _ _⟩
  | true =>
    obtain ⟨hl1, hl2, hl3⟩ := HLV.out.1 rfl
    obtain ⟨k, rfl⟩ := Int.eq_ofNat_of_zero_le hl1
    have hk : k < bl.length := by omega
    rw [HBL.out] at hl2
    have hy0 : y = blkAt bl k := by have := HY.out; simpa using this
    subst hy0
    obtain ⟨bb, o, hbb, hbl, c0, c1, c2, -⟩ := HFD.out k hk
    subst hbb
    obtain ⟨lv, hlv⟩ : ∃ lv, (blkAt bl k).live = lv := ⟨_, rfl⟩
    obtain ⟨ca, hca⟩ : ∃ ca, (blkAt bl k).ca = ca := ⟨_, rfl⟩
    obtain ⟨cc, hcc⟩ : ∃ cc, (blkAt bl k).cc = cc := ⟨_, rfl⟩
    obtain ⟨sa, hsa⟩ : ∃ sa, (blkAt bl k).sa = sa := ⟨_, rfl⟩
    obtain ⟨sc, hsc⟩ : ∃ sc, (blkAt bl k).sc = sc := ⟨_, rfl⟩
    obtain ⟨CL, hCL⟩ : ∃ CL, (blkAt bl k).code.length = CL := ⟨_, rfl⟩
    obtain ⟨SL, hSL⟩ : ∃ SL, (blkAt bl k).succ.length = SL := ⟨_, rfl⟩
    unfold Blk.val
    simp only [hlv, hca, hcc, hsa, hsc, hCL, hSL] at c0 c1 c2 ⊢
    have HC0 := Lib.hid c0
    have HC1 := Lib.hid c1
    have HC2 := Lib.hid c2
    have HBLT := Lib.hid hbl
    clear hlv hca hcc hsa hsc hCL hSL c0 c1 c2 hbl hl1 hl3 HY hk
    go_enter Tryz.func17, Tryz.ntmps17
    go_wp2_with (first | (go_at_call 15; refine HF.out.mono ?_; rintro e wa ⟨rfl, hba⟩; have HWA := Lib.hid ((hba.mono HGL.out).alloc (Nat.le_trans HGL.out hba.size) (.cells #[.int .i64 ar, .int .i64 vr, .slice (some ⟨bb, o, none⟩) BL bc] 29)); have HW2 := Lib.hid (HB2.out.trans HWA.out); have HX3 := Lib.hid ((HX2.out.below hba (HX2.out.lt (Nat.zero_lt_succ _))).alloc (Nat.zero_lt_succ _) (.cells #[.int .i64 ar, .int .i64 vr, .slice (some ⟨bb, o, none⟩) BL bc] 29)); have HBI := Lib.hid ((HFD.out.below HWA.out).mono (Nat.le_trans HGL.out HWA.out.size)); clear hba p0; have c0 := (HWA.out.cell (p := ⟨bb, o + k * 3, none⟩) HBLT.out).trans HC0.out; have c1 := (HWA.out.cell (p := ⟨bb, o + k * 3 + 1, none⟩) HBLT.out).trans HC1.out; have c2 := (HWA.out.cell (p := ⟨bb, o + k * 3 + 2, none⟩) HBLT.out).trans HC2.out; have q0 := (HX3.out 0 _ rfl).1; have q1 := (HX3.out 1 _ rfl).1; have q2 := (HX3.out 2 _ rfl).1; have z0 := (HX3.out 0 _ rfl).2; have z1 := (HX3.out 1 _ rfl).2; have z2 := (HX3.out 2 _ rfl).2) | (go_at_call 59; refine (HIL.out _ HBI.out).mono ?_; rintro e wb ⟨rfl, rfl⟩))
    refine bodyPost_ret (ret_box rfl _ _ (g + 1) [.bool lv, .slice ca CL cc, .slice sa SL sc] _ _ rfl rfl ?_ Tryz.underlying35 rfl (by kernel_rfl)) rfl ?_
    · exact HX3.out.put3 _ _ _
    · exact ⟨rfl, below_put3 HW2.out (Nat.le_succ _) _ _ _⟩
end Go.Proofs.YtbddjneinfkmpaaGreatDoor

namespace Go.Proofs.YtbddjneinfkmpaaGreatDoor
open Go Go.RowKit Go.Sort

theorem BoxL.put11 {W : World} {b : Nat} {v0 v1 v2 v3 v4 v5 v6 v7 v8 v9 v10 : Value} (h : BoxL W b [v0, v1, v2, v3, v4, v5, v6, v7, v8, v9, v10]) (u0 u1 u2 u3 u4 u5 u6 u7 u8 u9 u10 : Value) : BoxL (((((((((((W.setCell ⟨b, 0, none⟩ u0).setCell ⟨b, 1, none⟩ u1).setCell ⟨b, 2, none⟩ u2).setCell ⟨b, 3, none⟩ u3).setCell ⟨b, 4, none⟩ u4).setCell ⟨b, 5, none⟩ u5).setCell ⟨b, 6, none⟩ u6).setCell ⟨b, 7, none⟩ u7).setCell ⟨b, 8, none⟩ u8).setCell ⟨b, 9, none⟩ u9).setCell ⟨b, 10, none⟩ u10) b [u0, u1, u2, u3, u4, u5, u6, u7, u8, u9, u10] :=
  (((((((((((h.put 0 u0 (by simp)).put 1 u1 (by simp)).put 2 u2 (by simp)).put 3 u3 (by simp)).put 4 u4 (by simp)).put 5 u5 (by simp)).put 6 u6 (by simp)).put 7 u7 (by simp)).put 8 u8 (by simp)).put 9 u9 (by simp)).put 10 u10 (by simp))
theorem below_put11 {B : Nat} {w W : World} (h : Below B w W) {b : Nat} (hb : B ≤ b) (u0 u1 u2 u3 u4 u5 u6 u7 u8 u9 u10 : Value) : Below B w (((((((((((W.setCell ⟨b, 0, none⟩ u0).setCell ⟨b, 1, none⟩ u1).setCell ⟨b, 2, none⟩ u2).setCell ⟨b, 3, none⟩ u3).setCell ⟨b, 4, none⟩ u4).setCell ⟨b, 5, none⟩ u5).setCell ⟨b, 6, none⟩ u6).setCell ⟨b, 7, none⟩ u7).setCell ⟨b, 8, none⟩ u8).setCell ⟨b, 9, none⟩ u9).setCell ⟨b, 10, none⟩ u10) :=
  (((((((((((h.setCell (p := ⟨b, 0, none⟩) hb u0).setCell (p := ⟨b, 1, none⟩) hb u1).setCell (p := ⟨b, 2, none⟩) hb u2).setCell (p := ⟨b, 3, none⟩) hb u3).setCell (p := ⟨b, 4, none⟩) hb u4).setCell (p := ⟨b, 5, none⟩) hb u5).setCell (p := ⟨b, 6, none⟩) hb u6).setCell (p := ⟨b, 7, none⟩) hb u7).setCell (p := ⟨b, 8, none⟩) hb u8).setCell (p := ⟨b, 9, none⟩) hb u9).setCell (p := ⟨b, 10, none⟩) hb u10)
theorem blkR_is {B : Nat} {W : World} {p : Pg} (h : PgIs B W p) (f b : Int) : BlkIs B W (blkR p f b) := by
  unfold blkR
  split
  · rename_i hb
    unfold blkB at hb
    simp at hb
    obtain ⟨k, rfl⟩ := Int.eq_ofNat_of_zero_le hb.1.1
    obtain ⟨-, -, -, -, -, -, -, hk⟩ := funR_is h f k (by omega)
    simpa using hk
  · exact ⟨fun j hj => by simp [Blk.none] at hj, fun j hj => by simp [Blk.none] at hj⟩
theorem blkR_few {p : Pg} (h : p.few) (f b : Int) : fewB (blkR p f b) := by
  unfold blkR
  split
  · exact (funR_few h f).b _
  · exact ⟨by simp [Blk.none], by simp [Blk.none]⟩
theorem blkR_none {p : Pg} {f b : Int} (h : blkB p f b = false) : blkR p f b = Blk.none := by unfold blkR; simp [h]
theorem atB_none {p : Pg} {f b : Int} (h : blkB p f b = false) (k : Int) : atB p f b k = false := by
  unfold atB
  rw [blkR_none h]
  by_cases h0 : 0 ≤ k
  · have h1 : ¬ k < ((Blk.none.code.length : Nat) : Int) := by simp [Blk.none]; omega
    simp [h1]
  · simp [h0]

set_option maxRecDepth 100000 in
set_option maxHeartbeats 4000000 in
theorem At_any (p : Pg) (f b k : Int) (w : World) (hp : PgIs w.heap.size w p) (hT : KTab w) (hE : ETab w) (hfew : p.few) (i : Ins) (hi : atR p f b k = i) (r : Bool) (hr : atB p f b k = r) :
    Calls Tryz.prog 19 #[p.val, .int .i64 f, .int .i64 b, .int .i64 k] w fun e w' => e = .returned (.tuple #[i.val, .bool r]) ∧ Below w.heap.size w w' := by
  have HB2 := Lib.hid (below2 w (.cells #[.slice p.pa p.funs.length p.pc] 24) (.cells #[.int .i64 0, .int .i64 0, .int .i64 0, .int .i64 0, .int .i64 0, .int .i64 0, .int .i64 0, .int .i64 0, .int .i64 0, .int .i64 0, .int .i64 0] 40))
  have h1 := BoxL.new w [.slice p.pa p.funs.length p.pc] 24
  have h2 := BoxL.new (w.alloc (.cells #[.slice p.pa p.funs.length p.pc] 24)) [.int .i64 0, .int .i64 0, .int .i64 0, .int .i64 0, .int .i64 0, .int .i64 0, .int .i64 0, .int .i64 0, .int .i64 0, .int .i64 0, .int .i64 0] 40
  rw [World.size_alloc] at h2
  have HX1 := Lib.hid (h1.alloc (Nat.zero_lt_succ _) (.cells #[.int .i64 0, .int .i64 0, .int .i64 0, .int .i64 0, .int .i64 0, .int .i64 0, .int .i64 0, .int .i64 0, .int .i64 0, .int .i64 0, .int .i64 0] 40))
  have HX2 := Lib.hid h2
  obtain ⟨y, hy⟩ : ∃ y, blkR p f b = y := ⟨_, rfl⟩
  obtain ⟨rf, hrf⟩ : ∃ rf, blkB p f b = rf := ⟨_, rfl⟩
  have HF := Lib.hid (Block_any p f b _ (hp.on HB2.out) (hT.on HB2.out) (hE.on HB2.out) hfew y hy rf hrf)
  have HCD := Lib.hid (blkR_is (hp.below HB2.out) f b).1
  have HFW := Lib.hid (blkR_few hfew f b)
  rw [hy] at HCD HFW
  have HNO : Hid (rf = false → r = false) := Lib.hid fun h => by rw [← hr]; exact atB_none (hrf.trans h) k
  have HRB : Hid (r = (decide (0 ≤ k) && decide (k < y.code.length))) := Lib.hid (by rw [← hr, atB, hy])
  have HY : Hid (i = if r then insAt y.code k.toNat else Ins.none) := Lib.hid (by rw [← hi, atR, hr, hy])
  clear h1 h2 hT hE hfew hp hy hrf hi hr
  unfold Pg.val Blk.val at *
  obtain ⟨PL, hPL⟩ : ∃ PL, p.funs.length = PL := ⟨_, rfl⟩
  simp only [hPL] at HB2 HX1 HX2 HF HCD ⊢
  clear hPL
  generalize hE : (w.alloc (.cells #[.slice p.pa PL p.pc] 24)).alloc (.cells #[.int .i64 0, .int .i64 0, .int .i64 0, .int .i64 0, .int .i64 0, .int .i64 0, .int .i64 0, .int .i64 0, .int .i64 0, .int .i64 0, .int .i64 0] 40) = W at HB2 HX1 HX2 HF HCD
  obtain ⟨g, hg⟩ : ∃ g, w.heap.size = g := ⟨_, rfl⟩
  have HGL := Lib.hid HB2.out.size
  rw [hg] at HB2 HX1 HX2 HGL HCD ⊢
  have p0 := (HX1.out 0 _ rfl).1
  obtain ⟨lv, ca, cc, code, sa, sc, succ⟩ := y
  dsimp only at *
  have hc30 : code.length ≤ 30 := HFW.out.1
  obtain ⟨CL, hCL⟩ : ∃ CL, code.length = CL := ⟨_, rfl⟩
  obtain ⟨SL, hSL⟩ : ∃ SL, succ.length = SL := ⟨_, rfl⟩
  have HCL := Lib.hid hCL
  rw [hCL] at HF hc30 HRB
  rw [hSL] at HF
  clear hCL hSL HFW
  have hcase : (r = false ∧ i = Ins.none) ∨ (r = true ∧ rf = true ∧ ∃ n : Nat, k = (n : Int) ∧ n < CL ∧ i = insAt code n) := by
    cases r with
    | false => exact .inl ⟨rfl, HY.out⟩
    | true =>
      have h := HRB.out
      simp at h
      obtain ⟨n, rfl⟩ := Int.eq_ofNat_of_zero_le h.1
      refine .inr ⟨rfl, ?_, n, rfl, by omega, by have := HY.out; simpa using this⟩
      cases rf with
      | true => rfl
      | false => exact absurd (HNO.out rfl) (by simp)
  obtain ⟨rfl, rfl⟩ | ⟨rfl, rfl, n, rfl, hn, rfl⟩ := hcase
  · have hwhy : rf = false ∨ (rf = true ∧ k < 0) ∨ (rf = true ∧ 0 ≤ k ∧ (CL : Int) ≤ k) := by
      have h := HRB.out
      simp at h
      cases rf with
      | false => exact .inl rfl
      | true =>
        rcases Int.lt_or_le k 0 with h0 | h0
        · exact .inr (.inl ⟨rfl, h0⟩)
        · exact .inr (.inr ⟨rfl, h0, h h0⟩)
    unfold Ins.val Ins.none
    clear HRB HY HNO
    obtain rfl | ⟨rfl, hk0⟩ | ⟨rfl, hk0, hk1⟩ := hwhy
    all_goals
      go_enter Tryz.func19, Tryz.ntmps19
      go_wp2_with (go_at_call 17; refine HF.out.mono ?_; rintro e wa ⟨rfl, hba⟩; have HW2 := Lib.hid ((HB2.out.trans (hba.mono HGL.out)).alloc (Nat.le_trans HGL.out hba.size) (.cells #[.bool lv, .slice ca CL cc, .slice sa SL sc] 35)); have HX3 := Lib.hid ((HX2.out.below hba (HX2.out.lt (Nat.zero_lt_succ _))).alloc (Nat.zero_lt_succ _) (.cells #[.bool lv, .slice ca CL cc, .slice sa SL sc] 35)); clear hba p0; have q0 := (HX3.out 0 _ rfl).1; have q1 := (HX3.out 1 _ rfl).1; have q2 := (HX3.out 2 _ rfl).1; have q3 := (HX3.out 3 _ rfl).1; have q4 := (HX3.out 4 _ rfl).1; have q5 := (HX3.out 5 _ rfl).1; have q6 := (HX3.out 6 _ rfl).1; have q7 := (HX3.out 7 _ rfl).1; have q8 := (HX3.out 8 _ rfl).1; have q9 := (HX3.out 9 _ rfl).1; have q10 := (HX3.out 10 _ rfl).1; have z0 := (HX3.out 0 _ rfl).2; have z1 := (HX3.out 1 _ rfl).2; have z2 := (HX3.out 2 _ rfl).2; have z3 := (HX3.out 3 _ rfl).2; have z4 := (HX3.out 4 _ rfl).2; have z5 := (HX3.out 5 _ rfl).2; have z6 := (HX3.out 6 _ rfl).2; have z7 := (HX3.out 7 _ rfl).2; have z8 := (HX3.out 8 _ rfl).2; have z9 := (HX3.out 9 _ rfl).2; have z10 := (HX3.out 10 _ rfl).2)
      refine bodyPost_ret (ret_box rfl _ _ (g + 1) [.int .i64 0, .int .i64 0, .int .i64 0, .int .i64 0, .int .i64 0, .int .i64 0, .int .i64 0, .int .i64 0, .int .i64 0, .int .i64 0, .int .i64 0] _ _ rfl rfl ?_ Tryz.underlying40 rfl (by kernel_rfl)) rfl ?_
      · exact HX3.out.put11 _ _ _ _ _ _ _ _ _ _ _
      · exact ⟨rfl, below_put11 HW2.out (Nat.le_succ _) _ _ _ _ _ _ _ _ _ _ _⟩
  · obtain ⟨bb, o, hbb, hbl, c0, c1, c2, c3, c4, c5, c6, c7, c8, c9, c10⟩ := HCD.out.at n (by rw [HCL.out]; exact hn)
    subst hbb
    obtain ⟨ii, hii⟩ : ∃ ii, insAt code n = ii := ⟨_, rfl⟩
    rw [hii] at c0 c1 c2 c3 c4 c5 c6 c7 c8 c9 c10 ⊢
    have hni : (n : Int) < (CL : Int) := by omega
    obtain ⟨id, kind, dst, a, b', c, f', nn, x0, x1, x2⟩ := ii
    have HC0 := Lib.hid c0
    have HC1 := Lib.hid c1
    have HC2 := Lib.hid c2
    have HC3 := Lib.hid c3
    have HC4 := Lib.hid c4
    have HC5 := Lib.hid c5
    have HC6 := Lib.hid c6
    have HC7 := Lib.hid c7
    have HC8 := Lib.hid c8
    have HC9 := Lib.hid c9
    have HC10 := Lib.hid c10
    have HBLT := Lib.hid hbl
    clear hii c0 c1 c2 c3 c4 c5 c6 c7 c8 c9 c10 hbl HY HRB HNO
    unfold Ins.val
    dsimp only at *
    go_enter Tryz.func19, Tryz.ntmps19
    go_wp2_with (go_at_call 17; refine HF.out.mono ?_; rintro e wa ⟨rfl, hba⟩; have HWA := Lib.hid ((hba.mono HGL.out).alloc (Nat.le_trans HGL.out hba.size) (.cells #[.bool lv, .slice (some ⟨bb, o, none⟩) CL cc, .slice sa SL sc] 35)); have HW2 := Lib.hid (HB2.out.trans HWA.out); have HX3 := Lib.hid ((HX2.out.below hba (HX2.out.lt (Nat.zero_lt_succ _))).alloc (Nat.zero_lt_succ _) (.cells #[.bool lv, .slice (some ⟨bb, o, none⟩) CL cc, .slice sa SL sc] 35)); clear hba p0; have c0 := (HWA.out.cell (p := ⟨bb, o + n * 11, none⟩) HBLT.out).trans HC0.out; have c1 := (HWA.out.cell (p := ⟨bb, o + n * 11 + 1, none⟩) HBLT.out).trans HC1.out; have c2 := (HWA.out.cell (p := ⟨bb, o + n * 11 + 2, none⟩) HBLT.out).trans HC2.out; have c3 := (HWA.out.cell (p := ⟨bb, o + n * 11 + 3, none⟩) HBLT.out).trans HC3.out; have c4 := (HWA.out.cell (p := ⟨bb, o + n * 11 + 4, none⟩) HBLT.out).trans HC4.out; have c5 := (HWA.out.cell (p := ⟨bb, o + n * 11 + 5, none⟩) HBLT.out).trans HC5.out; have c6 := (HWA.out.cell (p := ⟨bb, o + n * 11 + 6, none⟩) HBLT.out).trans HC6.out; have c7 := (HWA.out.cell (p := ⟨bb, o + n * 11 + 7, none⟩) HBLT.out).trans HC7.out; have c8 := (HWA.out.cell (p := ⟨bb, o + n * 11 + 8, none⟩) HBLT.out).trans HC8.out; have c9 := (HWA.out.cell (p := ⟨bb, o + n * 11 + 9, none⟩) HBLT.out).trans HC9.out; have c10 := (HWA.out.cell (p := ⟨bb, o + n * 11 + 10, none⟩) HBLT.out).trans HC10.out; have q0 := (HX3.out 0 _ rfl).1; have q1 := (HX3.out 1 _ rfl).1; have q2 := (HX3.out 2 _ rfl).1; have q3 := (HX3.out 3 _ rfl).1; have q4 := (HX3.out 4 _ rfl).1; have q5 := (HX3.out 5 _ rfl).1; have q6 := (HX3.out 6 _ rfl).1; have q7 := (HX3.out 7 _ rfl).1; have q8 := (HX3.out 8 _ rfl).1; have q9 := (HX3.out 9 _ rfl).1; have q10 := (HX3.out 10 _ rfl).1; have z0 := (HX3.out 0 _ rfl).2; have z1 := (HX3.out 1 _ rfl).2; have z2 := (HX3.out 2 _ rfl).2; have z3 := (HX3.out 3 _ rfl).2; have z4 := (HX3.out 4 _ rfl).2; have z5 := (HX3.out 5 _ rfl).2; have z6 := (HX3.out 6 _ rfl).2; have z7 := (HX3.out 7 _ rfl).2; have z8 := (HX3.out 8 _ rfl).2; have z9 := (HX3.out 9 _ rfl).2; have z10 := (HX3.out 10 _ rfl).2)
    refine bodyPost_ret (ret_box rfl _ _ (g + 1) [.int .i64 id, .int .i64 kind, .int .i64 dst, .int .i64 a, .int .i64 b', .int .i64 c, .int .i64 f', .int .i64 nn, .int .i64 x0, .int .i64 x1, .int .i64 x2] _ _ rfl rfl ?_ Tryz.underlying40 rfl (by kernel_rfl)) rfl ?_
    · exact HX3.out.put11 _ _ _ _ _ _ _ _ _ _ _
    · exact ⟨rfl, below_put11 HW2.out (Nat.le_succ _) _ _ _ _ _ _ _ _ _ _ _⟩
end Go.Proofs.YtbddjneinfkmpaaGreatDoor

namespace Go.Proofs.YtbddjneinfkmpaaGreatDoor
open Go Go.RowKit Go.Sort

/-- The first q blocks that b may follow. -/
def predsTo (bl : List Blk) (b : Int) (q : Nat) : List Int := ((List.range q).filter fun k => decide (b ∈ (blkAt bl k).succ)).map fun k : Nat => (k : Int)
theorem predsTo_succ (bl : List Blk) (b : Int) (q : Nat) : predsTo bl b (q + 1) = predsTo bl b q ++ if b ∈ (blkAt bl q).succ then [(q : Int)] else [] := by
  unfold predsTo
  rw [List.range_succ, List.filter_append, List.map_append]
  by_cases h : b ∈ (blkAt bl q).succ
  · simp [h]
  · simp [h]
theorem predsTo_le (bl : List Blk) (b : Int) (q : Nat) : (predsTo bl b q).length ≤ q := by
  unfold predsTo
  rw [List.length_map]
  exact Nat.le_trans (List.length_filter_le _ _) (by simp)
noncomputable def predsR (p : Pg) (f b : Int) : List Int := predsTo (funR p f).blocks b (funR p f).blocks.length

set_option maxRecDepth 100000 in
set_option maxHeartbeats 4000000 in
theorem Preds_any (p : Pg) (f b : Int) (w : World) (hp : PgIs w.heap.size w p) (hT : KTab w) (hE : ETab w) (hfew : p.few) (l : List Int) (hl : predsR p f b = l) :
    Calls Tryz.prog 27 #[p.val, .int .i64 f, .int .i64 b] w fun e w' => ∃ u, e = .returned u ∧ w'.ownsRow w.heap.size 3 1 u l.length (l.map (Value.int .i64)) ∧ Below w.heap.size w w' := by
  have HB1 := Lib.hid (below1 w (.cells #[.slice p.pa p.funs.length p.pc] 24))
  obtain ⟨x, hx⟩ : ∃ x, funR p f = x := ⟨_, rfl⟩
  obtain ⟨rf, hrf⟩ : ∃ rf, funB p f = rf := ⟨_, rfl⟩
  have HF := Lib.hid (Fun_any p f _ (hp.on HB1.out) (hT.on HB1.out) (hE.on HB1.out) hfew x hx rf hrf)
  have HFD := Lib.hid (funR_is hp f)
  have HFW := Lib.hid (funR_few hfew f)
  have HL : Hid (predsTo x.blocks b x.blocks.length = l) := Lib.hid (by rw [← hl, predsR, hx])
  rw [hx] at HFD HFW
  clear hT hE hfew hp hx hrf hl
  unfold Pg.val Fd.val at *
  obtain ⟨ar, vr, ba, bc, bl⟩ := x
  dsimp only at *
  have hb20 : bl.length ≤ 20 := HFW.out.1
  have HFB := Lib.hid (fun k => HFW.out.b k)
  dsimp only at HFB
  obtain ⟨BL, hBL⟩ : ∃ BL, bl.length = BL := ⟨_, rfl⟩
  have HBL := Lib.hid hBL
  rw [hBL] at HF hb20 HL
  clear hBL HFW
  obtain ⟨i0, hi, hz0, hz1, hz2⟩ := info_parts info3
  go_enter Tryz.func27, Tryz.ntmps27
  go_wp2_with (go_at_call 15; refine HF.out.mono ?_; rintro e wa ⟨rfl, hba⟩; have HW2 := Lib.hid ((HB1.out.trans (hba.mono HB1.out.size)).alloc (Nat.le_trans HB1.out.size hba.size) (.cells #[.int .i64 ar, .int .i64 vr, .slice ba BL bc] 29)); clear hba)
  go_loopw [9, 21] (fun v i wr => ∃ q : Nat, q ≤ BL ∧ i = .int .i64 q ∧ Hid (wr.ownsRow w.heap.size 3 1 v (predsTo bl b q).length ((predsTo bl b q).map (Value.int .i64))) ∧ Hid (Below w.heap.size w wr)) (fun _ i _ => BL - (intOf i).toNat)
  case atStart => exact ⟨0, Nat.zero_le _, rfl, World.ownsRow_nil _ _ _ _, HW2⟩
  case round =>
    obtain ⟨q, hq, rfl, hown, hBw⟩ := hrel
    by_cases hlt : q < BL
    · obtain ⟨g, o, rfl, hgl, c0, c1, c2, hbk⟩ := (HFD.out.below hBw.out) q (by rw [HBL.out]; exact hlt)
      have hks := predsTo_succ bl b q
      have hkl := predsTo_le bl b q
      have hs30 := (HFB.out q).2
      have HSI := Lib.hid (hbk.2.below (((Below.refl w.heap.size wr).alloc hBw.out.size (.cells #[.bool (blkAt bl q).live, .slice (blkAt bl q).ca (blkAt bl q).code.length (blkAt bl q).cc, .slice (blkAt bl q).sa (blkAt bl q).succ.length (blkAt bl q).sc] 35))))
      clear hbk hgl
      obtain ⟨bk, hbkq⟩ : ∃ bk, blkAt bl q = bk := ⟨_, rfl⟩
      simp only [hbkq] at c0 c1 c2 hks hs30 HSI
      clear hbkq
      obtain ⟨lv, ca, cc, code, sa, sc, succ⟩ := bk
      dsimp only at c0 c1 c2 hks hs30 HSI
      obtain ⟨SL, hSL⟩ : ∃ SL, succ.length = SL := ⟨_, rfl⟩
      obtain ⟨CL, hCL⟩ : ∃ CL, code.length = CL := ⟨_, rfl⟩
      rw [hSL] at c2 hs30
      rw [hCL] at c1
      simp only [hSL, hCL] at HSI
      have HSL := Lib.hid hSL
      clear hSL hCL
      have HBW := Lib.hid (hBw.out.alloc hBw.out.size (.cells #[.bool lv, .slice ca CL cc, .slice sa SL sc] 35))
      have HOA := Lib.hid (hown.out.alloc (.cells #[.bool lv, .slice ca CL cc, .slice sa SL sc] 35))
      have HCT := Lib.hid (fun r hr => Bi.Contains_any sa succ sc b _ (HSI.out.mono HBW.out.size) SL HSL.out (by omega) r hr)
      have h63 : (predsTo bl b q).length + 1 ≤ maxLen := by unfold maxLen; omega
      have hby : ((predsTo bl b q).length + 1) * 8 ≤ 140737488355328 := by omega
      have hqi : (q : Int) < (BL : Int) := by omega
      by_cases hin : b ∈ succ
      · rw [if_pos hin] at hks
        have HKS := Lib.hid hks
        have HC := Lib.hid (HCT.out true (by simp [hin]))
        clear hks hin HCT
        go_wp2_with (first | (go_at_call 66; refine HC.out.mono ?_; rintro e w' ⟨rfl, rfl⟩) | (at_builtin; refine wpList_append_own _ rfl _ _ 33 rfl w.heap.size 3 i0 (.int .i64 0) 1 8 Tryz.underlying33 hi hz0 hz1 hz2 rfl (by decide) _ _ _ rfl (HOA.out.alloc _) ⟨_, 0, none⟩ 1 1 [.int .i64 (q : Int)] rfl rfl (by simpa only [World.size_alloc] using cell_one_new (wr.alloc (.cells #[.bool lv, .slice ca CL cc, .slice sa SL sc] 35)) (.int .i64 (q : Int)) 3) (by simp [Value.oneCell']) h63 hby (by have := HBW.out.size; simp only [World.size_alloc] at this ⊢; omega) ?_; intro v' w4 hown' hgrow _; have HB4 := Lib.hid (owns_grown (HBW.out.alloc HBW.out.size _) (HOA.out.alloc _) hgrow (by have := HBW.out.size; simp only [World.size_alloc] at this ⊢; omega)); have HO4 := Lib.hid hown'; clear hown' hgrow))
        go_roundw
        case rel =>
          refine ⟨q + 1, by omega, by go_num, ?_, HB4⟩
          rw [HKS.out]
          show w4.ownsRow w.heap.size 3 1 _ (predsTo bl b q ++ [(q : Int)]).length ((predsTo bl b q ++ [(q : Int)]).map (Value.int .i64))
          simpa using HO4.out
        case measure => simp [intOf]; omega
      · rw [if_neg hin, List.append_nil] at hks
        have HKS := Lib.hid hks
        have HC := Lib.hid (HCT.out false (by simp [hin]))
        clear hks hin HCT
        go_wp2_with (go_at_call 66; refine HC.out.mono ?_; rintro e w' ⟨rfl, rfl⟩)
        go_roundw
        case rel => exact ⟨q + 1, by omega, by go_num, by rw [HKS.out]; exact HOA, HBW⟩
        case measure => simp [intOf]; omega
    · obtain rfl : q = BL := by omega
      go_wp2_with fail
      go_ret
      rw [← HL.out]
      exact ⟨_, rfl, hown.out, hBw.out⟩
end Go.Proofs.YtbddjneinfkmpaaGreatDoor

namespace Go.Proofs.YtbddjneinfkmpaaGreatDoor
open Go Go.RowKit Go.Sort

set_option maxRecDepth 100000 in
set_option maxHeartbeats 4000000 in
theorem Preds0_any (p : Pg) (f b : Int) (w : World) (hp : PgIs w.heap.size w p) (hT : KTab w) (hE : ETab w) (hfew : p.few) (hl : ∀ k, k < (funR p f).blocks.length → b ∉ (blkAt (funR p f).blocks k).succ) :
    Calls Tryz.prog 27 #[p.val, .int .i64 f, .int .i64 b] w fun e w' => e = .returned (.slice none 0 0) ∧ Below w.heap.size w w' := by
  have HB1 := Lib.hid (below1 w (.cells #[.slice p.pa p.funs.length p.pc] 24))
  obtain ⟨x, hx⟩ : ∃ x, funR p f = x := ⟨_, rfl⟩
  obtain ⟨rf, hrf⟩ : ∃ rf, funB p f = rf := ⟨_, rfl⟩
  have HF := Lib.hid (Fun_any p f _ (hp.on HB1.out) (hT.on HB1.out) (hE.on HB1.out) hfew x hx rf hrf)
  have HFD := Lib.hid (funR_is hp f)
  have HFW := Lib.hid (funR_few hfew f)
  have HL := Lib.hid hl
  rw [hx] at HFD HFW HL
  clear hT hE hfew hp hx hrf hl
  unfold Pg.val Fd.val at *
  obtain ⟨ar, vr, ba, bc, bl⟩ := x
  dsimp only at *
  have hb20 : bl.length ≤ 20 := HFW.out.1
  have HFB := Lib.hid (fun k => HFW.out.b k)
  dsimp only at HFB
  obtain ⟨BL, hBL⟩ : ∃ BL, bl.length = BL := ⟨_, rfl⟩
  have HBL := Lib.hid hBL
  rw [hBL] at HF hb20 HL
  clear hBL HFW
  go_enter Tryz.func27, Tryz.ntmps27
  go_wp2_with (go_at_call 15; refine HF.out.mono ?_; rintro e wa ⟨rfl, hba⟩; have HW2 := Lib.hid ((HB1.out.trans (hba.mono HB1.out.size)).alloc (Nat.le_trans HB1.out.size hba.size) (.cells #[.int .i64 ar, .int .i64 vr, .slice ba BL bc] 29)); clear hba)
  go_loopw [9, 21] (fun v i wr => ∃ q : Nat, q ≤ BL ∧ i = .int .i64 q ∧ v = .slice none 0 0 ∧ Hid (Below w.heap.size w wr)) (fun _ i _ => BL - (intOf i).toNat)
  case atStart => exact ⟨0, Nat.zero_le _, rfl, rfl, HW2⟩
  case round =>
    obtain ⟨q, hq, rfl, rfl, hBw⟩ := hrel
    by_cases hlt : q < BL
    · obtain ⟨g, o, rfl, hgl, c0, c1, c2, hbk⟩ := (HFD.out.below hBw.out) q (by rw [HBL.out]; exact hlt)
      have hin := HL.out q hlt
      have hs30 := (HFB.out q).2
      have HSI := Lib.hid (hbk.2.below (((Below.refl w.heap.size wr).alloc hBw.out.size (.cells #[.bool (blkAt bl q).live, .slice (blkAt bl q).ca (blkAt bl q).code.length (blkAt bl q).cc, .slice (blkAt bl q).sa (blkAt bl q).succ.length (blkAt bl q).sc] 35))))
      clear hbk hgl
      obtain ⟨bk, hbkq⟩ : ∃ bk, blkAt bl q = bk := ⟨_, rfl⟩
      simp only [hbkq] at c0 c1 c2 hin hs30 HSI
      clear hbkq
      obtain ⟨lv, ca, cc, code, sa, sc, succ⟩ := bk
      dsimp only at c0 c1 c2 hin hs30 HSI
      obtain ⟨SL, hSL⟩ : ∃ SL, succ.length = SL := ⟨_, rfl⟩
      obtain ⟨CL, hCL⟩ : ∃ CL, code.length = CL := ⟨_, rfl⟩
      rw [hSL] at c2 hs30
      rw [hCL] at c1
      simp only [hSL, hCL] at HSI
      have HSL := Lib.hid hSL
      clear hSL hCL
      have HBW := Lib.hid (hBw.out.alloc hBw.out.size (.cells #[.bool lv, .slice ca CL cc, .slice sa SL sc] 35))
      have HCT := Lib.hid (fun r hr => Bi.Contains_any sa succ sc b _ (HSI.out.mono HBW.out.size) SL HSL.out (by omega) r hr)
      have hqi : (q : Int) < (BL : Int) := by omega
      have HC := Lib.hid (HCT.out false (by simp [hin]))
      clear hin HCT
      go_wp2_with (go_at_call 66; refine HC.out.mono ?_; rintro e w' ⟨rfl, rfl⟩)
      go_roundw
      case rel => exact ⟨q + 1, by omega, by go_num, rfl, HBW⟩
      case measure => simp [intOf]; omega
    · obtain rfl : q = BL := by omega
      go_wp2_with fail
      go_ret
      exact ⟨rfl, hBw.out⟩
end Go.Proofs.YtbddjneinfkmpaaGreatDoor

namespace Go.Proofs.YtbddjneinfkmpaaGreatDoor
open Go Go.RowKit Go.Sort

/-- The first of n numbers of which it is so, or -1. -/
def First (n : Nat) (P : Nat → Prop) (z : Int) : Prop := (z = -1 ∧ ∀ k, k < n → ¬ P k) ∨ (∃ k, k < n ∧ z = (k : Int) ∧ P k ∧ ∀ j, j < k → ¬ P j)
theorem First.one {n : Nat} {P : Nat → Prop} {y z : Int} (hy : First n P y) (hz : First n P z) : y = z := by
  rcases hy with ⟨rfl, hy⟩ | ⟨k, hk, rfl, h1, h2⟩ <;> rcases hz with ⟨rfl, hz⟩ | ⟨j, hj, rfl, g1, g2⟩
  · rfl
  · exact absurd g1 (hy j hj)
  · exact absurd h1 (hz k hk)
  · rcases Nat.lt_trichotomy k j with h | rfl | h
    · exact absurd h1 (g2 k h)
    · rfl
    · exact absurd g1 (h2 j h)

set_option maxHeartbeats 4000000 in
theorem IndexR_any (g o n cap : Nat) (f : Nat → Int) (x : Int) (w : World) (hl : n ≤ 1000) (hc : ∀ k, k < n → w.cell? ⟨g, o + k, none⟩ = some (.int .i64 (f k))) :
    Calls Tryz.prog 73 #[.slice (some ⟨g, o, none⟩) n cap, .int .i64 x] w fun e w' => (∃ z : Int, e = .returned (.int .i64 z) ∧ First n (fun k => f k = x) z) ∧ w' = w := by
  have HC := Lib.hid hc
  clear hc
  go_enter Tryz.func73, Tryz.ntmps73
  go_wp2
  go_loop [8] (fun i => ∃ q : Nat, q ≤ n ∧ i = .int .i64 q ∧ Hid (∀ j : Nat, j < q → ¬ f j = x)) (fun i => n - (intOf i).toNat)
  case atStart => exact ⟨0, Nat.zero_le _, rfl, fun j hj => absurd hj (Nat.not_lt_zero _)⟩
  case round =>
    obtain ⟨q, hq, rfl, hne⟩ := hrel
    by_cases hlt : q < n
    · have hcell := HC.out q hlt
      obtain ⟨y, hy⟩ : ∃ y, f q = y := ⟨_, rfl⟩
      rw [hy] at hcell
      have HY := Lib.hid hy
      clear hy
      have hqi : (q : Int) < (n : Int) := by omega
      by_cases hxy : x = y
      · subst hxy
        go_wp2
        go_ret
        exact ⟨⟨_, rfl, .inr ⟨q, hlt, rfl, HY.out, hne.out⟩⟩, rfl⟩
      · have hxy' : ¬ (x = y) := hxy
        go_wp2
        refine ⟨⟨q + 1, by omega, by go_num, fun j hj => ?_⟩, by simp [intOf]; omega⟩
        rcases Nat.lt_succ_iff_lt_or_eq.1 hj with h | rfl
        · exact hne.out j h
        · rw [HY.out]; exact fun e => hxy' e.symm
    · obtain rfl : q = n := by omega
      go_wp2
      go_ret
      exact ⟨⟨_, rfl, .inl ⟨rfl, hne.out⟩⟩, rfl⟩

/-- What NewBlock tells. -/
def NewBlkIs (p : Pg) (f z : Int) : Prop := if funB p f = true then First 12 (fun k => ¬ liveAt (funR p f).blocks (k : Int)) z else z = -1

set_option maxRecDepth 100000 in
set_option maxHeartbeats 4000000 in
theorem NewBlock_any (p : Pg) (f : Int) (w : World) (hp : PgIs w.heap.size w p) (hT : KTab w) (hE : ETab w) (hfew : p.few) :
    Calls Tryz.prog 36 #[p.val, .int .i64 f] w fun e w' => (∃ z : Int, e = .returned (.int .i64 z) ∧ NewBlkIs p f z) ∧ Below w.heap.size w w' := by
  have HB1 := Lib.hid (below1 w (.cells #[.slice p.pa p.funs.length p.pc] 24))
  unfold NewBlkIs
  obtain ⟨x, hx⟩ : ∃ x, funR p f = x := ⟨_, rfl⟩
  obtain ⟨rf, hrf⟩ : ∃ rf, funB p f = rf := ⟨_, rfl⟩
  have HF := Lib.hid (Fun_any p f _ (hp.on HB1.out) (hT.on HB1.out) (hE.on HB1.out) hfew x hx rf hrf)
  have HFD := Lib.hid (funR_is hp f)
  have HFW := Lib.hid (funR_few hfew f)
  rw [hx] at HFD HFW
  rw [hx, hrf]
  clear hT hE hfew hp hx hrf
  unfold Pg.val Fd.val at *
  obtain ⟨ar, vr, ba, bc, bl⟩ := x
  dsimp only at *
  have hb20 : bl.length ≤ 20 := HFW.out.1
  obtain ⟨BL, hBL⟩ : ∃ BL, bl.length = BL := ⟨_, rfl⟩
  have HBL := Lib.hid hBL
  rw [hBL] at HF hb20
  clear hBL HFW
  cases rf with
  | false =>
    simp only [Bool.false_eq_true, if_false]
    go_enter Tryz.func36, Tryz.ntmps36
    go_wp2_with (go_at_call 15; refine HF.out.mono ?_; rintro e wa ⟨rfl, hba⟩; have HW2 := Lib.hid ((HB1.out.trans (hba.mono HB1.out.size)).alloc (Nat.le_trans HB1.out.size hba.size) (.cells #[.int .i64 ar, .int .i64 vr, .slice ba BL bc] 29)); clear hba)
    go_ret
    exact ⟨⟨_, rfl, rfl⟩, HW2.out⟩
  | true =>
    simp only [if_true]
    go_enter Tryz.func36, Tryz.ntmps36
    go_wp2_with (go_at_call 15; refine HF.out.mono ?_; rintro e wa ⟨rfl, hba⟩; have HW2 := Lib.hid ((HB1.out.trans (hba.mono HB1.out.size)).alloc (Nat.le_trans HB1.out.size hba.size) (.cells #[.int .i64 ar, .int .i64 vr, .slice ba BL bc] 29)); clear hba)
    have HIL := Lib.hid (fun b r hr => isLive_any ba bl bc b _ ((HFD.out.below HW2.out).mono HW2.out.size) BL HBL.out r hr)
    go_loop [16] (fun i => ∃ q : Nat, q ≤ 12 ∧ i = .int .i64 q ∧ Hid (∀ j : Nat, j < q → ¬ ¬ liveAt bl (j : Int))) (fun i => 12 - (intOf i).toNat)
    case atStart => exact ⟨0, Nat.zero_le _, rfl, fun j hj => absurd hj (Nat.not_lt_zero _)⟩
    case round =>
      obtain ⟨q, hq, rfl, hne⟩ := hrel
      by_cases hlt : q < 12
      · have hqi : (q : Int) < 12 := by omega
        by_cases hlv : liveAt bl (q : Int)
        · have HC := Lib.hid (HIL.out (q : Int) true (by simp [hlv]))
          have HLV := Lib.hid hlv
          clear HIL hlv
          go_wp2_with (go_at_call 59; refine HC.out.mono ?_; rintro e w' ⟨rfl, rfl⟩)
          refine ⟨⟨q + 1, by omega, by go_num, fun j hj => ?_⟩, by simp [intOf]; omega⟩
          rcases Nat.lt_succ_iff_lt_or_eq.1 hj with h | rfl
          · exact hne.out j h
          · exact fun h => h HLV.out
        · have HC := Lib.hid (HIL.out (q : Int) false (by simp [hlv]))
          have HLV := Lib.hid hlv
          clear HIL hlv
          go_wp2_with (go_at_call 59; refine HC.out.mono ?_; rintro e w' ⟨rfl, rfl⟩)
          go_ret
          exact ⟨⟨_, rfl, .inr ⟨q, hlt, rfl, HLV.out, hne.out⟩⟩, HW2.out⟩
      · obtain rfl : q = 12 := by omega
        go_wp2_with fail
        go_ret
        exact ⟨⟨_, rfl, .inl ⟨rfl, hne.out⟩⟩, HW2.out⟩
end Go.Proofs.YtbddjneinfkmpaaGreatDoor

namespace Go.Proofs.YtbddjneinfkmpaaGreatDoor
open Go Go.RowKit Go.Sort

/-- What NewId tells. -/
def NewIdIs (p : Pg) (z : Int) : Prop := (p.sane ∧ First 96 (fun k => (p.ins.map Ins.id).count (k : Int) = 0) z) ∨ (¬ p.sane ∧ z = -1)

set_option maxRecDepth 100000 in
set_option maxHeartbeats 4000000 in
theorem NewId_any (p : Pg) (w : World) (hp : PgIs w.heap.size w p) (hT : KTab w) (hE : ETab w) (hfew : p.few) :
    Calls Tryz.prog 34 #[p.val] w fun e w' => (∃ z : Int, e = .returned (.int .i64 z) ∧ NewIdIs p z) ∧ Below w.heap.size w w' := by
  have HB1 := Lib.hid (below1 w (.cells #[.slice p.pa p.funs.length p.pc] 24))
  have HX : Hid (BoxL (w.alloc (.cells #[.slice p.pa p.funs.length p.pc] 24)) w.heap.size [.slice p.pa p.funs.length p.pc]) := Lib.hid (BoxL.new w [.slice p.pa p.funs.length p.pc] 24)
  have HS := Lib.hid (fun s hs => Sane_any p _ (hp.on HB1.out) (hT.on HB1.out) (hE.on HB1.out) hfew s hs)
  have HI := Lib.hid (fun W (h : Below w.heap.size w W) (hid : p.sane) => idTimes_any p W (hp.on h) hfew (ids_ok hid.2.1))
  unfold NewIdIs
  obtain ⟨ok, hok⟩ : ∃ ok, p.sane = ok := ⟨_, rfl⟩
  obtain ⟨ids, hids⟩ : ∃ ids, p.ins.map Ins.id = ids := ⟨_, rfl⟩
  simp only [hok, hids] at HS HI ⊢
  clear hok hids hp hT hE hfew
  unfold Pg.val at *
  obtain ⟨PL, hPL⟩ : ∃ PL, p.funs.length = PL := ⟨_, rfl⟩
  simp only [hPL] at HB1 HX HS HI ⊢
  clear hPL
  generalize hE : w.alloc (.cells #[.slice p.pa PL p.pc] 24) = W at HB1 HX HS
  obtain ⟨g, hg⟩ : ∃ g, w.heap.size = g := ⟨_, rfl⟩
  have HGL := Lib.hid HB1.out.size
  have HLT := Lib.hid (HX.out.lt (Nat.zero_lt_succ _))
  rw [hg] at HB1 HX HGL HLT HI ⊢
  have k0 := (HX.out 0 _ rfl).1
  by_cases hk : ok
  rotate_left
  · have HC := Lib.hid (HS.out false (by simp [hk]))
    have HK := Lib.hid hk
    clear HS HI hk
    go_enter Tryz.func34, Tryz.ntmps34
    go_wp2_with (go_at_call 23; refine HC.out.mono ?_; rintro e wa ⟨rfl, hba⟩; have HW2 := Lib.hid (HB1.out.trans (hba.mono HGL.out)); clear hba)
    go_ret
    exact ⟨⟨_, rfl, .inr ⟨HK.out, rfl⟩⟩, HW2.out⟩
  have HC := Lib.hid (HS.out true (by simp [hk]))
  have HK := Lib.hid hk
  clear HS hk
  go_enter Tryz.func34, Tryz.ntmps34
  go_wp2_with (first | (go_at_call 23; refine HC.out.mono ?_; rintro e wa ⟨rfl, hba⟩; have HW2 := Lib.hid (HB1.out.trans (hba.mono HGL.out)); have HB2 := Lib.hid (HX.out.below hba HLT.out); have HG2 := Lib.hid (Nat.le_trans HGL.out hba.size); clear hba HX k0; have k0 := (HB2.out 0 _ rfl).1) | (go_at_call 72; refine (HI.out wa HW2.out HK.out).mono ?_; rintro e wb ⟨rfl, hbb⟩; have HW3 := Lib.hid (HW2.out.trans (hbb.mono HG2.out)); have HG3 := Lib.hid (Nat.le_trans HG2.out hbb.size); clear hbb k0; obtain ⟨cs, hcse⟩ : ∃ cs, idCells ids = cs := ⟨_, rfl⟩; have hcs : cs.size = 96 := by { rw [← hcse]; exact idCells_size _ }; have hall : cs.all (·.oneCell') = true := by { rw [← hcse]; simp [idCells, Value.oneCell'] }; have hz : Tryz.zeroCells92.size = 96 := by { rw [← idCells_nil]; exact idCells_size _ }; have HAT : Hid (∀ k, k < 96 → cs[k]? = some (.int .i64 ((ids.count (k : Int) : Nat) : Int))) := Lib.hid (fun k hk => by { rw [← hcse]; exact idCells_at _ k hk }); rw [hcse]; clear hcse))
  rw [run_storeCells_new (P := Tryz.prog) wb 92 Tryz.zeroCells92 cs (by rw [hcs]; kernel_rfl) (by rw [hcs, hz]) hall]
  have HW4 := Lib.hid (HW3.out.trans ((below1 wb (.cells cs 92)).mono HG3.out))
  have HMX := Lib.hid (IndexR_any wb.heap.size 0 96 96 (fun k => ((ids.count (k : Int) : Nat) : Int)) 0 (wb.alloc (.cells cs 92)) (by decide) (fun k hk => by
    rw [Nat.zero_add, cell_of_row _ _ k cs 92 (0, 0) (heap_alloc_new wb _)]
    exact HAT.out k hk))
  clear hall hz HAT hcs
  go_wp2_with (go_at_call 73; refine HMX.out.mono ?_; rintro e wc ⟨⟨m, rfl, hm⟩, rfl⟩; have HM := Lib.hid hm; clear hm)
  go_ret
  refine ⟨⟨_, rfl, .inl ⟨HK.out, ?_⟩⟩, HW4.out⟩
  rcases HM.out with ⟨h1, h2⟩ | ⟨k, h1, h2, h3, h4⟩
  · exact .inl ⟨h1, fun k hk h => h2 k hk (by omega)⟩
  · exact .inr ⟨k, h1, h2, by omega, fun j hj h => h4 j hj (by omega)⟩

/-- The document's example, at the places a and b. -/
def pg1 (a b : Addr) : Pg := ⟨some a, 1, [⟨0, 0, some b, 1, [⟨true, none, 0, [], none, 0, []⟩]⟩]⟩
theorem pg1_few (a b : Addr) : (pg1 a b).few := by
  refine ⟨by simp [pg1], fun k hk => ?_⟩
  obtain rfl : k = 0 := by simp [pg1] at hk; omega
  refine ⟨by simp [pg1, fdAt], fun j hj => ?_⟩
  obtain rfl : j = 0 := by simp [pg1, fdAt] at hj; omega
  exact ⟨by simp [pg1, fdAt, blkAt], by simp [pg1, fdAt, blkAt]⟩
theorem pg1_sane (a b : Addr) : (pg1 a b).sane := by
  refine ⟨by simp [pg1], fun k hk => ?_, by simp [pg1, Pg.ins, Fd.ins, Blk.ins]⟩
  obtain rfl : k = 0 := by simp [pg1] at hk; omega
  refine ⟨by simp [pg1, fdAt, headOk, blkAt], fun j hj => ?_⟩
  obtain rfl : j = 0 := by simp [pg1, fdAt] at hj; omega
  exact ⟨by simp [pg1, fdAt, blkAt], by simp [pg1, fdAt, blkAt], fun k hk => by simp [pg1, fdAt, blkAt] at hk, fun k hk => by simp [pg1, fdAt, blkAt] at hk⟩
theorem pg1_funB (a b : Addr) : funB (pg1 a b) 0 = true := by
  unfold funB
  rw [(saneB_iff _).2 (pg1_sane a b)]
  simp [pg1]
theorem pg1_funR (a b : Addr) : funR (pg1 a b) 0 = ⟨0, 0, some b, 1, [⟨true, none, 0, [], none, 0, []⟩]⟩ := by
  unfold funR
  rw [pg1_funB]
  simp [pg1, fdAt]
theorem pg1_newBlk (a b : Addr) {z : Int} (h : NewBlkIs (pg1 a b) 0 z) : z = 1 := by
  unfold NewBlkIs at h
  rw [pg1_funB, pg1_funR] at h
  simp only [if_true] at h
  refine h.one (.inr ⟨1, by decide, rfl, ?_, fun j hj => ?_⟩)
  · intro h2; have := h2.2.1; simp at this
  · obtain rfl : j = 0 := by omega
    exact fun h2 => h2 ⟨by simp, by simp, by simp [blkAt]⟩
theorem pg1_newId (a b : Addr) {z : Int} (h : NewIdIs (pg1 a b) z) : z = 0 := by
  rcases h with ⟨-, h⟩ | ⟨h, -⟩
  · exact h.one (.inr ⟨0, by decide, rfl, by simp [pg1, Pg.ins, Fd.ins, Blk.ins], fun j hj => absurd hj (Nat.not_lt_zero _)⟩)
  · exact absurd (pg1_sane a b) h
end Go.Proofs.YtbddjneinfkmpaaGreatDoor

namespace Go.Proofs.YtbddjneinfkmpaaGreatDoor
open Go Go.RowKit Go.Sort

theorem pg1_is (w : World) (t t' t'' : TypeId) : PgIs (w.heap.size + 3) (((w.alloc (.cells #[.bool true, .slice none 0 0, .slice none 0 0] t)).alloc (.cells #[.int .i64 0, .int .i64 0, .slice (some ⟨w.heap.size, 0, none⟩) 1 1] t')).alloc (.cells #[.slice (some ⟨w.heap.size + 1, 0, none⟩) 1 1] t'')) (pg1 ⟨w.heap.size + 1, 0, none⟩ ⟨w.heap.size, 0, none⟩) := by
  have h1 := BoxL.new w [.bool true, .slice none 0 0, .slice none 0 0] t
  have h2 := BoxL.new (w.alloc (.cells #[.bool true, .slice none 0 0, .slice none 0 0] t)) [.int .i64 0, .int .i64 0, .slice (some ⟨w.heap.size, 0, none⟩) 1 1] t'
  rw [World.size_alloc] at h2
  replace h1 := (h1.alloc (Nat.zero_lt_succ _) (.cells #[.int .i64 0, .int .i64 0, .slice (some ⟨w.heap.size, 0, none⟩) 1 1] t')).alloc (Nat.zero_lt_succ _) (.cells #[.slice (some ⟨w.heap.size + 1, 0, none⟩) 1 1] t'')
  replace h2 := h2.alloc (Nat.zero_lt_succ _) (.cells #[.slice (some ⟨w.heap.size + 1, 0, none⟩) 1 1] t'')
  intro j hj
  obtain rfl : j = 0 := by simp [pg1] at hj; omega
  refine ⟨w.heap.size + 1, 0, rfl, by omega, (h2 0 _ rfl).1, (h2 1 _ rfl).1, (h2 2 _ rfl).1, fun k hk => ?_⟩
  obtain rfl : k = 0 := by simp [pg1, fdAt] at hk; omega
  exact ⟨w.heap.size, 0, rfl, by omega, (h1 0 _ rfl).1, (h1 1 _ rfl).1, (h1 2 _ rfl).1, fun n hn => by simp [pg1, fdAt, blkAt] at hn, fun n hn => by simp [pg1, fdAt, blkAt] at hn⟩

/-- A program in memory, with the tables and its box g. -/
def Here (W : World) (p : Pg) (g : Nat) : Prop := PgIs W.heap.size W p ∧ KTab W ∧ ETab W ∧ BoxL W g [.slice p.pa p.funs.length p.pc]
theorem Here.on {W W' : World} {p : Pg} {g : Nat} (h : Here W p g) (hb : Below W.heap.size W W') : Here W' p g :=
  ⟨h.1.on hb, h.2.1.on hb, h.2.2.1.on hb, h.2.2.2.below hb (h.2.2.2.lt (Nat.zero_lt_succ _))⟩
theorem Here.bx {W : World} {p : Pg} {g : Nat} (h : Here W p g) : W.cell? ⟨g, 0, none⟩ = some (.slice p.pa p.funs.length p.pc) := (h.2.2.2 0 _ rfl).1

set_option maxRecDepth 100000 in
set_option maxHeartbeats 4000000 in
theorem awake_any (w : World) (hT : KTab w) (hE : ETab w) :
    Calls Tryz.prog 13 #[] w fun e w' => e = .returned (.bool true) ∧ Below w.heap.size w w' := by
  have HB3 := Lib.hid (below3 w (.cells #[.bool true, .slice none 0 0, .slice none 0 0] 35) (.cells #[.int .i64 0, .int .i64 0, .slice (some ⟨w.heap.size, 0, none⟩) 1 1] 29) (.cells #[.slice (some ⟨w.heap.size + 1, 0, none⟩) 1 1] 24))
  have hsz : (((w.alloc (.cells #[.bool true, .slice none 0 0, .slice none 0 0] 35)).alloc (.cells #[.int .i64 0, .int .i64 0, .slice (some ⟨w.heap.size, 0, none⟩) 1 1] 29)).alloc (.cells #[.slice (some ⟨w.heap.size + 1, 0, none⟩) 1 1] 24)).heap.size = w.heap.size + 3 := by simp only [World.size_alloc]
  have hp := pg1_is w 35 29 24
  rw [← hsz] at hp
  have hx := BoxL.new ((w.alloc (.cells #[.bool true, .slice none 0 0, .slice none 0 0] 35)).alloc (.cells #[.int .i64 0, .int .i64 0, .slice (some ⟨w.heap.size, 0, none⟩) 1 1] 29)) [.slice (some ⟨w.heap.size + 1, 0, none⟩) 1 1] 24
  rw [World.size_alloc, World.size_alloc] at hx
  have HH : Hid (Here (((w.alloc (.cells #[.bool true, .slice none 0 0, .slice none 0 0] 35)).alloc (.cells #[.int .i64 0, .int .i64 0, .slice (some ⟨w.heap.size, 0, none⟩) 1 1] 29)).alloc (.cells #[.slice (some ⟨w.heap.size + 1, 0, none⟩) 1 1] 24)) (pg1 ⟨w.heap.size + 1, 0, none⟩ ⟨w.heap.size, 0, none⟩) (w.heap.size + 1 + 1)) := Lib.hid ⟨hp, hT.on HB3.out, hE.on HB3.out, hx⟩
  clear hx hp hsz hT hE
  generalize hE : ((w.alloc (.cells #[.bool true, .slice none 0 0, .slice none 0 0] 35)).alloc (.cells #[.int .i64 0, .int .i64 0, .slice (some ⟨w.heap.size, 0, none⟩) 1 1] 29)).alloc (.cells #[.slice (some ⟨w.heap.size + 1, 0, none⟩) 1 1] 24) = W at HB3 HH
  obtain ⟨g, hg⟩ : ∃ g, w.heap.size = g := ⟨_, rfl⟩
  have HGL := Lib.hid HB3.out.size
  rw [hg] at HH HB3 HGL hE ⊢
  have HF : Hid (∀ W, Here W (pg1 ⟨g + 1, 0, none⟩ ⟨g, 0, none⟩) (g + 1 + 1) → Calls Tryz.prog 15 #[.agg #[.slice (some ⟨g + 1, 0, none⟩) 1 1], .int .i64 0] W fun e w' => e = .returned (.tuple #[.agg #[.int .i64 0, .int .i64 0, .slice (some ⟨g, 0, none⟩) 1 1], .bool true]) ∧ Below W.heap.size W w') :=
    Lib.hid fun W h => Fun_any _ 0 W h.1 h.2.1 h.2.2.1 (pg1_few _ _) _ (pg1_funR _ _) true (pg1_funB _ _)
  have HS : Hid (∀ W, Here W (pg1 ⟨g + 1, 0, none⟩ ⟨g, 0, none⟩) (g + 1 + 1) → Calls Tryz.prog 23 #[.agg #[.slice (some ⟨g + 1, 0, none⟩) 1 1]] W fun e w' => e = .returned (.bool true) ∧ Below W.heap.size W w') :=
    Lib.hid fun W h => Sane_any (pg1 ⟨g + 1, 0, none⟩ ⟨g, 0, none⟩) W h.1 h.2.1 h.2.2.1 (pg1_few _ _) true (by simp [pg1_sane])
  have HN : Hid (∀ W, Here W (pg1 ⟨g + 1, 0, none⟩ ⟨g, 0, none⟩) (g + 1 + 1) → Calls Tryz.prog 36 #[.agg #[.slice (some ⟨g + 1, 0, none⟩) 1 1], .int .i64 0] W fun e w' => e = .returned (.int .i64 1) ∧ Below W.heap.size W w') :=
    Lib.hid fun W h => (NewBlock_any (pg1 ⟨g + 1, 0, none⟩ ⟨g, 0, none⟩) 0 W h.1 h.2.1 h.2.2.1 (pg1_few _ _)).mono fun e w' ⟨⟨z, h1, h2⟩, h3⟩ => ⟨by rw [h1, pg1_newBlk _ _ h2], h3⟩
  have HI : Hid (∀ W, Here W (pg1 ⟨g + 1, 0, none⟩ ⟨g, 0, none⟩) (g + 1 + 1) → Calls Tryz.prog 34 #[.agg #[.slice (some ⟨g + 1, 0, none⟩) 1 1]] W fun e w' => e = .returned (.int .i64 0) ∧ Below W.heap.size W w') :=
    Lib.hid fun W h => (NewId_any (pg1 ⟨g + 1, 0, none⟩ ⟨g, 0, none⟩) W h.1 h.2.1 h.2.2.1 (pg1_few _ _)).mono fun e w' ⟨⟨z, h1, h2⟩, h3⟩ => ⟨by rw [h1, pg1_newId _ _ h2], h3⟩
  have k0 : W.cell? ⟨g + 1 + 1, 0, none⟩ = some (.slice (some ⟨g + 1, 0, none⟩) 1 1) := HH.out.bx
  go_enter Tryz.func13, Tryz.ntmps13
  go_wp2_with (first
    | (go_at_call 15; refine (HF.out _ HH.out).mono ?_; rintro e wa ⟨rfl, hba⟩; have hb2 := hba.alloc hba.size (.cells #[.int .i64 0, .int .i64 0, .slice (some ⟨g, 0, none⟩) 1 1] 29); have HHA := Lib.hid (HH.out.on hb2); have HBA := Lib.hid (HB3.out.trans (hb2.mono HGL.out)); have HGA := Lib.hid (Nat.le_trans HGL.out hb2.size); have HXA : Hid (BoxL (wa.alloc (.cells #[.int .i64 0, .int .i64 0, .slice (some ⟨g, 0, none⟩) 1 1] 29)) wa.heap.size [.int .i64 0, .int .i64 0, .slice (some ⟨g, 0, none⟩) 1 1]) := Lib.hid (BoxL.new wa _ 29); clear hba hb2 k0 HH HB3 HGL; have k0 : (wa.alloc (.cells #[.int .i64 0, .int .i64 0, .slice (some ⟨g, 0, none⟩) 1 1] 29)).cell? ⟨g + 1 + 1, 0, none⟩ = some (.slice (some ⟨g + 1, 0, none⟩) 1 1) := HHA.out.bx)
    | (go_at_call 23; refine (HS.out _ HHA.out).mono ?_; rintro e wb ⟨rfl, hbb⟩; have HHB := Lib.hid (HHA.out.on hbb); have HBB := Lib.hid (HBA.out.trans (hbb.mono HGA.out)); have HGB := Lib.hid (Nat.le_trans HGA.out hbb.size); have HXB := Lib.hid (HXA.out.below hbb (HXA.out.lt (Nat.zero_lt_succ _))); clear hbb k0 HHA HBA HGA HXA; have k0 : wb.cell? ⟨g + 1 + 1, 0, none⟩ = some (.slice (some ⟨g + 1, 0, none⟩) 1 1) := HHB.out.bx; have x2 := (HXB.out 2 _ rfl).1)
    | (go_at_call 36; refine (HN.out _ HHB.out).mono ?_; rintro e wc ⟨rfl, hbc⟩; have HHC := Lib.hid (HHB.out.on hbc); have HBC := Lib.hid (HBB.out.trans (hbc.mono HGB.out)); have HGC := Lib.hid (Nat.le_trans HGB.out hbc.size); clear hbc k0 HHB HBB HGB HXB x2; have k0 : wc.cell? ⟨g + 1 + 1, 0, none⟩ = some (.slice (some ⟨g + 1, 0, none⟩) 1 1) := HHC.out.bx)
    | (go_at_call 34; refine (HI.out _ HHC.out).mono ?_; rintro e wd ⟨rfl, hbd⟩; have HBD := Lib.hid (HBC.out.trans (hbd.mono HGC.out)); clear hbd k0 HHC HBC HGC))
  go_ret
  exact ⟨rfl, HBD.out⟩
end Go.Proofs.YtbddjneinfkmpaaGreatDoor

namespace Go.Proofs.YtbddjneinfkmpaaGreatDoor
open Go Go.RowKit Go.Sort

theorem Here.new (w : World) (p : Pg) (hp : PgIs w.heap.size w p) (hT : KTab w) (hE : ETab w) : Here (w.alloc (.cells #[.slice p.pa p.funs.length p.pc] 24)) p w.heap.size :=
  have hb := below1 w (.cells #[.slice p.pa p.funs.length p.pc] 24)
  ⟨hp.on hb, hT.on hb, hE.on hb, BoxL.new w [.slice p.pa p.funs.length p.pc] 24⟩
theorem funB_iff {p : Pg} (h : p.sane) (f : Int) : funB p f = true ↔ 0 ≤ f ∧ f < p.funs.length := by
  unfold funB
  rw [(saneB_iff p).2 h]
  simp
theorem funB_out {p : Pg} {f : Int} (h : ¬ (0 ≤ f ∧ f < p.funs.length)) : funB p f = false := by
  unfold funB
  rcases Int.lt_or_le f 0 with h0 | h0
  · have : ¬ 0 ≤ f := by omega
    simp [this]
  · have : ¬ f < p.funs.length := by omega
    simp [this]
theorem funR_in {p : Pg} (h : p.sane) {n : Nat} (hn : n < p.funs.length) : funB p (n : Int) = true ∧ funR p (n : Int) = fdAt p.funs n := by
  have hb : funB p (n : Int) = true := (funB_iff h _).2 ⟨by omega, by omega⟩
  exact ⟨hb, by unfold funR; rw [hb]; simp⟩
/-- Of a block that is not live none follows. -/
theorem preds_none {p : Pg} (h : p.sane) {f b : Int} (hb : blkB p f b = false) : ∀ k, k < (funR p f).blocks.length → b ∉ (blkAt (funR p f).blocks k).succ := by
  have hnl : ¬ liveAt (funR p f).blocks b := fun hl => by rw [(blkB_iff p f b).2 hl] at hb; cases hb
  by_cases hf : funB p f = true
  · have hf2 := (funB_iff h f).1 hf
    obtain ⟨n, rfl⟩ := Int.eq_ofNat_of_zero_le hf2.1
    have hn : n < p.funs.length := by omega
    rw [(funR_in h hn).2] at hnl ⊢
    intro k hk hbs
    have hok := ((h.2.1 n hn).2 k hk).2.2.1
    obtain ⟨j, hj, e⟩ := List.getElem_of_mem hbs
    have := (hok j hj).2
    have e2 : numAt (blkAt (fdAt p.funs n).blocks k).succ j = b := by unfold numAt; rw [List.getElem?_eq_getElem hj]; exact e
    rw [e2] at this
    exact hnl this
  · rw [funR_none (by simpa using hf)]
    intro k hk
    simp [Fd.none] at hk
end Go.Proofs.YtbddjneinfkmpaaGreatDoor
