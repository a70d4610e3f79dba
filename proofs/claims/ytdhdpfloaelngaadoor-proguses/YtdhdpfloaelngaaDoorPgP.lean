/- Programs: Fun. -/
import Derived.Laws.ResultCell
import Derived.Test.YtdhdpfloaelngaaDoorPgO
namespace Go.Proofs.YtdhdpfloaelngaaDoor
open Go Go.RowKit Go.Sort

noncomputable def Pg.saneB (p : Pg) : Bool := @decide p.sane (Classical.propDecidable _)
theorem saneB_iff (p : Pg) : p.saneB = true ↔ p.sane := @decide_eq_true_iff p.sane (Classical.propDecidable _)
noncomputable def funB (p : Pg) (f : Int) : Bool := decide (0 ≤ f) && decide (f < p.funs.length) && p.saneB
noncomputable def funR (p : Pg) (f : Int) : Fd := if funB p f then fdAt p.funs f.toNat else Fd.none
noncomputable def blkB (p : Pg) (f b : Int) : Bool := decide (0 ≤ b) && decide (b < (funR p f).blocks.length) && (blkAt (funR p f).blocks b.toNat).live
noncomputable def blkR (p : Pg) (f b : Int) : Blk := if blkB p f b then blkAt (funR p f).blocks b.toNat else Blk.none
noncomputable def atB (p : Pg) (f b k : Int) : Bool := decide (0 ≤ k) && decide (k < (blkR p f b).code.length)
noncomputable def atR (p : Pg) (f b k : Int) : Ins := if atB p f b k then insAt (blkR p f b).code k.toNat else Ins.none

theorem run_loadVar_box {P : Program} (w : World) (g : Nat) (ty : TypeId) (cs : List Value) (d : TypeDesc) (hb : BoxL w g cs)
    (hu : P.underlying ty = some d) (hd : (match d with | .struct _ | .array _ _ => true | _ => false) = true) (hi : (P.info? ty).map (·.size) = some cs.length) :
    (loadVar ty ⟨g, 0, none⟩).run P w = .ok (.agg cs.toArray) w := by
  have hl : (loadCells ⟨g, 0, none⟩ cs.length).run P w = .ok cs.toArray w :=
    run_loadCells_list (P := P) w ⟨g, 0, none⟩ cs (fun j v hv => by
      have hadd : (⟨g, 0, none⟩ : Addr).add j = ⟨g, j, none⟩ := by unfold Addr.add; split <;> simp_all
      rw [hadd]
      exact (hb j v hv).1)
  cases hq : P.info? ty with
  | none => simp [hq] at hi
  | some i =>
    have hs : i.size = cs.length := by simpa [hq] using hi
    have hagg : (isAgg ty).run P w = .ok true w := by
      unfold isAgg
      rw [Sem.run_bind, run_underlying hu w]
      cases d <;> simp_all
    simp [loadVar, Sem.run_bind, hagg, sizeOf, typeInfo, hq, hs, hl]
/-- A result of several cells, and one more. -/
theorem ret_box {P : Program} {fn : Func} {p u : Tmp} {ty : TypeId} (h : fn.results = #[.cell p ty, .tmp u]) (tmps : Array Value) (w : World) (g : Nat) (cs : List Value) (b : Value) (d : TypeDesc) (hp : tmps.getD p undef = .pointer (some ⟨g, 0, none⟩)) (hbv : tmps.getD u undef = b) (hb : BoxL w g cs)
    (hu : P.underlying ty = some d) (hd : (match d with | .struct _ | .array _ _ => true | _ => false) = true) (hi : (P.info? ty).map (·.size) = some cs.length) :
    (results fn tmps).run P w = .ok (.tuple #[.agg cs.toArray, b]) w := by
  rw [results_cell_tmp h, hp, hbv]
  have ha : (asAddr (.pointer (some ⟨g, 0, none⟩))).run P w = .ok ⟨g, 0, none⟩ w := rfl
  rw [ha]
  simp only [Result.andThen, run_loadVar_box w g ty cs d hb hu hd hi]
theorem BoxL.put3 {W : World} {b : Nat} {v0 v1 v2 : Value} (h : BoxL W b [v0, v1, v2]) (u0 u1 u2 : Value) : BoxL (((W.setCell ⟨b, 0, none⟩ u0).setCell ⟨b, 1, none⟩ u1).setCell ⟨b, 2, none⟩ u2) b [u0, u1, u2] :=
  ((h.put 0 u0 (by simp)).put 1 u1 (by simp)).put 2 u2 (by simp)
theorem below_put3 {B : Nat} {w W : World} (h : Below B w W) {b : Nat} (hb : B ≤ b) (u0 u1 u2 : Value) : Below B w (((W.setCell ⟨b, 0, none⟩ u0).setCell ⟨b, 1, none⟩ u1).setCell ⟨b, 2, none⟩ u2) :=
  ((h.setCell (p := ⟨b, 0, none⟩) hb u0).setCell (p := ⟨b, 1, none⟩) hb u1).setCell (p := ⟨b, 2, none⟩) hb u2

set_option maxRecDepth 100000 in
set_option maxHeartbeats 4000000 in
theorem Fun_any (p : Pg) (f : Int) (w : World) (hp : PgIs w.heap.size w p) (hT : KTab w) (hE : ETab w) (hfew : p.few) (x : Fd) (hx : funR p f = x) (r : Bool) (hr : funB p f = r) :
    Calls Tryd.prog 10 #[p.val, .int .i64 f] w fun e w' => e = .returned (.tuple #[x.val, .bool r]) ∧ Below w.heap.size w w' := by
  have HB2 := Lib.hid (below2 w (.cells #[.slice p.pa p.funs.length p.pc] 24) (.cells #[.int .i64 0, .int .i64 0, .slice none 0 0] 29))
  have h1 := BoxL.new w [.slice p.pa p.funs.length p.pc] 24
  have h2 := BoxL.new (w.alloc (.cells #[.slice p.pa p.funs.length p.pc] 24)) [.int .i64 0, .int .i64 0, .slice none 0 0] 29
  rw [World.size_alloc] at h2
  have HX1 := Lib.hid (h1.alloc (Nat.zero_lt_succ _) (.cells #[.int .i64 0, .int .i64 0, .slice none 0 0] 29))
  have HX2 := Lib.hid h2
  have HS := Lib.hid (fun s hs => Sane_any p _ (hp.on HB2.out) (hT.on HB2.out) (hE.on HB2.out) hfew s hs)
  have HP := Lib.hid hp
  have hlen := hfew.1
  have HSZ : Hid (((w.alloc (.cells #[.slice p.pa p.funs.length p.pc] 24)).alloc (.cells #[.int .i64 0, .int .i64 0, .slice none 0 0] 29)).heap.size = w.heap.size + 2) := Lib.hid (by simp only [World.size_alloc])
  clear h1 h2 hT hE hfew hp
  by_cases h0 : f < 0
  · have hrr : funB p f = false := by unfold funB; simp; omega
    rw [← hx, ← hr, funR, hrr]
    clear HS HX1 hx hr hrr HSZ
    unfold Pg.val Fd.val
    go_enter Tryd.func10, Tryd.ntmps10
    go_wp2_with fail
    refine bodyPost_ret (ret_box rfl _ _ (w.heap.size + 1) [.int .i64 0, .int .i64 0, .slice none 0 0] _ _ rfl rfl ?_ Tryd.underlying29 rfl (by kernel_rfl)) rfl ?_
    · exact HX2.out
    · exact ⟨rfl, HB2.out⟩
  by_cases h1 : (p.funs.length : Int) ≤ f
  · have hrr : funB p f = false := by unfold funB; simp; omega
    rw [← hx, ← hr, funR, hrr]
    have h0' : 0 ≤ f := by omega
    clear HS HX1 hx hr hrr HSZ h0
    unfold Pg.val Fd.val
    go_enter Tryd.func10, Tryd.ntmps10
    go_wp2_with fail
    refine bodyPost_ret (ret_box rfl _ _ (w.heap.size + 1) [.int .i64 0, .int .i64 0, .slice none 0 0] _ _ rfl rfl ?_ Tryd.underlying29 rfl (by kernel_rfl)) rfl ?_
    · exact HX2.out
    · exact ⟨rfl, HB2.out⟩
  have h0' : 0 ≤ f := by omega
  have h1' : f < (p.funs.length : Int) := by omega
  have hrs : p.saneB = r := by
    rw [← hr]
    unfold funB
    simp [h0', h1']
  have HS2 := Lib.hid (HS.out r (by rw [← hrs]; exact saneB_iff p))
  obtain ⟨k, rfl⟩ := Int.eq_ofNat_of_zero_le h0'
  have hk : k < p.funs.length := by omega
  have HXX := Lib.hid hx
  have HRR := Lib.hid hr
  have HHP := Lib.hid (HP.out.below HB2.out k hk)
  have HK := Lib.hid hk
  clear hx hr hrs HS h0 h1
  unfold Pg.val at *
  obtain ⟨PL, hPL⟩ : ∃ PL, p.funs.length = PL := ⟨_, rfl⟩
  simp only [hPL] at HB2 HX1 HX2 HS2 HSZ h1' hlen HHP ⊢
  clear hPL
  generalize hE : (w.alloc (.cells #[.slice p.pa PL p.pc] 24)).alloc (.cells #[.int .i64 0, .int .i64 0, .slice none 0 0] 29) = W at HB2 HX1 HX2 HS2 HSZ HHP
  obtain ⟨g, hg⟩ : ∃ g, w.heap.size = g := ⟨_, rfl⟩
  have HGL := Lib.hid HB2.out.size
  rw [hg] at HB2 HX1 HX2 HSZ HGL HHP ⊢
  have p0 := (HX1.out 0 _ rfl).1
  cases r with
  | false =>
    have hx0 : x = Fd.none := by rw [← HXX.out, funR, HRR.out]; rfl
    subst hx0
    unfold Fd.val Fd.none
    go_enter Tryd.func10, Tryd.ntmps10
    go_wp2_with (go_at_call 9; refine HS2.out.mono ?_; rintro e wa ⟨rfl, hba⟩; have HW2 := Lib.hid (HB2.out.trans (hba.mono HGL.out)); have HX3 := Lib.hid (HX2.out.below hba (HX2.out.lt (Nat.zero_lt_succ _))); clear hba p0; have q0 := (HX3.out 0 _ rfl).1; have q1 := (HX3.out 1 _ rfl).1; have q2 := (HX3.out 2 _ rfl).1; have z0 := (HX3.out 0 _ rfl).2; have z1 := (HX3.out 1 _ rfl).2; have z2 := (HX3.out 2 _ rfl).2)
    refine bodyPost_ret (ret_box rfl _ _ (g + 1) [.int .i64 0, .int .i64 0, .slice none 0 0] _ _ rfl rfl ?_ Tryd.underlying29 rfl (by kernel_rfl)) rfl ?_
    · exact HX3.out.put3 _ _ _
    · exact ⟨rfl, below_put3 HW2.out (Nat.le_succ _) _ _ _⟩
  | true =>
    have hx0 : x = fdAt p.funs k := by rw [← HXX.out, funR, HRR.out]; simp
    subst hx0
    obtain ⟨b, o, hpa, hbl, c0, c1, c2, -⟩ := HHP.out
    obtain ⟨ar, har⟩ : ∃ ar, (fdAt p.funs k).ar = ar := ⟨_, rfl⟩
    obtain ⟨vr, hvr⟩ : ∃ vr, (fdAt p.funs k).vr = vr := ⟨_, rfl⟩
    obtain ⟨ba, hba⟩ : ∃ ba, (fdAt p.funs k).ba = ba := ⟨_, rfl⟩
    obtain ⟨bc, hbc⟩ : ∃ bc, (fdAt p.funs k).bc = bc := ⟨_, rfl⟩
    obtain ⟨BL, hBL⟩ : ∃ BL, (fdAt p.funs k).blocks.length = BL := ⟨_, rfl⟩
    unfold Fd.val
    simp only [har, hvr, hba, hbc, hBL, hpa] at c0 c1 c2 HX1 p0 HS2 ⊢
    rw [hpa] at hE
    have HC0 := Lib.hid c0
    have HC1 := Lib.hid c1
    have HC2 := Lib.hid c2
    have HBLT := Lib.hid (Nat.lt_of_lt_of_le hbl HGL.out)
    clear har hvr hba hbc hBL hpa c0 c1 c2 hbl HHP
    go_enter Tryd.func10, Tryd.ntmps10
    go_wp2_with (go_at_call 9; refine HS2.out.mono ?_; rintro e wa ⟨rfl, hba⟩; have HW2 := Lib.hid (HB2.out.trans (hba.mono HGL.out)); have HX3 := Lib.hid (HX2.out.below hba (HX2.out.lt (Nat.zero_lt_succ _))); have HX4 := Lib.hid (HX1.out.below hba (HX1.out.lt (Nat.zero_lt_succ _))); have c0 := (hba.cell (p := ⟨b, o + k * 3, none⟩) HBLT.out).trans HC0.out; have c1 := (hba.cell (p := ⟨b, o + k * 3 + 1, none⟩) HBLT.out).trans HC1.out; have c2 := (hba.cell (p := ⟨b, o + k * 3 + 2, none⟩) HBLT.out).trans HC2.out; clear hba p0; have p0 := (HX4.out 0 _ rfl).1; have q0 := (HX3.out 0 _ rfl).1; have q1 := (HX3.out 1 _ rfl).1; have q2 := (HX3.out 2 _ rfl).1; have z0 := (HX3.out 0 _ rfl).2; have z1 := (HX3.out 1 _ rfl).2; have z2 := (HX3.out 2 _ rfl).2)
    refine bodyPost_ret (ret_box rfl _ _ (g + 1) [.int .i64 ar, .int .i64 vr, .slice ba BL bc] _ _ rfl rfl ?_ Tryd.underlying29 rfl (by kernel_rfl)) rfl ?_
    · exact HX3.out.put3 _ _ _
    · exact ⟨rfl, below_put3 HW2.out (Nat.le_succ _) _ _ _⟩
end Go.Proofs.YtdhdpfloaelngaaDoor
