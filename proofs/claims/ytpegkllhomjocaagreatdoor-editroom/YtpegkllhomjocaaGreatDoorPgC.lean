/- Programs: wrongInstr. -/
import Derived.Test.YtpegkllhomjocaaGreatDoorVarY
import Derived.Test.YtpegkllhomjocaaGreatDoorPgB
namespace Go.Proofs.YtpegkllhomjocaaGreatDoor
open Go Go.RowKit Go.Sort

/-- The boxes of a program, a function and an instruction. -/
def IBox (W : World) (g : Nat) (pv : List Value) (fv : List Value) (iv : List Value) : Prop := BoxL W g pv ∧ BoxL W (g + 1) fv ∧ BoxL W (g + 1 + 1) iv
theorem IBox.below {W W' : World} {g : Nat} {pv fv iv : List Value} (h : IBox W g pv fv iv) (hb : Below W.heap.size W W') (hg : g + 1 + 1 < W.heap.size) : IBox W' g pv fv iv :=
  ⟨h.1.below hb (by omega), h.2.1.below hb (by omega), h.2.2.below hb hg⟩
theorem IBox.new (w : World) (pv fv iv : List Value) (t t' t'' : TypeId) (hp : 0 < pv.length) (hf : 0 < fv.length) : IBox (((w.alloc (.cells pv.toArray t)).alloc (.cells fv.toArray t')).alloc (.cells iv.toArray t'')) w.heap.size pv fv iv := by
  have h1 := BoxL.new w pv t
  have h2 := BoxL.new (w.alloc (.cells pv.toArray t)) fv t'
  have h3 := BoxL.new ((w.alloc (.cells pv.toArray t)).alloc (.cells fv.toArray t')) iv t''
  rw [World.size_alloc] at h2
  rw [World.size_alloc, World.size_alloc] at h3
  exact ⟨(h1.alloc hp _).alloc hp _, h2.alloc hf _, h3⟩
theorem mem_numAt {s : List Int} {P : Int → Prop} : (∀ v ∈ s, P v) ↔ ∀ k, k < s.length → P (numAt s k) := by
  constructor
  · intro h k hk
    unfold numAt
    rw [List.getElem?_eq_getElem hk]
    exact h _ (List.getElem_mem hk)
  · intro h v hv
    obtain ⟨k, hk, rfl⟩ := List.getElem_of_mem hv
    have := h k hk
    unfold numAt at this
    rw [List.getElem?_eq_getElem hk] at this
    exact this
theorem vars_le (i : Ins) : i.vars.length ≤ 6 := by
  have hs : ∀ l : List Int, (sortL l).length ≤ l.length := by
    intro l
    induction l with
    | nil => simp [sortL]
    | cons x r ih =>
      have h1 : ∀ (x : Int) (l : List Int), (insL x l).length ≤ l.length + 1 := by
        intro x l
        induction l with
        | nil => simp [insL]
        | cons y l ih => unfold insL; split; simp; split; simp; simp; omega
      show (insL x (sortL r)).length ≤ _
      have := h1 x (sortL r)
      simp
      omega
  unfold Ins.vars
  have h2 := Bi.uses_le i
  split
  · have := hs (addL i.uses i.defn)
    have := addL_length i.uses i.defn
    omega
  · have := hs i.uses
    omega

set_option maxRecDepth 100000 in
set_option maxHeartbeats 8000000 in
theorem wrongInstr_any (p : Pg) (f : Fd) (i : Ins) (w : World) (hp : PgIs w.heap.size w p) (hT : KTab w) (hlen : p.funs.length ≤ 10) :
    Calls Tryz.prog 159 #[p.val, f.val, i.val] w fun e w' => ∃ v, e = .returned v ∧ ToldD 0 (insOk p f i) v ∧ Below w.heap.size w w' := by
  obtain ⟨vs, hvs⟩ : ∃ vs, i.vars = vs := ⟨_, rfl⟩
  have HVL := Lib.hid (vars_le i)
  rw [hvs] at HVL
  have HWB := Lib.hid (below3 w (.cells [.slice p.pa p.funs.length p.pc].toArray 24) (.cells [.int .i64 f.ar, .int .i64 f.vr, .slice f.ba f.blocks.length f.bc].toArray 29) (.cells i.cells.toArray 40))
  have HX := Lib.hid (IBox.new w [.slice p.pa p.funs.length p.pc] [.int .i64 f.ar, .int .i64 f.vr, .slice f.ba f.blocks.length f.bc] i.cells 24 29 40 (Nat.zero_lt_succ _) (Nat.zero_lt_succ _))
  have HP := Lib.hid (hp.on HWB.out)
  have HT := Lib.hid (hT.on HWB.out)
  have HF1 := Lib.hid (fun W (h : KTab W) (hf : i.form) => Form_any i W h true (decide_eq_true hf))
  have HF0 := Lib.hid (fun W (h : KTab W) (hf : ¬ i.form) => Form_any i W h false (decide_eq_false hf))
  have HV := Lib.hid (fun W (h : KTab W) => Bi.Vars_any i W h vs hvs)
  have HOK : Hid (insOk p f i ↔ i.form ∧ (∀ k, k < vs.length → numAt vs k < f.vr) ∧ (i.kind = 7 → i.f < p.funs.length ∧ (fdAt p.funs i.f.toNat).ar = i.n)) := by
    unfold insOk
    rw [hvs]
    exact and_congr_right fun _ => and_congr_left fun _ => mem_numAt
  obtain ⟨ok, hok⟩ : ∃ ok, insOk p f i = ok := ⟨_, rfl⟩
  rw [hok] at HOK ⊢
  have HSZ : Hid ((((w.alloc (.cells [.slice p.pa p.funs.length p.pc].toArray 24)).alloc (.cells [.int .i64 f.ar, .int .i64 f.vr, .slice f.ba f.blocks.length f.bc].toArray 29)).alloc (.cells i.cells.toArray 40)).heap.size = w.heap.size + 3) := by
    refine Lib.hid ?_
    simp only [World.size_alloc]
  clear hp hT hvs hok
  have HFP : Hid (i.form → 0 ≤ i.f) := fun h => by
    have := h.2.2.2.2.2.2.2.2.2.1
    simp [noneB] at this
    omega
  obtain ⟨fm, hfm⟩ : ∃ fm, i.form = fm := ⟨_, rfl⟩
  simp only [hfm] at HF1 HF0 HOK HFP
  clear hfm
  obtain ⟨pa, pc, pf⟩ := p
  obtain ⟨ar, vr, ba, bc, bl⟩ := f
  obtain ⟨id, kind, dst, a, b, c, f, n, x0, x1, x2⟩ := i
  unfold Fd.val Pg.val Ins.val at *
  unfold Ins.cells at HX HWB HP HT HSZ
  dsimp only at *
  obtain ⟨PL, hPL⟩ : ∃ PL, pf.length = PL := ⟨_, rfl⟩
  obtain ⟨BL, hBL⟩ : ∃ BL, bl.length = BL := ⟨_, rfl⟩
  have HPL := Lib.hid hPL
  rw [hPL] at hlen
  simp only [hPL, hBL] at HX HWB HP HT HSZ HOK ⊢
  clear hPL hBL
  generalize hE : ((w.alloc (.cells (List.toArray [.slice pa PL pc]) 24)).alloc (.cells (List.toArray [.int .i64 ar, .int .i64 vr, .slice ba BL bc]) 29)).alloc (.cells (List.toArray [.int .i64 id, .int .i64 kind, .int .i64 dst, .int .i64 a, .int .i64 b, .int .i64 c, .int .i64 f, .int .i64 n, .int .i64 x0, .int .i64 x1, .int .i64 x2]) 40) = W at HX HWB HP HT HSZ
  have hE' : ((w.alloc (.cells #[.slice pa PL pc] 24)).alloc (.cells #[.int .i64 ar, .int .i64 vr, .slice ba BL bc] 29)).alloc (.cells #[.int .i64 id, .int .i64 kind, .int .i64 dst, .int .i64 a, .int .i64 b, .int .i64 c, .int .i64 f, .int .i64 n, .int .i64 x0, .int .i64 x1, .int .i64 x2] 40) = W := hE
  clear hE
  obtain ⟨g, hg⟩ : ∃ g, w.heap.size = g := ⟨_, rfl⟩
  have HGL := Lib.hid HWB.out.size
  rw [hg] at HX HSZ HWB HGL ⊢
  have k0 := (HX.out.2.2 0 _ rfl).1
  have k1 := (HX.out.2.2 1 _ rfl).1
  have k2 := (HX.out.2.2 2 _ rfl).1
  have k3 := (HX.out.2.2 3 _ rfl).1
  have k4 := (HX.out.2.2 4 _ rfl).1
  have k5 := (HX.out.2.2 5 _ rfl).1
  have k6 := (HX.out.2.2 6 _ rfl).1
  have k7 := (HX.out.2.2 7 _ rfl).1
  have k8 := (HX.out.2.2 8 _ rfl).1
  have k9 := (HX.out.2.2 9 _ rfl).1
  have k10 := (HX.out.2.2 10 _ rfl).1
  by_cases hf : fm
  rotate_left
  · have HF := Lib.hid (fun W h => HF0.out W h hf)
    have HNO : Hid (¬ ok) := fun h => hf (HOK.out.1 h).1
    clear HF0 HF1 HV HOK HFP HP hf
    go_enter Tryz.func159, Tryz.ntmps159
    go_wp2_with (go_at_call 102; refine (HF.out _ HT.out).mono ?_; rintro e wa ⟨rfl, hba⟩; have HW2 := Lib.hid (HWB.out.trans (hba.mono HGL.out)); clear hba k0 k1 k2 k3 k4 k5 k6 k7 k8 k9 k10)
    go_ret
    exact ⟨_, rfl, .inr ⟨HNO.out, 0, Nat.le_refl _, EV.fault _⟩, HW2.out⟩
  have HF := Lib.hid (fun W h => HF1.out W h hf)
  have HFN := Lib.hid (HFP.out hf)
  have HOK2 : Hid (ok ↔ (∀ k, k < vs.length → numAt vs k < vr) ∧ (kind = 7 → f < PL ∧ (fdAt pf f.toNat).ar = n)) := by
    have h := HOK.out
    exact Lib.hid (by simpa [hf] using h)
  clear HF0 HF1 HOK HFP hf
  obtain ⟨V, hV⟩ : ∃ V, vs.length = V := ⟨_, rfl⟩
  rw [hV] at HV HVL HOK2
  have hVL := HVL.out
  have HVV := Lib.hid hV
  clear hV
  go_enter Tryz.func159, Tryz.ntmps159
  go_wp2_with (first | (go_at_call 102; refine (HF.out _ HT.out).mono ?_; rintro e wa ⟨rfl, hba⟩; have HW2 := Lib.hid (HWB.out.trans (hba.mono HGL.out)); have HT2 := Lib.hid (HT.out.on hba); have HP2 := Lib.hid (HP.out.on hba); have HX2 := Lib.hid (HX.out.below hba (by rw [HSZ.out]; omega)); have HSZ2 := Lib.hid hba.size; clear hba HP HT HX k0 k1 k2 k3 k4 k5 k6 k7 k8 k9 k10; have HX := HX2; clear HX2; have k0 := (HX.out.2.2 0 _ rfl).1; have k1 := (HX.out.2.2 1 _ rfl).1; have k2 := (HX.out.2.2 2 _ rfl).1; have k3 := (HX.out.2.2 3 _ rfl).1; have k4 := (HX.out.2.2 4 _ rfl).1; have k5 := (HX.out.2.2 5 _ rfl).1; have k6 := (HX.out.2.2 6 _ rfl).1; have k7 := (HX.out.2.2 7 _ rfl).1; have k8 := (HX.out.2.2 8 _ rfl).1; have k9 := (HX.out.2.2 9 _ rfl).1; have k10 := (HX.out.2.2 10 _ rfl).1) | (go_at_call 174; refine (HV.out _ HT2.out).mono ?_; rintro e wb ⟨u, rfl, hou, hbb⟩; have HW3 := Lib.hid (HW2.out.trans (hbb.mono (Nat.le_trans HGL.out HSZ2.out))); have HP3 := Lib.hid (HP2.out.on hbb); have HX3 := Lib.hid (HX.out.below hbb (by have := HSZ.out; have := HSZ2.out; omega)); obtain ⟨av, cv, rfl, hlv, hIv⟩ := is_of_ints hou; have HIV := Lib.hid hIv; clear hou hbb HP2 HX HT2 hIv k0 k1 k2 k3 k4 k5 k6 k7 k8 k9 k10; have HX := HX3; clear HX3; have k0 := (HX.out.2.2 0 _ rfl).1; have k1 := (HX.out.2.2 1 _ rfl).1; have k2 := (HX.out.2.2 2 _ rfl).1; have k3 := (HX.out.2.2 3 _ rfl).1; have k4 := (HX.out.2.2 4 _ rfl).1; have k5 := (HX.out.2.2 5 _ rfl).1; have k6 := (HX.out.2.2 6 _ rfl).1; have k7 := (HX.out.2.2 7 _ rfl).1; have k8 := (HX.out.2.2 8 _ rfl).1; have k9 := (HX.out.2.2 9 _ rfl).1; have k10 := (HX.out.2.2 10 _ rfl).1; have hp0 := (HX.out.1 0 _ rfl).1; have hf1 := (HX.out.2.1 1 _ rfl).1))
  go_loop [16] (fun i => ∃ q : Nat, q ≤ V ∧ i = .int .i64 q ∧ Hid (∀ k, k < q → numAt vs k < vr)) (fun i => V - (intOf i).toNat)
  case atStart => exact ⟨0, Nat.zero_le _, rfl, fun k hk => absurd hk (Nat.not_lt_zero _)⟩
  case round =>
    obtain ⟨q, hq, rfl, hok⟩ := hrel
    by_cases hlt : q < V
    · obtain ⟨bb, oo, rfl, hbl, hcell⟩ := HIV.out q (by rw [HVV.out]; exact hlt)
      obtain ⟨x, hx⟩ : ∃ x, vs[q]?.getD 0 = x := ⟨_, rfl⟩
      rw [hx] at hcell
      have HXX := Lib.hid (show numAt vs q = x from hx)
      have hqi : (q : Int) < (V : Int) := by omega
      clear hx
      by_cases hxv : vr ≤ x
      · go_wp2_with fail
        go_ret
        refine ⟨_, rfl, .inr ⟨fun h => ?_, 0, Nat.le_refl _, EV.fault _⟩, HW3.out⟩
        have := (HOK2.out.1 h).1 q hlt
        rw [HXX.out] at this
        omega
      · have hxv' : x < vr := by omega
        go_wp2_with fail
        refine ⟨⟨q + 1, by omega, by go_num, fun k hk => ?_⟩, by simp [intOf]; omega⟩
        rcases Nat.lt_succ_iff_lt_or_eq.1 hk with h | rfl
        · exact hok.out k h
        · rw [HXX.out]; exact hxv'
    · obtain rfl : q = V := by omega
      have hqi : ¬ ((q : Int) < (q : Int)) := by omega
      by_cases hk7 : kind = 7
      rotate_left
      · have hkb : (kind != 7) = true := by simpa using hk7
        have HK7 := Lib.hid hk7
        clear hk7
        go_wp2_with fail
        go_ret
        exact ⟨_, rfl, .inl ⟨HOK2.out.2 ⟨hok.out, fun h => absurd h HK7.out⟩, rfl⟩, HW3.out⟩
      subst hk7
      have hkb : ((7 : Int) != 7) = false := by decide
      by_cases hfl : (PL : Int) ≤ f
      · go_wp2_with fail
        go_ret
        refine ⟨_, rfl, .inr ⟨fun h => ?_, 0, Nat.le_refl _, EV.fault _⟩, HW3.out⟩
        have := ((HOK2.out.1 h).2 (by simp)).1
        omega
      have hfl' : f < (PL : Int) := by omega
      obtain ⟨fk, rfl⟩ := Int.eq_ofNat_of_zero_le HFN.out
      have hfk : fk < PL := by omega
      obtain ⟨pb, po, hpa, hpb, hc0, -⟩ := HP3.out fk (by rw [HPL.out]; exact hfk)
      dsimp only at hpa hc0
      subst hpa
      obtain ⟨ar', har⟩ : ∃ ar', (fdAt pf fk).ar = ar' := ⟨_, rfl⟩
      rw [har] at hc0
      have HAR := Lib.hid har
      clear har
      by_cases harn : ar' = n
      · have hbn : (ar' != n) = false := by simpa using harn
        go_wp2_with fail
        go_quiet (fail)
        go_wp2_with fail
        go_ret
        refine ⟨_, rfl, .inl ⟨HOK2.out.2 ⟨hok.out, fun _ => ⟨hfl', ?_⟩⟩, rfl⟩, below_drewN HW3.out _⟩
        show (fdAt pf (fk : Int).toNat).ar = n
        rw [Int.toNat_natCast, HAR.out, harn]
      · have hbn : (ar' != n) = true := by simpa using harn
        have HARN := Lib.hid harn
        clear harn
        go_wp2_with fail
        go_quiet (fail)
        go_wp2_with fail
        go_ret
        refine ⟨_, rfl, .inr ⟨fun h => ?_, 0, Nat.le_refl _, EV.fault _⟩, below_drewN HW3.out _⟩
        have h2 := ((HOK2.out.1 h).2 (by simp)).2
        rw [Int.toNat_natCast, HAR.out] at h2
        exact HARN.out h2
end Go.Proofs.YtpegkllhomjocaaGreatDoor
