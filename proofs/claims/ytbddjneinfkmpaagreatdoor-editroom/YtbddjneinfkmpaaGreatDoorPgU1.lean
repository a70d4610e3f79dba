/- PgU1: several texts in one: PgA PgB PgC PgD PgE PgF. -/
import Derived.Test.YtbddjneinfkmpaaGreatDoorPgM
import Derived.Test.YtbddjneinfkmpaaGreatDoorVarY
import Derived.Stop.IfaceNil

namespace Go.Proofs.YtbddjneinfkmpaaGreatDoor
open Go Go.RowKit Go.Sort

/-- An error of package prog: a fault, behind the parts that it is in. -/
inductive EV : Nat → Value → Prop where
  | fault (s : ByteArray) : EV 0 (.iface 79 (.string s))
  | part {d : Nat} {v : Value} (s : ByteArray) (n : Int) (h : EV d v) : EV (d + 1) (.iface 158 (.agg #[.string s, .int .i64 n, v]))
/-- What is told where 'ok' is asked for: nothing, or an error. -/
def Told (ok : Prop) (v : Value) : Prop := (ok ∧ v = .nilIface) ∨ (¬ ok ∧ ∃ d, d ≤ 4 ∧ EV d v)
/-- .. of a depth. -/
def ToldD (D : Nat) (ok : Prop) (v : Value) : Prop := (ok ∧ v = .nilIface) ∨ (¬ ok ∧ ∃ d, d ≤ D ∧ EV d v)

set_option maxHeartbeats 2000000 in
theorem isLive_any (a : Option Addr) (l : List Blk) (cap : Nat) (b : Int) (w : World) (h : BlksIs w.heap.size w a l) (L : Nat) (hL : l.length = L) (r : Bool) (hr : r = true ↔ liveAt l b) :
    Calls Tryz.prog 59 #[.slice a L cap, .int .i64 b] w fun e w' => e = .returned (.bool r) ∧ w' = w := by
  by_cases h0 : 0 ≤ b
  · by_cases h1 : b < L
    · obtain ⟨k, rfl⟩ := Int.eq_ofNat_of_zero_le h0
      have hk : k < l.length := by omega
      obtain ⟨g, o, rfl, hg, hc, -⟩ := h k hk
      have hrr : (blkAt l k).live = r := by
        rw [Bool.eq_iff_iff, hr]
        unfold liveAt
        constructor
        · intro g; exact ⟨by omega, by omega, by simpa using g⟩
        · intro g; simpa using g.2.2
      rw [hrr] at hc
      clear hr hrr h hL hg hk
      go_enter Tryz.func59, Tryz.ntmps59
      go_wp2
      go_ret
      exact ⟨rfl, rfl⟩
    · have h1' : (L : Int) ≤ b := by omega
      have hrr : r = false := by
        cases r with
        | false => rfl
        | true => have := hr.1 rfl; unfold liveAt at this; omega
      subst hrr
      clear hr h hL
      go_enter Tryz.func59, Tryz.ntmps59
      go_wp2
      go_ret
      exact ⟨rfl, rfl⟩
  · have h0' : b < 0 := by omega
    have hrr : r = false := by
      cases r with
      | false => rfl
      | true => have := hr.1 rfl; unfold liveAt at this; omega
    subst hrr
    clear hr h hL
    go_enter Tryz.func59, Tryz.ntmps59
    go_wp2
    go_ret
    exact ⟨rfl, rfl⟩
end Go.Proofs.YtbddjneinfkmpaaGreatDoor

namespace Go.Proofs.YtbddjneinfkmpaaGreatDoor
open Go Go.RowKit Go.Sort

theorem iface_ne (s : ByteArray) (t : TypeId) : Value.iface t (.string s) ≠ .nilIface := by simp

set_option maxRecDepth 100000 in
set_option maxHeartbeats 4000000 in
theorem wrongSucc_any (f : Fd) (a : Option Addr) (s : List Int) (cap : Nat) (w : World) (hf : FdIs w.heap.size w f) (hs : Is w.heap.size w a s) (L : Nat) (hL : s.length = L) (hl : L ≤ 1000) :
    Calls Tryz.prog 156 #[f.val, .slice a L cap] w fun e w' => ∃ v, e = .returned v ∧ ToldD 0 (succOk f.blocks s) v ∧ Below w.heap.size w w' := by
  obtain ⟨ar, vr, ba, bc, bl⟩ := f
  unfold Fd.val
  dsimp only at *
  have HF := Lib.hid hf
  have HS := Lib.hid hs
  have HL := Lib.hid hL
  have HW := Lib.hid (below1 w (.cells #[.int .i64 ar, .int .i64 vr, .slice ba bl.length bc] 29))
  obtain ⟨M, hM⟩ : ∃ M, bl.length = M := ⟨_, rfl⟩
  have HM := Lib.hid hM
  clear hf hs hL
  rw [hM] at HW ⊢
  clear hM
  go_enter Tryz.func156, Tryz.ntmps156
  go_wp2
  go_loop [9] (fun i => ∃ q : Nat, q ≤ L ∧ i = .int .i64 q ∧ Hid (∀ k, k < q → (0 < k → numAt s (k - 1) < numAt s k) ∧ liveAt bl (numAt s k))) (fun i => L - (intOf i).toNat)
  case atStart => exact ⟨0, Nat.zero_le _, rfl, fun k hk => absurd hk (Nat.not_lt_zero _)⟩
  case round =>
    obtain ⟨q, hq, rfl, hok⟩ := hrel
    by_cases hlt : q < L
    · obtain ⟨b, o, rfl, hbl, hcell⟩ := HS.out q (by rw [HL.out]; exact hlt)
      obtain ⟨x, hx⟩ : ∃ x, s[q]?.getD 0 = x := ⟨_, rfl⟩
      have hcx := (HW.out.cell (p := ⟨b, o + q, none⟩) hbl).trans hcell
      rw [hx] at hcx
      have HX := Lib.hid (show numAt s q = x from hx)
      have hqi : (q : Int) < (L : Int) := by omega
      have HIL := Lib.hid (fun r hr => isLive_any ba bl bc x _ (BlksIs.on HF.out HW.out) M HM.out r hr)
      clear hcell hx
      by_cases hq0 : q = 0
      · subst hq0
        replace hcx : (w.alloc (.cells #[.int .i64 ar, .int .i64 vr, .slice ba M bc] 29)).cell? ⟨b, o, none⟩ = some (.int .i64 x) := hcx
        by_cases hlv : liveAt bl x
        · have HC := Lib.hid (HIL.out true (by simp [hlv]))
          have HLV := Lib.hid hlv
          clear HIL hlv
          go_wp2_with (go_at_call 59; refine HC.out.mono ?_; rintro e w' ⟨rfl, rfl⟩)
          refine ⟨⟨1, by omega, by go_num, fun k hk => ?_⟩, by simp [intOf]; omega⟩
          obtain rfl : k = 0 := by omega
          exact ⟨fun h => absurd h (Nat.lt_irrefl _), by rw [HX.out]; exact HLV.out⟩
        · have HC := Lib.hid (HIL.out false (by simp [hlv]))
          have HLV := Lib.hid hlv
          clear HIL hlv
          go_wp2_with (go_at_call 59; refine HC.out.mono ?_; rintro e w' ⟨rfl, rfl⟩)
          go_ret
          refine ⟨_, rfl, .inr ⟨fun h => ?_, 0, Nat.le_refl _, EV.fault _⟩, HW.out⟩
          have := (h 0 (by rw [HL.out]; exact hlt)).2
          rw [HX.out] at this
          exact HLV.out this
      · obtain ⟨p, rfl⟩ : ∃ p, q = p + 1 := ⟨q - 1, by omega⟩
        obtain ⟨b', o', e', -, hcell'⟩ := HS.out p (by rw [HL.out]; omega)
        cases e'
        obtain ⟨y, hy⟩ : ∃ y, s[p]?.getD 0 = y := ⟨_, rfl⟩
        have hcy := (HW.out.cell (p := ⟨b, o + p, none⟩) hbl).trans hcell'
        rw [hy] at hcy
        have HY := Lib.hid (show numAt s p = y from hy)
        clear hcell' hy
        by_cases hxy : x ≤ y
        · clear HIL
          go_wp2_with fail
          go_ret
          refine ⟨_, rfl, .inr ⟨fun h => ?_, 0, Nat.le_refl _, EV.fault _⟩, HW.out⟩
          have := (h (p + 1) (by rw [HL.out]; exact hlt)).1 (by omega)
          rw [HX.out] at this
          have h2 : numAt s p < x := this
          rw [HY.out] at h2
          omega
        have hxy' : y < x := by omega
        by_cases hlv : liveAt bl x
        · have HC := Lib.hid (HIL.out true (by simp [hlv]))
          have HLV := Lib.hid hlv
          clear HIL hlv
          go_wp2_with (go_at_call 59; refine HC.out.mono ?_; rintro e w' ⟨rfl, rfl⟩)
          refine ⟨⟨p + 1 + 1, by omega, by go_num, fun k hk => ?_⟩, by simp [intOf]; omega⟩
          rcases Nat.lt_succ_iff_lt_or_eq.1 hk with h | rfl
          · exact hok.out k h
          · exact ⟨fun _ => by rw [HX.out]; show numAt s p < x; rw [HY.out]; omega, by rw [HX.out]; exact HLV.out⟩
        · have HC := Lib.hid (HIL.out false (by simp [hlv]))
          have HLV := Lib.hid hlv
          clear HIL hlv
          go_wp2_with (go_at_call 59; refine HC.out.mono ?_; rintro e w' ⟨rfl, rfl⟩)
          go_ret
          refine ⟨_, rfl, .inr ⟨fun h => ?_, 0, Nat.le_refl _, EV.fault _⟩, HW.out⟩
          have := (h (p + 1) (by rw [HL.out]; exact hlt)).2
          rw [HX.out] at this
          exact HLV.out this
    · obtain rfl : q = L := by omega
      go_wp2
      go_ret
      refine ⟨_, rfl, .inl ⟨?_, rfl⟩, HW.out⟩
      intro k hk
      exact hok.out k (by rw [← HL.out]; exact hk)
end Go.Proofs.YtbddjneinfkmpaaGreatDoor

namespace Go.Proofs.YtbddjneinfkmpaaGreatDoor
open Go Go.RowKit Go.Sort

/-- The boxes of a program, a function and an instruction. -/
def IBox (W : World) (g : Nat) (pv : List Value) (fv : List Value) (iv : List Value) : Prop := BoxL W g pv ∧ BoxL W (g + 1) fv ∧ BoxL W (g + 1 + 1) iv
theorem IBox.below {W W' : World} {g : Nat} {pv fv iv : List Value} (h : IBox W g pv fv iv) (hb : Below W.heap.size W W') (hg : g + 1 + 1 < W.heap.size) : IBox W' g pv fv iv :=
  ⟨h.1.below hb (by omega), h.2.1.below hb (by omega), h.2.2.below hb hg⟩
theorem IBox.new (w : World) (pv fv iv : List Value) (t t' t'' : TypeId) (hp : 0 < pv.length) (hf : 0 < fv.length) : IBox (((w.alloc (.cells pv.toArray t)).alloc (.cells fv.toArray t')).alloc (.cells iv.toArray t'')) w.heap.size pv fv iv := by
  have h1 := BoxL.new w pv t
  have h2 := BoxL.new (w.alloc (.cells pv.toArray t)) fv t'
  have h3 := BoxL.new ((w.alloc (.cells pv.toArray t)).alloc (.cells fv.toArray t')) iv t''
  rw [World.size_alloc] at h2
  rw [World.size_alloc, World.size_alloc] at h3
  exact ⟨(h1.alloc hp _).alloc hp _, h2.alloc hf _, h3⟩
theorem mem_numAt {s : List Int} {P : Int → Prop} : (∀ v ∈ s, P v) ↔ ∀ k, k < s.length → P (numAt s k) := by
  constructor
  · intro h k hk
    unfold numAt
    rw [List.getElem?_eq_getElem hk]
    exact h _ (List.getElem_mem hk)
  · intro h v hv
    obtain ⟨k, hk, rfl⟩ := List.getElem_of_mem hv
    have := h k hk
    unfold numAt at this
    rw [List.getElem?_eq_getElem hk] at this
    exact this
theorem vars_le (i : Ins) : i.vars.length ≤ 6 := by
  have hs : ∀ l : List Int, (sortL l).length ≤ l.length := by
    intro l
    induction l with
    | nil => simp [sortL]
    | cons x r ih =>
      have h1 : ∀ (x : Int) (l : List Int), (insL x l).length ≤ l.length + 1 := by
        intro x l
        induction l with
        | nil => simp [insL]
        | cons y l ih => unfold insL; split; simp; split; simp; simp; omega
      show (insL x (sortL r)).length ≤ _
      have := h1 x (sortL r)
      simp
      omega
  unfold Ins.vars
  have h2 := Bi.uses_le i
  split
  · have := hs (addL i.uses i.defn)
    have := addL_length i.uses i.defn
    omega
  · have := hs i.uses
    omega

set_option maxRecDepth 100000 in
set_option maxHeartbeats 8000000 in
theorem wrongInstr_any (p : Pg) (f : Fd) (i : Ins) (w : World) (hp : PgIs w.heap.size w p) (hT : KTab w) (hlen : p.funs.length ≤ 10) :
    Calls Tryz.prog 159 #[p.val, f.val, i.val] w fun e w' => ∃ v, e = .returned v ∧ ToldD 0 (insOk p f i) v ∧ Below w.heap.size w w' := by
  obtain ⟨vs, hvs⟩ : ∃ vs, i.vars = vs := ⟨_, rfl⟩
  have HVL := Lib.hid (vars_le i)
  rw [hvs] at HVL
  have HWB := Lib.hid (below3 w (.cells [.slice p.pa p.funs.length p.pc].toArray 24) (.cells [.int .i64 f.ar, .int .i64 f.vr, .slice f.ba f.blocks.length f.bc].toArray 29) (.cells i.cells.toArray 40))
  have HX := Lib.hid (IBox.new w [.slice p.pa p.funs.length p.pc] [.int .i64 f.ar, .int .i64 f.vr, .slice f.ba f.blocks.length f.bc] i.cells 24 29 40 (Nat.zero_lt_succ _) (Nat.zero_lt_succ _))
  have HP := Lib.hid (hp.on HWB.out)
  have HT := Lib.hid (hT.on HWB.out)
  have HF1 := Lib.hid (fun W (h : KTab W) (hf : i.form) => Form_any i W h true (decide_eq_true hf))
  have HF0 := Lib.hid (fun W (h : KTab W) (hf : ¬ i.form) => Form_any i W h false (decide_eq_false hf))
  have HV := Lib.hid (fun W (h : KTab W) => Bi.Vars_any i W h vs hvs)
  have HOK : Hid (insOk p f i ↔ i.form ∧ (∀ k, k < vs.length → numAt vs k < f.vr) ∧ (i.kind = 7 → i.f < p.funs.length ∧ (fdAt p.funs i.f.toNat).ar = i.n)) := by
    unfold insOk
    rw [hvs]
    exact and_congr_right fun _ => and_congr_left fun _ => mem_numAt
  obtain ⟨ok, hok⟩ : ∃ ok, insOk p f i = ok := ⟨_, rfl⟩
  rw [hok] at HOK ⊢
  have HSZ : Hid ((((w.alloc (.cells [.slice p.pa p.funs.length p.pc].toArray 24)).alloc (.cells [.int .i64 f.ar, .int .i64 f.vr, .slice f.ba f.blocks.length f.bc].toArray 29)).alloc (.cells i.cells.toArray 40)).heap.size = w.heap.size + 3) := by
    refine Lib.hid ?_
    simp only [World.size_alloc]
  clear hp hT hvs hok
  have HFP : Hid (i.form → 0 ≤ i.f) := fun h => by
    have := h.2.2.2.2.2.2.2.2.2.1
    simp [noneB] at this
    omega
  obtain ⟨fm, hfm⟩ : ∃ fm, i.form = fm := ⟨_, rfl⟩
  simp only [hfm] at HF1 HF0 HOK HFP
  clear hfm
  obtain ⟨pa, pc, pf⟩ := p
  obtain ⟨ar, vr, ba, bc, bl⟩ := f
  obtain ⟨id, kind, dst, a, b, c, f, n, x0, x1, x2⟩ := i
  unfold Fd.val Pg.val Ins.val at *
  unfold Ins.cells at HX HWB HP HT HSZ
  dsimp only at *
  obtain ⟨PL, hPL⟩ : ∃ PL, pf.length = PL := ⟨_, rfl⟩
  obtain ⟨BL, hBL⟩ : ∃ BL, bl.length = BL := ⟨_, rfl⟩
  have HPL := Lib.hid hPL
  rw [hPL] at hlen
  simp only [hPL, hBL] at HX HWB HP HT HSZ HOK ⊢
  clear hPL hBL
  generalize hE : ((w.alloc (.cells (List.toArray [.slice pa PL pc]) 24)).alloc (.cells (List.toArray [.int .i64 ar, .int .i64 vr, .slice ba BL bc]) 29)).alloc (.cells (List.toArray [.int .i64 id, .int .i64 kind, .int .i64 dst, .int .i64 a, .int .i64 b, .int .i64 c, .int .i64 f, .int .i64 n, .int .i64 x0, .int .i64 x1, .int .i64 x2]) 40) = W at HX HWB HP HT HSZ
  have hE' : ((w.alloc (.cells #[.slice pa PL pc] 24)).alloc (.cells #[.int .i64 ar, .int .i64 vr, .slice ba BL bc] 29)).alloc (.cells #[.int .i64 id, .int .i64 kind, .int .i64 dst, .int .i64 a, .int .i64 b, .int .i64 c, .int .i64 f, .int .i64 n, .int .i64 x0, .int .i64 x1, .int .i64 x2] 40) = W := hE
  clear hE
  obtain ⟨g, hg⟩ : ∃ g, w.heap.size = g := ⟨_, rfl⟩
  have HGL := Lib.hid HWB.out.size
  rw [hg] at HX HSZ HWB HGL ⊢
  have k0 := (HX.out.2.2 0 _ rfl).1
  have k1 := (HX.out.2.2 1 _ rfl).1
  have k2 := (HX.out.2.2 2 _ rfl).1
  have k3 := (HX.out.2.2 3 _ rfl).1
  have k4 := (HX.out.2.2 4 _ rfl).1
  have k5 := (HX.out.2.2 5 _ rfl).1
  have k6 := (HX.out.2.2 6 _ rfl).1
  have k7 := (HX.out.2.2 7 _ rfl).1
  have k8 := (HX.out.2.2 8 _ rfl).1
  have k9 := (HX.out.2.2 9 _ rfl).1
  have k10 := (HX.out.2.2 10 _ rfl).1
  by_cases hf : fm
  rotate_left
  · have HF := Lib.hid (fun W h => HF0.out W h hf)
    have HNO : Hid (¬ ok) := fun h => hf (HOK.out.1 h).1
    clear HF0 HF1 HV HOK HFP HP hf
    go_enter Tryz.func159, Tryz.ntmps159
    go_wp2_with (go_at_call 102; refine (HF.out _ HT.out).mono ?_; rintro e wa ⟨rfl, hba⟩; have HW2 := Lib.hid (HWB.out.trans (hba.mono HGL.out)); clear hba k0 k1 k2 k3 k4 k5 k6 k7 k8 k9 k10)
    go_ret
    exact ⟨_, rfl, .inr ⟨HNO.out, 0, Nat.le_refl _, EV.fault _⟩, HW2.out⟩
  have HF := Lib.hid (fun W h => HF1.out W h hf)
  have HFN := Lib.hid (HFP.out hf)
  have HOK2 : Hid (ok ↔ (∀ k, k < vs.length → numAt vs k < vr) ∧ (kind = 7 → f < PL ∧ (fdAt pf f.toNat).ar = n)) := by
    have h := HOK.out
    exact Lib.hid (by simpa [hf] using h)
  clear HF0 HF1 HOK HFP hf
  obtain ⟨V, hV⟩ : ∃ V, vs.length = V := ⟨_, rfl⟩
  rw [hV] at HV HVL HOK2
  have hVL := HVL.out
  have HVV := Lib.hid hV
  clear hV
  go_enter Tryz.func159, Tryz.ntmps159
  go_wp2_with (first | (go_at_call 102; refine (HF.out _ HT.out).mono ?_; rintro e wa ⟨rfl, hba⟩; have HW2 := Lib.hid (HWB.out.trans (hba.mono HGL.out)); have HT2 := Lib.hid (HT.out.on hba); have HP2 := Lib.hid (HP.out.on hba); have HX2 := Lib.hid (HX.out.below hba (by rw [HSZ.out]; omega)); have HSZ2 := Lib.hid hba.size; clear hba HP HT HX k0 k1 k2 k3 k4 k5 k6 k7 k8 k9 k10; have HX := HX2; clear HX2; have k0 := (HX.out.2.2 0 _ rfl).1; have k1 := (HX.out.2.2 1 _ rfl).1; have k2 := (HX.out.2.2 2 _ rfl).1; have k3 := (HX.out.2.2 3 _ rfl).1; have k4 := (HX.out.2.2 4 _ rfl).1; have k5 := (HX.out.2.2 5 _ rfl).1; have k6 := (HX.out.2.2 6 _ rfl).1; have k7 := (HX.out.2.2 7 _ rfl).1; have k8 := (HX.out.2.2 8 _ rfl).1; have k9 := (HX.out.2.2 9 _ rfl).1; have k10 := (HX.out.2.2 10 _ rfl).1) | (go_at_call 174; refine (HV.out _ HT2.out).mono ?_; rintro e wb ⟨u, rfl, hou, hbb⟩; have HW3 := Lib.hid (HW2.out.trans (hbb.mono (Nat.le_trans HGL.out HSZ2.out))); have HP3 := Lib.hid (HP2.out.on hbb); have HX3 := Lib.hid (HX.out.below hbb (by have := HSZ.out; have := HSZ2.out; omega)); obtain ⟨av, cv, rfl, hlv, hIv⟩ := is_of_ints hou; have HIV := Lib.hid hIv; clear hou hbb HP2 HX HT2 hIv k0 k1 k2 k3 k4 k5 k6 k7 k8 k9 k10; have HX := HX3; clear HX3; have k0 := (HX.out.2.2 0 _ rfl).1; have k1 := (HX.out.2.2 1 _ rfl).1; have k2 := (HX.out.2.2 2 _ rfl).1; have k3 := (HX.out.2.2 3 _ rfl).1; have k4 := (HX.out.2.2 4 _ rfl).1; have k5 := (HX.out.2.2 5 _ rfl).1; have k6 := (HX.out.2.2 6 _ rfl).1; have k7 := (HX.out.2.2 7 _ rfl).1; have k8 := (HX.out.2.2 8 _ rfl).1; have k9 := (HX.out.2.2 9 _ rfl).1; have k10 := (HX.out.2.2 10 _ rfl).1; have hp0 := (HX.out.1 0 _ rfl).1; have hf1 := (HX.out.2.1 1 _ rfl).1))
  go_loop [16] (fun i => ∃ q : Nat, q ≤ V ∧ i = .int .i64 q ∧ Hid (∀ k, k < q → numAt vs k < vr)) (fun i => V - (intOf i).toNat)
  case atStart => exact ⟨0, Nat.zero_le _, rfl, fun k hk => absurd hk (Nat.not_lt_zero _)⟩
  case round =>
    obtain ⟨q, hq, rfl, hok⟩ := hrel
    by_cases hlt : q < V
    · obtain ⟨bb, oo, rfl, hbl, hcell⟩ := HIV.out q (by rw [HVV.out]; exact hlt)
      obtain ⟨x, hx⟩ : ∃ x, vs[q]?.getD 0 = x := ⟨_, rfl⟩
      rw [hx] at hcell
      have HXX := Lib.hid (show numAt vs q = x from hx)
      have hqi : (q : Int) < (V : Int) := by omega
      clear hx
      by_cases hxv : vr ≤ x
      · go_wp2_with fail
        go_ret
        refine ⟨_, rfl, .inr ⟨fun h => ?_, 0, Nat.le_refl _, EV.fault _⟩, HW3.out⟩
        have := (HOK2.out.1 h).1 q hlt
        rw [HXX.out] at this
        omega
      · have hxv' : x < vr := by omega
        go_wp2_with fail
        refine ⟨⟨q + 1, by omega, by go_num, fun k hk => ?_⟩, by simp [intOf]; omega⟩
        rcases Nat.lt_succ_iff_lt_or_eq.1 hk with h | rfl
        · exact hok.out k h
        · rw [HXX.out]; exact hxv'
    · obtain rfl : q = V := by omega
      have hqi : ¬ ((q : Int) < (q : Int)) := by omega
      by_cases hk7 : kind = 7
      rotate_left
      · have hkb : (kind != 7) = true := by simpa using hk7
        have HK7 := Lib.hid hk7
        clear hk7
        go_wp2_with fail
        go_ret
        exact ⟨_, rfl, .inl ⟨HOK2.out.2 ⟨hok.out, fun h => absurd h HK7.out⟩, rfl⟩, HW3.out⟩
      subst hk7
      have hkb : ((7 : Int) != 7) = false := by decide
      by_cases hfl : (PL : Int) ≤ f
      · go_wp2_with fail
        go_ret
        refine ⟨_, rfl, .inr ⟨fun h => ?_, 0, Nat.le_refl _, EV.fault _⟩, HW3.out⟩
        have := ((HOK2.out.1 h).2 (by simp)).1
        omega
      have hfl' : f < (PL : Int) := by omega
      obtain ⟨fk, rfl⟩ := Int.eq_ofNat_of_zero_le HFN.out
      have hfk : fk < PL := by omega
      obtain ⟨pb, po, hpa, hpb, hc0, -⟩ := HP3.out fk (by rw [HPL.out]; exact hfk)
      dsimp only at hpa hc0
      subst hpa
      obtain ⟨ar', har⟩ : ∃ ar', (fdAt pf fk).ar = ar' := ⟨_, rfl⟩
      rw [har] at hc0
      have HAR := Lib.hid har
      clear har
      by_cases harn : ar' = n
      · have hbn : (ar' != n) = false := by simpa using harn
        go_wp2_with fail
        go_quiet (fail)
        go_wp2_with fail
        go_ret
        refine ⟨_, rfl, .inl ⟨HOK2.out.2 ⟨hok.out, fun _ => ⟨hfl', ?_⟩⟩, rfl⟩, below_drewN HW3.out _⟩
        show (fdAt pf (fk : Int).toNat).ar = n
        rw [Int.toNat_natCast, HAR.out, harn]
      · have hbn : (ar' != n) = true := by simpa using harn
        have HARN := Lib.hid harn
        clear harn
        go_wp2_with fail
        go_quiet (fail)
        go_wp2_with fail
        go_ret
        refine ⟨_, rfl, .inr ⟨fun h => ?_, 0, Nat.le_refl _, EV.fault _⟩, below_drewN HW3.out _⟩
        have h2 := ((HOK2.out.1 h).2 (by simp)).2
        rw [Int.toNat_natCast, HAR.out] at h2
        exact HARN.out h2
end Go.Proofs.YtbddjneinfkmpaaGreatDoor

namespace Go.Proofs.YtbddjneinfkmpaaGreatDoor
open Go Go.RowKit Go.Sort

theorem isErr : Tryz.prog.isIface 82 = true := by kernel_rfl
theorem neqErr (t : TypeId) (u : Value) (W : World) : (binOp .neq 82 (.iface t u) .nilIface).run Tryz.prog W = .ok (.bool true) W := run_neq_iface_nil (h := isErr) ..

theorem neqNil (W : World) : (binOp .neq 82 .nilIface .nilIface).run Tryz.prog W = .ok (.bool false) W := run_neq_nil_nil_at (h := isErr) ..
theorem EV.iface {d : Nat} {v : Value} (h : EV d v) : ∃ t u, v = .iface t u := by
  cases h with
  | fault s => exact ⟨_, _, rfl⟩
  | part s n h => exact ⟨_, _, rfl⟩
/-- Two boxes that hold a program and a function. -/
def PF (W : World) (gp gf : Nat) (p : Pg) (f : Fd) : Prop := BoxL W gp [.slice p.pa p.funs.length p.pc] ∧ BoxL W gf [.int .i64 f.ar, .int .i64 f.vr, .slice f.ba f.blocks.length f.bc]
theorem PF.on {W W' : World} {gp gf : Nat} {p : Pg} {f : Fd} (h : PF W gp gf p f) (hb : Below W.heap.size W W') : PF W' gp gf p f :=
  ⟨h.1.below hb (h.1.lt (Nat.zero_lt_succ _)), h.2.below hb (h.2.lt (Nat.zero_lt_succ _))⟩

set_option maxRecDepth 100000 in
set_option maxHeartbeats 4000000 in
theorem cloI_any (p : Pg) (f : Fd) (i : Ins) (gp gf : Nat) (w : World) (hp : PgIs w.heap.size w p) (hT : KTab w) (hlen : p.funs.length ≤ 10) (hb : PF w gp gf p f) :
    Calls Tryz.prog 158 #[i.val, .pointer (some ⟨gp, 0, none⟩), .pointer (some ⟨gf, 0, none⟩)] w fun e w' => ∃ v, e = .returned v ∧ ToldD 0 (insOk p f i) v ∧ Below w.heap.size w w' := by
  have HW := Lib.hid (below1 w (.cells i.cells.toArray 40))
  have HB := Lib.hid (BoxL.new w i.cells 40)
  have HC := Lib.hid (wrongInstr_any p f i _ (hp.on HW.out) (hT.on HW.out) hlen)
  have HPF := Lib.hid (hb.on HW.out)
  clear hp hT hb
  obtain ⟨ok, hok⟩ : ∃ ok, insOk p f i = ok := ⟨_, rfl⟩
  rw [hok] at HC ⊢
  clear hok
  unfold Ins.val Fd.val Pg.val at *
  unfold Ins.cells at HB HW HC HPF
  obtain ⟨id, kind, dst, a, b, c, f1, n, x0, x1, x2⟩ := i
  dsimp only at *
  generalize hE : w.alloc (.cells (List.toArray [.int .i64 id, .int .i64 kind, .int .i64 dst, .int .i64 a, .int .i64 b, .int .i64 c, .int .i64 f1, .int .i64 n, .int .i64 x0, .int .i64 x1, .int .i64 x2]) 40) = W at HB HW HC HPF
  have hE' : w.alloc (.cells #[.int .i64 id, .int .i64 kind, .int .i64 dst, .int .i64 a, .int .i64 b, .int .i64 c, .int .i64 f1, .int .i64 n, .int .i64 x0, .int .i64 x1, .int .i64 x2] 40) = W := hE
  clear hE
  obtain ⟨g, hg⟩ : ∃ g, w.heap.size = g := ⟨_, rfl⟩
  have HGL := Lib.hid HW.out.size
  rw [hg] at HB HW HGL ⊢
  have k0 := (HB.out 0 _ rfl).1
  have k1 := (HB.out 1 _ rfl).1
  have k2 := (HB.out 2 _ rfl).1
  have k3 := (HB.out 3 _ rfl).1
  have k4 := (HB.out 4 _ rfl).1
  have k5 := (HB.out 5 _ rfl).1
  have k6 := (HB.out 6 _ rfl).1
  have k7 := (HB.out 7 _ rfl).1
  have k8 := (HB.out 8 _ rfl).1
  have k9 := (HB.out 9 _ rfl).1
  have k10 := (HB.out 10 _ rfl).1
  have p0 := (HPF.out.1 0 _ rfl).1
  have f0 := (HPF.out.2 0 _ rfl).1
  have f1' := (HPF.out.2 1 _ rfl).1
  have f2 := (HPF.out.2 2 _ rfl).1
  go_enter Tryz.func158, Tryz.ntmps158
  go_wp2_with (go_at_call 159; refine HC.out.mono ?_; rintro e w' ⟨v, rfl, hv, hbb⟩; have HV := Lib.hid hv; have HW2 := Lib.hid (HW.out.trans (hbb.mono HGL.out)); clear hv hbb)
  go_ret
  exact ⟨_, rfl, HV.out, HW2.out⟩

set_option maxRecDepth 100000 in
set_option maxHeartbeats 4000000 in
theorem wrongPartI_any (part : ByteArray) (ad : Option Addr) (l : List Ins) (cap : Nat) (p : Pg) (f : Fd) (gp gf : Nat) (w : World) (hp : PgIs w.heap.size w p) (hT : KTab w) (hlen : p.funs.length ≤ 10) (hb : PF w gp gf p f) (hc : CodeIs w.heap.size w ad l) (L : Nat) (hL : l.length = L) (hl : L ≤ 30) :
    Calls Tryz.prog 157 #[.string part, .slice ad L cap, .func (.func 158) #[] #[.pointer (some ⟨gp, 0, none⟩), .pointer (some ⟨gf, 0, none⟩)]] w fun e w' => ∃ v, e = .returned v ∧ ToldD 1 (codeOk p f l) v ∧ Below w.heap.size w w' := by
  have HC := Lib.hid hc
  have HL := Lib.hid hL
  have HCL := Lib.hid (fun i W (h : Below w.heap.size w W) => cloI_any p f i gp gf W (hp.on h) (hT.on h) hlen (hb.on h))
  clear hp hT hb hc hL
  go_enter Tryz.func157, Tryz.ntmps157
  go_wp2
  go_loopw [12] (fun i wr => ∃ q : Nat, q ≤ L ∧ i = .int .i64 q ∧ Hid (∀ k, k < q → insOk p f (insAt l k)) ∧ Hid (Below w.heap.size w wr)) (fun i _ => L - (intOf i).toNat)
  case atStart => exact ⟨0, Nat.zero_le _, rfl, fun k hk => absurd hk (Nat.not_lt_zero _), Below.refl _ _⟩
  case round =>
    obtain ⟨q, hq, rfl, hok, hB⟩ := hrel
    by_cases hlt : q < L
    · obtain ⟨b, o, rfl, hbl, c0, c1, c2, c3, c4, c5, c6, c7, c8, c9, c10⟩ := (HC.out.below hB.out).at q (by rw [HL.out]; exact hlt)
      obtain ⟨i, hi⟩ : ∃ i, insAt l q = i := ⟨_, rfl⟩
      rw [hi] at c0 c1 c2 c3 c4 c5 c6 c7 c8 c9 c10
      have HI := Lib.hid hi
      have hqi : (q : Int) < (L : Int) := by omega
      clear hi hbl
      have HW := Lib.hid (below1 wr (.cells i.cells.toArray 40))
      have HBX := Lib.hid (BoxL.new wr i.cells 40)
      have HBW := Lib.hid (hB.out.trans (HW.out.mono hB.out.size))
      have HK := Lib.hid (HCL.out i _ HBW.out)
      clear HW
      obtain ⟨ok, hokk⟩ : ∃ ok, insOk p f i = ok := ⟨_, rfl⟩
      have HOK := Lib.hid hokk
      rw [hokk] at HK
      clear hokk
      obtain ⟨id, kind, dst, a, b', c, f', n, x0, x1, x2⟩ := i
      unfold Ins.val at HK
      unfold Ins.cells at HBX HK HBW
      dsimp only at *
      go_wp2_with (go_at_call 158; refine HK.out.mono ?_; rintro e w2 ⟨v, rfl, hv, hbb⟩; have HW2 := Lib.hid (HBW.out.trans (hbb.mono HBW.out.size)); clear hbb; obtain ⟨hv1, rfl⟩ | ⟨hv1, d, hd, hev⟩ := hv)
      · have HV1 := Lib.hid hv1
        clear hv1
        go_wp2_with fail
        go_roundw
        case rel =>
          refine ⟨q + 1, by omega, by go_num, fun k hk => ?_, HW2⟩
          rcases Nat.lt_succ_iff_lt_or_eq.1 hk with h | rfl
          · exact hok.out k h
          · rw [HI.out, HOK.out]; exact HV1.out
        case measure => simp [intOf]; omega
      · obtain ⟨t, u, rfl⟩ := hev.iface
        have HEV := Lib.hid hev
        have HV1 := Lib.hid hv1
        clear hev hv1
        go_wp2_with fail
        simp only [eqGuard_at_iface, Sem.run_pure, Result.andThen, neqErr]
        go_wp2_with fail
        go_ret
        refine ⟨_, rfl, .inr ⟨fun h => HV1.out ?_, d + 1, by omega, EV.part _ _ HEV.out⟩, HW2.out⟩
        have := h q (by rw [HL.out]; exact hlt)
        rw [HI.out, HOK.out] at this
        exact this
    · obtain rfl : q = L := by omega
      go_wp2_with fail
      go_ret
      refine ⟨_, rfl, .inl ⟨fun k hk => hok.out k (by rw [← HL.out]; exact hk), rfl⟩, hB.out⟩
end Go.Proofs.YtbddjneinfkmpaaGreatDoor

namespace Go.Proofs.YtbddjneinfkmpaaGreatDoor
open Go Go.RowKit Go.Sort

theorem ToldD.mono {D D' : Nat} {ok : Prop} {v : Value} (h : ToldD D ok v) (hd : D ≤ D') : ToldD D' ok v :=
  h.imp _root_.id fun ⟨h1, d, h2, h3⟩ => ⟨h1, d, Nat.le_trans h2 hd, h3⟩

set_option maxRecDepth 100000 in
set_option maxHeartbeats 8000000 in
theorem wrongBlock_any (p : Pg) (f : Fd) (b : Blk) (w : World) (hp : PgIs w.heap.size w p) (hf : FdIs w.heap.size w f) (hb : BlkIs w.heap.size w b) (hT : KTab w) (hlen : p.funs.length ≤ 10) (hfew : fewB b) :
    Calls Tryz.prog 127 #[p.val, f.val, b.val] w fun e w' => ∃ v, e = .returned v ∧ ToldD 1 (blkOk p f b) v ∧ Below w.heap.size w w' := by
  have HWB := Lib.hid (below3 w (.cells [.slice p.pa p.funs.length p.pc].toArray 24) (.cells [.int .i64 f.ar, .int .i64 f.vr, .slice f.ba f.blocks.length f.bc].toArray 29) (.cells [.bool b.live, .slice b.ca b.code.length b.cc, .slice b.sa b.succ.length b.sc].toArray 35))
  have HX := Lib.hid (IBox.new w [.slice p.pa p.funs.length p.pc] [.int .i64 f.ar, .int .i64 f.vr, .slice f.ba f.blocks.length f.bc] [.bool b.live, .slice b.ca b.code.length b.cc, .slice b.sa b.succ.length b.sc] 24 29 35 (Nat.zero_lt_succ _) (Nat.zero_lt_succ _))
  have HS := Lib.hid (wrongSucc_any f b.sa b.succ b.sc _ (hf.on HWB.out) (hb.2.on HWB.out) _ rfl (by have := hfew.2; omega))
  have HI := Lib.hid (fun W gp gf part (h : Below w.heap.size w W) (hpf : PF W gp gf p f) => wrongPartI_any part b.ca b.code b.cc p f gp gf W (hp.on h) (hT.on h) hlen hpf (hb.1.on h) _ rfl hfew.1)
  have HPF : Hid (PF (((w.alloc (.cells [.slice p.pa p.funs.length p.pc].toArray 24)).alloc (.cells [.int .i64 f.ar, .int .i64 f.vr, .slice f.ba f.blocks.length f.bc].toArray 29)).alloc (.cells [.bool b.live, .slice b.ca b.code.length b.cc, .slice b.sa b.succ.length b.sc].toArray 35)) w.heap.size (w.heap.size + 1) p f) := Lib.hid ⟨HX.out.1, HX.out.2.1⟩
  have HOK : Hid (blkOk p f b ↔ (¬ b.live = true → b.code.length = 0 ∧ b.succ.length = 0) ∧ b.code.length ≤ 16 ∧ succOk f.blocks b.succ ∧ codeOk p f b.code) := Lib.hid (by unfold blkOk; rw [Bool.not_eq_true])
  have HSZ : Hid ((((w.alloc (.cells [.slice p.pa p.funs.length p.pc].toArray 24)).alloc (.cells [.int .i64 f.ar, .int .i64 f.vr, .slice f.ba f.blocks.length f.bc].toArray 29)).alloc (.cells [.bool b.live, .slice b.ca b.code.length b.cc, .slice b.sa b.succ.length b.sc].toArray 35)).heap.size = w.heap.size + 3) := by
    refine Lib.hid ?_
    simp only [World.size_alloc]
  obtain ⟨ok, hok⟩ : ∃ ok, blkOk p f b = ok := ⟨_, rfl⟩
  obtain ⟨so, hso⟩ : ∃ so, succOk f.blocks b.succ = so := ⟨_, rfl⟩
  obtain ⟨co, hco⟩ : ∃ co, codeOk p f b.code = co := ⟨_, rfl⟩
  simp only [hso, hco] at HOK HS HI
  rw [hok] at HOK ⊢
  clear hok hso hco
  have hc30 := hfew.1
  have hs30 := hfew.2
  clear hp hf hb hT hfew
  unfold Fd.val Pg.val Blk.val at *
  obtain ⟨CL, hCL⟩ : ∃ CL, b.code.length = CL := ⟨_, rfl⟩
  obtain ⟨SL, hSL⟩ : ∃ SL, b.succ.length = SL := ⟨_, rfl⟩
  obtain ⟨PL, hPL⟩ : ∃ PL, p.funs.length = PL := ⟨_, rfl⟩
  obtain ⟨BL, hBL⟩ : ∃ BL, f.blocks.length = BL := ⟨_, rfl⟩
  obtain ⟨lv, hlv⟩ : ∃ lv, b.live = lv := ⟨_, rfl⟩
  simp only [hCL, hSL, hPL, hBL, hlv] at HX HWB HS HI HPF HOK HSZ hc30 hs30 hlen ⊢
  clear hCL hSL hPL hBL hlv
  generalize hE : ((w.alloc (.cells (List.toArray [.slice p.pa PL p.pc]) 24)).alloc (.cells (List.toArray [.int .i64 f.ar, .int .i64 f.vr, .slice f.ba BL f.bc]) 29)).alloc (.cells (List.toArray [.bool lv, .slice b.ca CL b.cc, .slice b.sa SL b.sc]) 35) = W at HX HWB HSZ HS HPF
  have hE' : ((w.alloc (.cells #[.slice p.pa PL p.pc] 24)).alloc (.cells #[.int .i64 f.ar, .int .i64 f.vr, .slice f.ba BL f.bc] 29)).alloc (.cells #[.bool lv, .slice b.ca CL b.cc, .slice b.sa SL b.sc] 35) = W := hE
  clear hE
  obtain ⟨g, hg⟩ : ∃ g, w.heap.size = g := ⟨_, rfl⟩
  have HGL := Lib.hid HWB.out.size
  rw [hg] at HX HSZ HWB HGL HPF HI ⊢
  have f0 := (HX.out.2.1 0 _ rfl).1
  have f1 := (HX.out.2.1 1 _ rfl).1
  have f2 := (HX.out.2.1 2 _ rfl).1
  have b0 := (HX.out.2.2 0 _ rfl).1
  have b1 := (HX.out.2.2 1 _ rfl).1
  have b2 := (HX.out.2.2 2 _ rfl).1
  by_cases hbad : lv = false ∧ 0 < CL + SL
  · obtain ⟨rfl, hcs⟩ := hbad
    have hcs' : (0 : Int) < (CL : Int) + (SL : Int) := by omega
    clear HS HI HPF
    go_enter Tryz.func127, Tryz.ntmps127
    go_wp2_with fail
    go_ret
    refine ⟨_, rfl, .inr ⟨fun h => ?_, 0, by omega, EV.fault _⟩, HWB.out⟩
    have := (HOK.out.1 h).1 (by simp)
    omega
  have HNB : Hid (lv = false → CL = 0 ∧ SL = 0) := Lib.hid fun h => by
    have : ¬ 0 < CL + SL := fun h2 => hbad ⟨h, h2⟩
    omega
  have htst : lv = true ∨ (lv = false ∧ CL = 0 ∧ SL = 0) := by
    cases lv with
    | true => exact .inl rfl
    | false => exact .inr ⟨rfl, HNB.out rfl⟩
  clear hbad
  by_cases hc16 : 16 < CL
  · have hc16' : (16 : Int) < (CL : Int) := by omega
    rcases htst with rfl | ⟨rfl, rfl, rfl⟩
    · clear HS HI HPF
      go_enter Tryz.func127, Tryz.ntmps127
      go_wp2_with fail
      go_ret
      refine ⟨_, rfl, .inr ⟨fun h => ?_, 0, by omega, EV.fault _⟩, HWB.out⟩
      have := (HOK.out.1 h).2.1
      omega
    · omega
  have hc16' : (CL : Int) ≤ 16 := by omega
  have HC16 := Lib.hid hc16
  clear hc16
  rcases htst with rfl | ⟨rfl, rfl, rfl⟩
  all_goals
    go_enter Tryz.func127, Tryz.ntmps127
    go_wp2_with (go_at_call 156; refine HS.out.mono ?_; rintro e wa ⟨v, rfl, hv, hba⟩; have HW2 := Lib.hid (HWB.out.trans (hba.mono HGL.out)); have HX2 := Lib.hid (HX.out.below hba (by rw [HSZ.out]; omega)); have HPF2 := Lib.hid (HPF.out.on hba); have HG2 := Lib.hid (Nat.le_trans HGL.out hba.size); clear hba HX HPF HS f0 f1 f2 b0 b1 b2; have b1 := (HX2.out.2.2 1 _ rfl).1; obtain ⟨hv1, rfl⟩ | ⟨hv1, d, hd, hev⟩ := hv)
  · have HV1 := Lib.hid hv1
    clear hv1
    refine (HI.out wa g (g + 1) _ HW2.out HPF2.out).mono ?_
    rintro e wb ⟨v, rfl, hv, hbb⟩
    have HV := Lib.hid hv
    have HW3 := Lib.hid (HW2.out.trans (hbb.mono HG2.out))
    clear hv hbb
    go_wp2_with fail
    go_ret
    refine ⟨_, rfl, ?_, HW3.out⟩
    obtain ⟨h1, h2⟩ | ⟨h1, h2⟩ := HV.out
    · exact .inl ⟨HOK.out.2 ⟨fun h => absurd trivial h, by omega, HV1.out, h1⟩, h2⟩
    · exact .inr ⟨fun h => h1 (HOK.out.1 h).2.2.2, h2⟩
  · obtain ⟨t, u, rfl⟩ := hev.iface
    have HEV := Lib.hid hev
    have HV1 := Lib.hid hv1
    clear hev hv1 HI
    simp only [eqGuard_at_iface, Sem.run_pure, Result.andThen, neqErr]
    go_wp2_with fail
    go_ret
    exact ⟨_, rfl, .inr ⟨fun h => HV1.out (HOK.out.1 h).2.2.1, d, by omega, HEV.out⟩, HW2.out⟩
  · have HV1 := Lib.hid hv1
    clear hv1
    refine (HI.out wa g (g + 1) _ HW2.out HPF2.out).mono ?_
    rintro e wb ⟨v, rfl, hv, hbb⟩
    have HV := Lib.hid hv
    have HW3 := Lib.hid (HW2.out.trans (hbb.mono HG2.out))
    clear hv hbb
    go_wp2_with fail
    go_ret
    refine ⟨_, rfl, ?_, HW3.out⟩
    obtain ⟨h1, h2⟩ | ⟨h1, h2⟩ := HV.out
    · exact .inl ⟨HOK.out.2 ⟨fun _ => ⟨by simp, by simp⟩, by omega, HV1.out, h1⟩, h2⟩
    · exact .inr ⟨fun h => h1 (HOK.out.1 h).2.2.2, h2⟩
  · obtain ⟨t, u, rfl⟩ := hev.iface
    have HEV := Lib.hid hev
    have HV1 := Lib.hid hv1
    clear hev hv1 HI
    simp only [eqGuard_at_iface, Sem.run_pure, Result.andThen, neqErr]
    go_wp2_with fail
    go_ret
    exact ⟨_, rfl, .inr ⟨fun h => HV1.out (HOK.out.1 h).2.2.1, d, by omega, HEV.out⟩, HW2.out⟩
end Go.Proofs.YtbddjneinfkmpaaGreatDoor

namespace Go.Proofs.YtbddjneinfkmpaaGreatDoor
open Go Go.RowKit Go.Sort

def Blk.cells (b : Blk) : List Value := [.bool b.live, .slice b.ca b.code.length b.cc, .slice b.sa b.succ.length b.sc]
def Fd.cells (f : Fd) : List Value := [.int .i64 f.ar, .int .i64 f.vr, .slice f.ba f.blocks.length f.bc]

set_option maxRecDepth 100000 in
set_option maxHeartbeats 4000000 in
theorem cloB_any (p : Pg) (f : Fd) (b : Blk) (gp gf : Nat) (w : World) (hp : PgIs w.heap.size w p) (hf : FdIs w.heap.size w f) (hb : BlkIs w.heap.size w b) (hT : KTab w) (hlen : p.funs.length ≤ 10) (hfew : fewB b) (hpf : PF w gp gf p f) :
    Calls Tryz.prog 126 #[b.val, .pointer (some ⟨gp, 0, none⟩), .pointer (some ⟨gf, 0, none⟩)] w fun e w' => ∃ v, e = .returned v ∧ ToldD 1 (blkOk p f b) v ∧ Below w.heap.size w w' := by
  have HW := Lib.hid (below1 w (.cells b.cells.toArray 35))
  have HB := Lib.hid (BoxL.new w b.cells 35)
  have HC := Lib.hid (wrongBlock_any p f b _ (hp.on HW.out) (hf.on HW.out) (hb.on HW.out) (hT.on HW.out) hlen hfew)
  have HPF := Lib.hid (hpf.on HW.out)
  clear hp hT hb hf hfew hpf
  obtain ⟨ok, hok⟩ : ∃ ok, blkOk p f b = ok := ⟨_, rfl⟩
  rw [hok] at HC ⊢
  clear hok
  unfold Blk.val Fd.val Pg.val at *
  unfold Blk.cells at HB HW HC HPF
  generalize hE : w.alloc (.cells (List.toArray [.bool b.live, .slice b.ca b.code.length b.cc, .slice b.sa b.succ.length b.sc]) 35) = W at HB HW HC HPF
  have hE' : w.alloc (.cells #[.bool b.live, .slice b.ca b.code.length b.cc, .slice b.sa b.succ.length b.sc] 35) = W := hE
  clear hE
  obtain ⟨g, hg⟩ : ∃ g, w.heap.size = g := ⟨_, rfl⟩
  have HGL := Lib.hid HW.out.size
  rw [hg] at HB HW HGL ⊢
  have k0 := (HB.out 0 _ rfl).1
  have k1 := (HB.out 1 _ rfl).1
  have k2 := (HB.out 2 _ rfl).1
  have p0 := (HPF.out.1 0 _ rfl).1
  have f0 := (HPF.out.2 0 _ rfl).1
  have f1' := (HPF.out.2 1 _ rfl).1
  have f2 := (HPF.out.2 2 _ rfl).1
  go_enter Tryz.func126, Tryz.ntmps126
  go_wp2_with (go_at_call 127; refine HC.out.mono ?_; rintro e w' ⟨v, rfl, hv, hbb⟩; have HV := Lib.hid hv; have HW2 := Lib.hid (HW.out.trans (hbb.mono HGL.out)); clear hv hbb)
  go_ret
  exact ⟨_, rfl, HV.out, HW2.out⟩

set_option maxRecDepth 100000 in
set_option maxHeartbeats 4000000 in
theorem wrongPartB_any (part : ByteArray) (ad : Option Addr) (l : List Blk) (cap : Nat) (p : Pg) (f : Fd) (gp gf : Nat) (w : World) (hp : PgIs w.heap.size w p) (hf : FdIs w.heap.size w f) (hT : KTab w) (hlen : p.funs.length ≤ 10) (hb : PF w gp gf p f) (hc : BlksIs w.heap.size w ad l) (hfew : ∀ k, fewB (blkAt l k)) (L : Nat) (hL : l.length = L) (hl : L ≤ 20) :
    Calls Tryz.prog 125 #[.string part, .slice ad L cap, .func (.func 126) #[] #[.pointer (some ⟨gp, 0, none⟩), .pointer (some ⟨gf, 0, none⟩)]] w fun e w' => ∃ v, e = .returned v ∧ ToldD 2 (∀ k, k < l.length → blkOk p f (blkAt l k)) v ∧ Below w.heap.size w w' := by
  have HC := Lib.hid hc
  have HL := Lib.hid hL
  have HCL := Lib.hid (fun q W (h : Below w.heap.size w W) (hk : BlkIs W.heap.size W (blkAt l q)) => cloB_any p f (blkAt l q) gp gf W (hp.on h) (hf.on h) hk (hT.on h) hlen (hfew q) (hb.on h))
  clear hp hT hb hc hL hf hfew
  go_enter Tryz.func125, Tryz.ntmps125
  go_wp2
  go_loopw [12] (fun i wr => ∃ q : Nat, q ≤ L ∧ i = .int .i64 q ∧ Hid (∀ k, k < q → blkOk p f (blkAt l k)) ∧ Hid (Below w.heap.size w wr)) (fun i _ => L - (intOf i).toNat)
  case atStart => exact ⟨0, Nat.zero_le _, rfl, fun k hk => absurd hk (Nat.not_lt_zero _), Below.refl _ _⟩
  case round =>
    obtain ⟨q, hq, rfl, hok, hB⟩ := hrel
    by_cases hlt : q < L
    · obtain ⟨b, o, rfl, hbl, c0, c1, c2, hbi⟩ := (HC.out.below hB.out) q (by rw [HL.out]; exact hlt)
      have hqi : (q : Int) < (L : Int) := by omega
      have HW := Lib.hid (below1 wr (.cells (blkAt l q).cells.toArray 35))
      have HBX := Lib.hid (BoxL.new wr (blkAt l q).cells 35)
      have HBW := Lib.hid (hB.out.trans (HW.out.mono hB.out.size))
      have HK := Lib.hid (HCL.out q _ HBW.out ((hbi.below (HW.out.mono hB.out.size)).mono (Nat.le_trans hB.out.size HW.out.size)))
      clear HW hbi hbl
      obtain ⟨i, hi⟩ : ∃ i, blkAt l q = i := ⟨_, rfl⟩
      rw [hi] at c0 c1 c2
      simp only [hi] at HBX HBW HK
      have HI := Lib.hid hi
      clear hi
      obtain ⟨ok, hokk⟩ : ∃ ok, blkOk p f i = ok := ⟨_, rfl⟩
      have HOK := Lib.hid hokk
      rw [hokk] at HK
      clear hokk
      unfold Blk.val at HK
      unfold Blk.cells at HBX HK HBW
      go_wp2_with (go_at_call 126; refine HK.out.mono ?_; rintro e w2 ⟨v, rfl, hv, hbb⟩; have HW2 := Lib.hid (HBW.out.trans (hbb.mono HBW.out.size)); clear hbb; obtain ⟨hv1, rfl⟩ | ⟨hv1, d, hd, hev⟩ := hv)
      · have HV1 := Lib.hid hv1
        clear hv1
        go_wp2_with fail
        go_roundw
        case rel =>
          refine ⟨q + 1, by omega, by go_num, fun k hk => ?_, HW2⟩
          rcases Nat.lt_succ_iff_lt_or_eq.1 hk with h | rfl
          · exact hok.out k h
          · rw [HI.out, HOK.out]; exact HV1.out
        case measure => simp [intOf]; omega
      · obtain ⟨t, u, rfl⟩ := hev.iface
        have HEV := Lib.hid hev
        have HV1 := Lib.hid hv1
        clear hev hv1
        go_wp2_with fail
        simp only [eqGuard_at_iface, Sem.run_pure, Result.andThen, neqErr]
        go_wp2_with fail
        go_ret
        refine ⟨_, rfl, .inr ⟨fun h => HV1.out ?_, d + 1, by omega, EV.part _ _ HEV.out⟩, HW2.out⟩
        have := h q (by rw [HL.out]; exact hlt)
        rw [HI.out, HOK.out] at this
        exact this
    · obtain rfl : q = L := by omega
      go_wp2_with fail
      go_ret
      refine ⟨_, rfl, .inl ⟨fun k hk => hok.out k (by rw [← HL.out]; exact hk), rfl⟩, hB.out⟩
end Go.Proofs.YtbddjneinfkmpaaGreatDoor
