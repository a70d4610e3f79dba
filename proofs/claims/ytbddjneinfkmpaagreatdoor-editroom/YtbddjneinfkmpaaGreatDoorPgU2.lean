/- PgU2: several texts in one: PgG PgH PgI PgJ PgK. -/
import Derived.Test.YtbddjneinfkmpaaGreatDoorPgU1
import Derived.RangeFuncNested
import Derived.RangeFuncBound
import Derived.RangeFuncCalls
import Derived.RangeFuncLeaves
import Derived.RangeFuncBox
import Derived.RangeFuncFrom
import Derived.RangeFuncWrites
import Derived.Maps.AppendAt
import Derived.Shelf.Abstract
import Derived.Shelf.RegionOpen
import Derived.WalkKit
import Derived.OwnWalkIn
import Derived.TacticsInMore
import Derived.LoopNIn
import Derived.LoopIn
import Derived.Test.YtbddjneinfkmpaaGreatDoorPgM
import Derived.Laws.Rows
import Derived.Laws.CopyOwn
import Derived.Laws.Tables
import Derived.Deep.WholeRow

namespace Go.Proofs.YtbddjneinfkmpaaGreatDoor
open Go Go.RowKit Go.Sort

/-- The boxes of a program and a function, new. -/
theorem PF.new (w : World) (p : Pg) (f : Fd) (t t' : TypeId) : PF ((w.alloc (.cells [.slice p.pa p.funs.length p.pc].toArray t)).alloc (.cells [.int .i64 f.ar, .int .i64 f.vr, .slice f.ba f.blocks.length f.bc].toArray t')) w.heap.size (w.heap.size + 1) p f := by
  have h1 := BoxL.new w [.slice p.pa p.funs.length p.pc] t
  have h2 := BoxL.new (w.alloc (.cells [.slice p.pa p.funs.length p.pc].toArray t)) [.int .i64 f.ar, .int .i64 f.vr, .slice f.ba f.blocks.length f.bc] t'
  rw [World.size_alloc] at h2
  exact ⟨h1.alloc (Nat.zero_lt_succ _) _, h2⟩

set_option maxRecDepth 100000 in
set_option maxHeartbeats 8000000 in
theorem wrongFun_any (p : Pg) (f : Fd) (w : World) (hp : PgIs w.heap.size w p) (hf : FdIs w.heap.size w f) (hT : KTab w) (hlen : p.funs.length ≤ 10) (hfew : fewF f) :
    Calls Tryz.prog 97 #[p.val, f.val] w fun e w' => ∃ v, e = .returned v ∧ ToldD 2 (fdOk p f) v ∧ Below w.heap.size w w' := by
  have HWB := Lib.hid (below2 w (.cells [.slice p.pa p.funs.length p.pc].toArray 24) (.cells [.int .i64 f.ar, .int .i64 f.vr, .slice f.ba f.blocks.length f.bc].toArray 29))
  have HPF := Lib.hid (PF.new w p f 24 29)
  have HI := Lib.hid (fun part => wrongPartB_any part f.ba f.blocks f.bc p f w.heap.size (w.heap.size + 1) _ (hp.on HWB.out) (hf.on HWB.out) (hT.on HWB.out) hlen HPF.out (BlksIs.on hf HWB.out) (fun k => hfew.b k) _ rfl hfew.1)
  have HFD := Lib.hid (BlksIs.on hf HWB.out)
  have HOK : Hid (fdOk p f ↔ (0 ≤ f.ar ∧ f.ar ≤ 3 ∧ f.ar ≤ f.vr ∧ f.vr ≤ 6 ∧ 1 ≤ f.blocks.length ∧ f.blocks.length ≤ 12 ∧ (blkAt f.blocks 0).live = true ∧ (blkAt f.blocks (f.blocks.length - 1)).live = true) ∧ ∀ k, k < f.blocks.length → blkOk p f (blkAt f.blocks k)) := Lib.hid Iff.rfl
  obtain ⟨ok, hok⟩ : ∃ ok, fdOk p f = ok := ⟨_, rfl⟩
  obtain ⟨bo, hbo⟩ : ∃ bo, (∀ k, k < f.blocks.length → blkOk p f (blkAt f.blocks k)) = bo := ⟨_, rfl⟩
  simp only [hbo] at HOK HI
  rw [hok] at HOK ⊢
  have hb20 := hfew.1
  clear hok hbo hp hf hT hfew
  unfold Fd.val Pg.val at *
  obtain ⟨PL, hPL⟩ : ∃ PL, p.funs.length = PL := ⟨_, rfl⟩
  obtain ⟨BL, hBL⟩ : ∃ BL, f.blocks.length = BL := ⟨_, rfl⟩
  have HBL := Lib.hid hBL
  unfold PF at HPF
  simp only [hPL, hBL] at HWB HI HPF HOK HFD hb20 hlen ⊢
  clear hPL hBL
  obtain ⟨ar, vr, ba, bc, bl⟩ := f
  dsimp only at *
  generalize hE : (w.alloc (.cells (List.toArray [.slice p.pa PL p.pc]) 24)).alloc (.cells (List.toArray [.int .i64 ar, .int .i64 vr, .slice ba BL bc]) 29) = W at HWB HI HPF HFD
  have hE' : (w.alloc (.cells #[.slice p.pa PL p.pc] 24)).alloc (.cells #[.int .i64 ar, .int .i64 vr, .slice ba BL bc] 29) = W := hE
  clear hE
  obtain ⟨g, hg⟩ : ∃ g, w.heap.size = g := ⟨_, rfl⟩
  have HGL := Lib.hid HWB.out.size
  rw [hg] at HWB HGL HPF HI ⊢
  have f0 := (HPF.out.2 0 _ rfl).1
  have f1 := (HPF.out.2 1 _ rfl).1
  have f2 := (HPF.out.2 2 _ rfl).1
  by_cases hc : ar < 0
  · clear HI HFD
    go_enter Tryz.func97, Tryz.ntmps97
    go_wp2_with fail
    go_ret
    refine ⟨_, rfl, .inr ⟨fun h => ?_, 0, by omega, EV.fault _⟩, HWB.out⟩
    have := (HOK.out.1 h).1
    omega
  have h0 : 0 ≤ ar := by omega
  clear hc
  by_cases hc : 3 < ar
  · clear HI HFD
    go_enter Tryz.func97, Tryz.ntmps97
    go_wp2_with fail
    go_ret
    refine ⟨_, rfl, .inr ⟨fun h => ?_, 0, by omega, EV.fault _⟩, HWB.out⟩
    have := (HOK.out.1 h).1
    omega
  have h289 : ar ≤ 3 := by omega
  clear hc
  by_cases hc : vr < ar
  · clear HI HFD
    go_enter Tryz.func97, Tryz.ntmps97
    go_wp2_with fail
    go_ret
    refine ⟨_, rfl, .inr ⟨fun h => ?_, 0, by omega, EV.fault _⟩, HWB.out⟩
    have := (HOK.out.1 h).1
    omega
  have h580 : ar ≤ vr := by omega
  clear hc
  by_cases hc : 6 < vr
  · clear HI HFD
    go_enter Tryz.func97, Tryz.ntmps97
    go_wp2_with fail
    go_ret
    refine ⟨_, rfl, .inr ⟨fun h => ?_, 0, by omega, EV.fault _⟩, HWB.out⟩
    have := (HOK.out.1 h).1
    omega
  have h873 : vr ≤ 6 := by omega
  clear hc
  by_cases hc : BL = 0
  · subst hc
    clear HI HFD
    have hl0 : ((0 : Nat) : Int) - 1 < 0 := by omega
    go_enter Tryz.func97, Tryz.ntmps97
    go_wp2_with fail
    go_ret
    refine ⟨_, rfl, .inr ⟨fun h => ?_, 0, by omega, EV.fault _⟩, HWB.out⟩
    have := (HOK.out.1 h).1
    omega
  have hB1 : (0 : Int) ≤ (BL : Int) - 1 := by omega
  have HB0 := Lib.hid hc
  clear hc
  by_cases hc : 12 < BL
  · have hB2 : (12 : Int) ≤ (BL : Int) - 1 := by omega
    clear HI HFD
    go_enter Tryz.func97, Tryz.ntmps97
    go_wp2_with fail
    go_ret
    refine ⟨_, rfl, .inr ⟨fun h => ?_, 0, by omega, EV.fault _⟩, HWB.out⟩
    have := (HOK.out.1 h).1
    omega
  have hB2 : (BL : Int) - 1 < 12 := by omega
  have hB3 : BL ≤ 12 := by omega
  clear hc
  obtain ⟨LB, rfl⟩ : ∃ LB, BL = LB + 1 := ⟨BL - 1, by have := HB0.out; omega⟩
  obtain ⟨b, o, rfl, hbl, c0, -⟩ := HFD.out 0 (by rw [HBL.out]; omega)
  obtain ⟨b', o', e', -, d0, -⟩ := HFD.out LB (by rw [HBL.out]; omega)
  cases e'
  obtain ⟨l0, hl0⟩ : ∃ l0, (blkAt bl 0).live = l0 := ⟨_, rfl⟩
  obtain ⟨l1, hl1⟩ : ∃ l1, (blkAt bl LB).live = l1 := ⟨_, rfl⟩
  rw [hl0] at c0
  rw [hl1] at d0
  have HLL : Hid ((blkAt bl 0).live = l0 ∧ (blkAt bl (LB + 1 - 1)).live = l1) := Lib.hid ⟨hl0, by rw [Nat.add_sub_cancel]; exact hl1⟩
  clear hl0 hl1 hbl
  replace c0 : W.cell? ⟨b, o, none⟩ = some (.bool l0) := by simpa using c0
  have hlast : (((LB + 1 : Nat) : Int) - 1) = (LB : Int) := by omega
  have hL1 : (0 : Int) ≤ (LB : Int) := by omega
  have hL2 : (LB : Int) < 12 := by omega
  cases l0 with
  | false =>
    clear HI HFD
    go_enter Tryz.func97, Tryz.ntmps97
    go_wp2_with fail
    go_ret
    refine ⟨_, rfl, .inr ⟨fun h => ?_, 0, by omega, EV.fault _⟩, HWB.out⟩
    have := (HOK.out.1 h).1
    rw [HLL.out.1] at this
    simp at this
  | true =>
  cases l1 with
  | false =>
    clear HI HFD
    go_enter Tryz.func97, Tryz.ntmps97
    go_wp2_with fail
    go_ret
    refine ⟨_, rfl, .inr ⟨fun h => ?_, 0, by omega, EV.fault _⟩, HWB.out⟩
    have := (HOK.out.1 h).1
    rw [HLL.out.2] at this
    simp at this
  | true =>
  go_enter Tryz.func97, Tryz.ntmps97
  go_wp2_with (go_at_call 125; refine (HI.out _).mono ?_; rintro e wa ⟨v, rfl, hv, hba⟩; have HW2 := Lib.hid (HWB.out.trans (hba.mono HGL.out)); have HV := Lib.hid hv; clear hba hv)
  go_ret
  refine ⟨_, rfl, ?_, HW2.out⟩
  obtain ⟨h1, h2⟩ | ⟨h1, h2⟩ := HV.out
  · exact .inl ⟨HOK.out.2 ⟨⟨by omega, by omega, by omega, by omega, by omega, by omega, HLL.out.1, HLL.out.2⟩, h1⟩, h2⟩
  · exact .inr ⟨fun h => h1 (HOK.out.1 h).2, h2⟩
end Go.Proofs.YtbddjneinfkmpaaGreatDoor

namespace Go.Proofs.YtbddjneinfkmpaaGreatDoor
open Go Go.RowKit Go.Sort

set_option maxRecDepth 100000 in
set_option maxHeartbeats 4000000 in
theorem cloF_any (p : Pg) (b : Fd) (gp : Nat) (w : World) (hp : PgIs w.heap.size w p) (hb : FdIs w.heap.size w b) (hT : KTab w) (hlen : p.funs.length ≤ 10) (hfew : fewF b) (hpf : BoxL w gp [.slice p.pa p.funs.length p.pc]) :
    Calls Tryz.prog 96 #[b.val, .pointer (some ⟨gp, 0, none⟩)] w fun e w' => ∃ v, e = .returned v ∧ ToldD 2 (fdOk p b) v ∧ Below w.heap.size w w' := by
  have HW := Lib.hid (below1 w (.cells b.cells.toArray 29))
  have HB := Lib.hid (BoxL.new w b.cells 29)
  have HC := Lib.hid (wrongFun_any p b _ (hp.on HW.out) (hb.on HW.out) (hT.on HW.out) hlen hfew)
  have HPF := Lib.hid (hpf.below HW.out (hpf.lt (Nat.zero_lt_succ _)))
  clear hp hT hb hfew hpf
  obtain ⟨ok, hok⟩ : ∃ ok, fdOk p b = ok := ⟨_, rfl⟩
  rw [hok] at HC ⊢
  clear hok
  unfold Fd.val Pg.val at *
  unfold Fd.cells at HB HW HC HPF
  generalize hE : w.alloc (.cells (List.toArray [.int .i64 b.ar, .int .i64 b.vr, .slice b.ba b.blocks.length b.bc]) 29) = W at HB HW HC HPF
  have hE' : w.alloc (.cells #[.int .i64 b.ar, .int .i64 b.vr, .slice b.ba b.blocks.length b.bc] 29) = W := hE
  clear hE
  obtain ⟨g, hg⟩ : ∃ g, w.heap.size = g := ⟨_, rfl⟩
  have HGL := Lib.hid HW.out.size
  rw [hg] at HB HW HGL ⊢
  have k0 := (HB.out 0 _ rfl).1
  have k1 := (HB.out 1 _ rfl).1
  have k2 := (HB.out 2 _ rfl).1
  have p0 := (HPF.out 0 _ rfl).1
  go_enter Tryz.func96, Tryz.ntmps96
  go_wp2_with (go_at_call 97; refine HC.out.mono ?_; rintro e w' ⟨v, rfl, hv, hbb⟩; have HV := Lib.hid hv; have HW2 := Lib.hid (HW.out.trans (hbb.mono HGL.out)); clear hv hbb)
  go_ret
  exact ⟨_, rfl, HV.out, HW2.out⟩

set_option maxRecDepth 100000 in
set_option maxHeartbeats 4000000 in
theorem wrongPartF_any (part : ByteArray) (p : Pg) (gp : Nat) (w : World) (hp : PgIs w.heap.size w p) (hT : KTab w) (hb : BoxL w gp [.slice p.pa p.funs.length p.pc]) (hfew : p.few) (L : Nat) (hL : p.funs.length = L) :
    Calls Tryz.prog 95 #[.string part, .slice p.pa L p.pc, .func (.func 96) #[] #[.pointer (some ⟨gp, 0, none⟩)]] w fun e w' => ∃ v, e = .returned v ∧ ToldD 3 (fdsOk p) v ∧ Below w.heap.size w w' := by
  have HC := Lib.hid hp
  have HL := Lib.hid hL
  have hlen := hfew.1
  have hl : L ≤ 10 := by omega
  have HCL := Lib.hid (fun q W (h : Below w.heap.size w W) (hk : FdIs W.heap.size W (fdAt p.funs q)) => cloF_any p (fdAt p.funs q) gp W (hp.on h) hk (hT.on h) hlen (hfew.f q) (hb.below h (hb.lt (Nat.zero_lt_succ _))))
  clear hp hT hb hL hfew
  unfold fdsOk
  obtain ⟨okF, hokF⟩ : ∃ okF, fdOk p = okF := ⟨_, rfl⟩
  simp only [hokF] at HCL ⊢
  clear hokF
  obtain ⟨pa, pc, l⟩ := p
  dsimp only at *
  go_enter Tryz.func95, Tryz.ntmps95
  go_wp2
  go_loopw [12] (fun i wr => ∃ q : Nat, q ≤ L ∧ i = .int .i64 q ∧ Hid (∀ k, k < q → okF (fdAt l k)) ∧ Hid (Below w.heap.size w wr)) (fun i _ => L - (intOf i).toNat)
  case atStart => exact ⟨0, Nat.zero_le _, rfl, fun k hk => absurd hk (Nat.not_lt_zero _), Below.refl _ _⟩
  case round =>
    obtain ⟨q, hq, rfl, hok, hB⟩ := hrel
    by_cases hlt : q < L
    · obtain ⟨b, o, rfl, hbl, c0, c1, c2, hbi⟩ := (HC.out.below hB.out) q (by rw [HL.out]; exact hlt)
      have hqi : (q : Int) < (L : Int) := by omega
      have HW := Lib.hid (below1 wr (.cells (fdAt l q).cells.toArray 29))
      have HBX := Lib.hid (BoxL.new wr (fdAt l q).cells 29)
      have HBW := Lib.hid (hB.out.trans (HW.out.mono hB.out.size))
      have HK := Lib.hid (HCL.out q _ HBW.out ((hbi.below (HW.out.mono hB.out.size)).mono (Nat.le_trans hB.out.size HW.out.size)))
      clear HW hbi hbl
      obtain ⟨i, hi⟩ : ∃ i, fdAt l q = i := ⟨_, rfl⟩
      rw [hi] at c0 c1 c2
      simp only [hi] at HBX HBW HK
      have HI := Lib.hid hi
      clear hi
      obtain ⟨ok, hokk⟩ : ∃ ok, okF i = ok := ⟨_, rfl⟩
      have HOK := Lib.hid hokk
      rw [hokk] at HK
      clear hokk
      unfold Fd.val at HK
      unfold Fd.cells at HBX HK HBW
      go_wp2_with (go_at_call 96; refine HK.out.mono ?_; rintro e w2 ⟨v, rfl, hv, hbb⟩; have HW2 := Lib.hid (HBW.out.trans (hbb.mono HBW.out.size)); clear hbb; obtain ⟨hv1, rfl⟩ | ⟨hv1, d, hd, hev⟩ := hv)
      · have HV1 := Lib.hid hv1
        clear hv1
        go_wp2_with fail
        go_roundw
        case rel =>
          refine ⟨q + 1, by omega, by go_num, fun k hk => ?_, HW2⟩
          rcases Nat.lt_succ_iff_lt_or_eq.1 hk with h | rfl
          · exact hok.out k h
          · rw [HI.out, HOK.out]; exact HV1.out
        case measure => simp [intOf]; omega
      · obtain ⟨t, u, rfl⟩ := hev.iface
        have HEV := Lib.hid hev
        have HV1 := Lib.hid hv1
        clear hev hv1
        go_wp2_with fail
        simp only [eqGuard_at_iface, Sem.run_pure, Result.andThen, neqErr]
        go_wp2_with fail
        go_ret
        refine ⟨_, rfl, .inr ⟨fun h => HV1.out ?_, d + 1, by omega, EV.part _ _ HEV.out⟩, HW2.out⟩
        have := h q (by rw [HL.out]; exact hlt)
        rw [HI.out, HOK.out] at this
        exact this
    · obtain rfl : q = L := by omega
      go_wp2_with fail
      go_ret
      refine ⟨_, rfl, .inl ⟨fun k hk => hok.out k (by rw [← HL.out]; exact hk), rfl⟩, hB.out⟩
end Go.Proofs.YtbddjneinfkmpaaGreatDoor

namespace Go.Proofs.YtbddjneinfkmpaaGreatDoor
open Go Go.RowKit Go.Sort Go.Shelf

attribute [local go_sem] Oper.semAt_some

/-- An instruction, and where it stands. -/
structure At where
  f : Nat
  b : Nat
  k : Nat
  i : Ins
def atsC (f b : Nat) : Nat → List Ins → List At
  | _, [] => []
  | k, i :: r => ⟨f, b, k, i⟩ :: atsC f b (k + 1) r
def atsB (f : Nat) : Nat → List Blk → List At
  | _, [] => []
  | b, x :: r => atsC f b 0 x.code ++ atsB f (b + 1) r
def atsF : Nat → List Fd → List At
  | _, [] => []
  | f, x :: r => atsB f 0 x.blocks ++ atsF (f + 1) r
def Pg.ats (p : Pg) : List At := atsF 0 p.funs
theorem atsC_i (f b : Nat) : ∀ (l : List Ins) (k : Nat), (atsC f b k l).map At.i = l
  | [], _ => rfl
  | i :: r, k => by simp [atsC, atsC_i f b r (k + 1)]
theorem atsB_i (f : Nat) : ∀ (l : List Blk) (b : Nat), (atsB f b l).map At.i = l.flatMap Blk.ins
  | [], _ => rfl
  | x :: r, b => by simp [atsB, atsB_i f r (b + 1), atsC_i, Blk.ins]
theorem atsF_i : ∀ (l : List Fd) (f : Nat), (atsF f l).map At.i = l.flatMap Fd.ins
  | [], _ => rfl
  | x :: r, f => by simp [atsF, atsF_i r (f + 1), atsB_i, Fd.ins]
theorem ats_i (p : Pg) : p.ats.map At.i = p.ins := atsF_i p.funs 0
theorem atsC_drop (f b : Nat) {l : List Ins} {k : Nat} (h : k < l.length) : atsC f b k (l.drop k) = ⟨f, b, k, insAt l k⟩ :: atsC f b (k + 1) (l.drop (k + 1)) := by
  rw [List.drop_eq_getElem_cons h]
  simp [atsC, insAt, h]
theorem atsB_drop (f : Nat) {l : List Blk} {b : Nat} (h : b < l.length) : atsB f b (l.drop b) = atsC f b 0 (blkAt l b).code ++ atsB f (b + 1) (l.drop (b + 1)) := by
  rw [List.drop_eq_getElem_cons h]
  simp [atsB, blkAt, h]
theorem atsF_drop {l : List Fd} {f : Nat} (h : f < l.length) : atsF f (l.drop f) = atsB f 0 (fdAt l f).blocks ++ atsF (f + 1) (l.drop (f + 1)) := by
  rw [List.drop_eq_getElem_cons h]
  simp [atsF, fdAt, h]
def At.enc (x : At) : Array Value := #[.agg #[.int .i64 (x.f : Int), .int .i64 (x.b : Int), .int .i64 (x.k : Int)], x.i.val]
theorem pre_lt {α : Type} {l pre : List α} {x : α} {s : List α} (h : l = pre ++ x :: s) : pre.length < l.length := by rw [h]; simp
theorem pre_next {α : Type} {l pre : List α} {x : α} {s : List α} (h : l = pre ++ x :: s) : l = (pre ++ [x]) ++ s := by rw [h]; simp

set_option maxRecDepth 100000 in
set_option maxHeartbeats 4000000 in
theorem instrs1_in (n : Nat) (hn : 1 ≤ n) (l Bs n₀ : Nat) (p : Pg) (hfew : p.few) (J Jx : List At → World → Prop) (hJ : ∀ pre W o, J pre W → J pre (W.alloc o))
    (hY : ∀ pre x W, J pre W → pre ++ [x] <+: p.ats → YieldAt Fence.wide (n - 1) Tryz.prog l x.enc W fun e W' =>
      (e = .returned (.bool true) ∧ J (pre ++ [x]) W' ∧ Below n₀ W W') ∨ (e = .returned (.bool false) ∧ Jx (pre ++ [x]) W'))
    (W : World) (hBs : W.cell? ⟨Bs, 0, none⟩ = some (.slice p.pa p.funs.length p.pc)) (hp : PgIs n₀ W p) (hn₀ : n₀ ≤ W.heap.size) (h0 : J [] W) :
    CallsIn Fence.wide n Tryz.prog 101 #[.func (.yield l) #[] #[], .pointer (some ⟨Bs, 0, none⟩)] W fun e W' => (∃ v, e = .returned v) ∧
      ((∃ ys, ys = p.ats ∧ J ys W') ∨ (∃ pre, pre <+: p.ats ∧ Jx pre W')) := by
  refine callsIn_of_wp Tryz.func101 rfl trivial ?_ rfl
  simp only [Tryz.ntmps101, List.size_toArray, List.length_cons, List.length_nil, Nat.reduceAdd, Nat.reduceSub, Array.replicate_succ, Array.replicate_zero, List.push_toArray, List.append_toArray, List.nil_append, List.cons_append]
  have HP := Lib.hid hp
  have HY := Lib.hid hY
  have HJ := Lib.hid hJ
  have HN := Lib.hid hn₀
  have HF := Lib.hid (fun k => hfew.f k)
  have hlen := hfew.1
  have HATS : Hid (∃ ats, p.ats = ats ∧ ats = atsF 0 p.funs) := Lib.hid ⟨_, rfl, rfl⟩
  clear hp hY hJ hfew hn₀
  obtain ⟨ats, hats, hats2⟩ := HATS.out
  rw [hats] at HY ⊢
  clear HATS hats
  obtain ⟨pa, pc, fs⟩ := p
  dsimp only at *
  obtain ⟨L, hL⟩ : ∃ L, fs.length = L := ⟨_, rfl⟩
  rw [hL] at hBs hlen
  have HL := Lib.hid hL
  have HA2 := Lib.hid hats2
  clear hL hats2
  gi_wp2
  gi_loopw [12] (fun i wr => ∃ q : Nat, q ≤ L ∧ i = .int .i64 q ∧ ∃ pre, Hid (ats = pre ++ atsF q (fs.drop q)) ∧ Hid (J pre wr) ∧ Hid (Below n₀ W wr)) (fun i _ => L - (intOf i).toNat)
  case atStart => exact ⟨0, Nat.zero_le _, rfl, [], Lib.hid HA2.out, h0, Below.refl _ _⟩
  case round =>
    obtain ⟨q, hq, rfl, pre, hpre, hJs, hnx⟩ := hrel
    by_cases hlt : q < L
    · obtain ⟨-, -, -, -, -, -, -, hfd⟩ := HP.out q (by rw [HL.out]; exact hlt)
      obtain ⟨b, o, rfl, hb, c0, c1, c2, -⟩ := (HP.out.below hnx.out) q (by rw [HL.out]; exact hlt)
      dsimp only at c0 c1 c2 hfd
      have hfew := HF.out q
      have hp1 := hpre.out
      rw [atsF_drop (by rw [HL.out]; exact hlt)] at hp1
      obtain ⟨fd, hfdq⟩ : ∃ fd, fdAt fs q = fd := ⟨_, rfl⟩
      rw [hfdq] at c0 c1 c2 hfd hfew hp1
      clear hfdq hpre hb
      obtain ⟨ar, vr, ba, bc, bl⟩ := fd
      dsimp only at c0 c1 c2 hfd hfew hp1
      obtain ⟨M, hM⟩ : ∃ M, bl.length = M := ⟨_, rfl⟩
      have hM20 : M ≤ 20 := by rw [← hM]; exact hfew.1
      rw [hM] at c2
      have HM := Lib.hid hM
      have HFB := Lib.hid (fun k => hfew.b k)
      dsimp only at HFB
      obtain ⟨rest, hrest⟩ : ∃ rest, atsF (q + 1) (fs.drop (q + 1)) = rest := ⟨_, rfl⟩
      rw [hrest] at hp1
      have HREST := Lib.hid hrest
      have HP1 := Lib.hid hp1
      have HFD := Lib.hid (show BlksIs n₀ W ba bl from hfd)
      clear hM hfew hrest hp1 hfd
      have hqi : (q : Int) < (L : Int) := by omega
      have HNW := Lib.hid hnx.out.size
      obtain ⟨wo, rfl⟩ : ∃ wo : World, wo = wr := ⟨_, rfl⟩
      gi_wp2
      gi_loopw [20] (fun i wi => ∃ r : Nat, r ≤ M ∧ i = .int .i64 r ∧ ∃ pre, Hid (ats = pre ++ (atsB q r (bl.drop r) ++ rest)) ∧ Hid (J pre wi) ∧ Hid (Below n₀ W wi)) (fun i _ => M - (intOf i).toNat)
      case atStart => exact ⟨0, Nat.zero_le _, rfl, pre, HP1, HJ.out _ _ _ hJs.out, hnx.out.alloc (Nat.le_trans HN.out HNW.out) _⟩
      case round =>
        clear c0 c1 c2
        obtain ⟨r, hr, rfl, pre2, hpre2, hJ2, hnx2⟩ := hrel
        by_cases hrt : r < M
        · obtain ⟨-, -, -, -, -, -, -, hbk⟩ := HFD.out r (by rw [HM.out]; exact hrt)
          obtain ⟨b2, o2, rfl, hb2, d0, d1, d2, -⟩ := (BlksIs.below HFD.out hnx2.out) r (by rw [HM.out]; exact hrt)
          have hfewb := HFB.out r
          have hp2 := hpre2.out
          rw [atsB_drop q (by rw [HM.out]; exact hrt)] at hp2
          obtain ⟨bk, hbkr⟩ : ∃ bk, blkAt bl r = bk := ⟨_, rfl⟩
          rw [hbkr] at d0 d1 d2 hbk hfewb hp2
          clear hbkr hpre2 hb2
          obtain ⟨lv, ca, cc, code, sa, sc, succ⟩ := bk
          dsimp only at d0 d1 d2 hbk hfewb hp2
          obtain ⟨C, hC⟩ : ∃ C, code.length = C := ⟨_, rfl⟩
          have hC30 : C ≤ 30 := by rw [← hC]; exact hfewb.1
          rw [hC] at d1
          have HC := Lib.hid hC
          obtain ⟨rest2, hrest2⟩ : ∃ rest2, atsB q (r + 1) (bl.drop (r + 1)) ++ rest = rest2 := ⟨_, rfl⟩
          rw [List.append_assoc, hrest2] at hp2
          have HREST2 := Lib.hid hrest2
          have HP2 := Lib.hid hp2
          have HCD := Lib.hid (show CodeIs n₀ W ca code from hbk.1)
          clear hC hfewb hrest2 hp2 hbk
          have hri : (r : Int) < (M : Int) := by omega
          have HNW2 := Lib.hid hnx2.out.size
          obtain ⟨wm, rfl⟩ : ∃ wm : World, wm = wr := ⟨_, rfl⟩
          gi_wp2
          gi_loopw [28] (fun i wi => ∃ k : Nat, k ≤ C ∧ i = .int .i64 k ∧ ∃ pre, Hid (ats = pre ++ (atsC q r k (code.drop k) ++ rest2)) ∧ Hid (J pre wi) ∧ Hid (Below n₀ W wi)) (fun i _ => C - (intOf i).toNat)
          case atStart => exact ⟨0, Nat.zero_le _, rfl, pre2, HP2, HJ.out _ _ _ hJ2.out, hnx2.out.alloc (Nat.le_trans HN.out HNW2.out) _⟩
          case round =>
            clear d0 d1 d2
            obtain ⟨k, hk, rfl, pre3, hpre3, hJ3, hnx3⟩ := hrel
            by_cases hkt : k < C
            · obtain ⟨b3, o3, rfl, hb3, c0, c1, c2, c3, c4, c5, c6, c7, c8, c9, c10⟩ := (HCD.out.below hnx3.out).at k (by rw [HC.out]; exact hkt)
              have hp3 := hpre3.out
              rw [atsC_drop q r (by rw [HC.out]; exact hkt)] at hp3
              obtain ⟨i, hi⟩ : ∃ i, insAt code k = i := ⟨_, rfl⟩
              rw [hi] at c0 c1 c2 c3 c4 c5 c6 c7 c8 c9 c10 hp3
              rw [List.cons_append] at hp3
              have HP3 := Lib.hid hp3
              clear hi hpre3 hb3 hp3
              have hki : (k : Int) < (C : Int) := by omega
              have HNW3 := Lib.hid (Nat.le_trans HN.out hnx3.out.size)
              obtain ⟨fn, tmps, assign, body, hy, hR⟩ := HY.out pre3 ⟨q, r, k, i⟩ (wr.alloc (.cells i.cells.toArray 40)) (HJ.out _ _ _ hJ3.out) ⟨_, (pre_next HP3.out).symm⟩
              unfold At.enc Ins.val at hy
              unfold Ins.cells at hy hR
              obtain ⟨id, kind, dst, a, bb, c, ff, nn, x0, x1, x2⟩ := i
              dsimp only at c0 c1 c2 c3 c4 c5 c6 c7 c8 c9 c10 hy hR
              gi_wp2
              refine hR.mono ?_
              clear hy hR c0 c1 c2 c3 c4 c5 c6 c7 c8 c9 c10
              rintro e W3 (⟨rfl, hJ4, hk4⟩ | ⟨rfl, hJx4⟩)
              · have HB4 := Lib.hid (hnx3.out.trans (((Below.refl _ _).alloc HNW3.out _).trans hk4))
                have HJ4 := Lib.hid hJ4
                clear hJ4 hk4
                gi_wp2
                go_roundw
                case rel => exact ⟨k + 1, by omega, by go_num, _, Lib.hid (pre_next HP3.out), HJ4, HB4⟩
                case measure => simp [intOf]; omega
              · have HJ4 := Lib.hid hJx4
                clear hJx4
                gi_wp2
                refine bodyPost_ret (results_none rfl _ _ _) rfl ?_
                exact ⟨⟨_, rfl⟩, .inr ⟨_, ⟨_, (pre_next HP3.out).symm⟩, HJ4.out⟩⟩
            · obtain rfl : k = C := by omega
              have hp := hpre3.out
              rw [List.drop_of_length_le (by rw [HC.out]; exact Nat.le_refl _)] at hp
              have HPP := Lib.hid hp
              clear hp hpre3
              gi_wp2
              go_roundw
              case rel => exact ⟨r + 1, by omega, by go_num, pre3, Lib.hid (by rw [HREST2.out]; simpa [atsC] using HPP.out), hJ3, hnx3⟩
              case measure => simp [intOf]; omega
        · obtain rfl : r = M := by omega
          have hp := hpre2.out
          rw [List.drop_of_length_le (by rw [HM.out]; exact Nat.le_refl _)] at hp
          have HPP := Lib.hid hp
          clear hp hpre2
          gi_wp2
          go_roundw
          case rel => exact ⟨q + 1, by omega, by go_num, pre2, Lib.hid (by rw [HREST.out]; simpa [atsB] using HPP.out), hJ2, hnx2⟩
          case measure => simp [intOf]; omega
    · obtain rfl : q = L := by omega
      have hp := hpre.out
      rw [List.drop_of_length_le (by rw [HL.out]; exact Nat.le_refl _)] at hp
      have HP := Lib.hid hp
      clear hp hpre
      gi_wp2
      go_end0
      exact ⟨⟨_, rfl⟩, .inl ⟨_, by have := HP.out; simpa [atsF] using this.symm, hJs.out⟩⟩
end Go.Proofs.YtbddjneinfkmpaaGreatDoor

namespace Go.Proofs.YtbddjneinfkmpaaGreatDoor
open Go Go.RowKit Go.Sort Go.Shelf

attribute [local go_sem] Oper.semAt_some

set_option maxHeartbeats 1000000 in
/-- The function value that 'instrs' hands back. -/
theorem instrs_any (p : Pg) (w : World) :
    Calls Tryz.prog 68 #[p.val] w fun e w' => e = .returned (.func (.func 101) #[] #[.pointer (some ⟨w.heap.size, 0, none⟩)]) ∧ w' = w.alloc (.cells #[.slice p.pa p.funs.length p.pc] 24) := by
  unfold Pg.val
  go_enter Tryz.func68, Tryz.ntmps68
  go_wp2
  go_ret
  exact ⟨rfl, rfl⟩

/-- An instruction of p, where it stands. -/
structure Of (p : Pg) where
  val : At
  mem : val ∈ p.ats
def Of.enc {p : Pg} (x : Of p) : Array Value := x.1.enc
def vals {p : Pg} (l : List (Of p)) : List At := l.map (·.1)
theorem vals_app {p : Pg} (l : List (Of p)) (x : Of p) : vals (l ++ [x]) = vals l ++ [x.1] := by simp [vals]
/-- All instructions come, in order; or the first of them. -/
theorem instrs_stops (n : Nat) (hn : 1 ≤ n) (Bs n₀ : Nat) (p : Pg) (w : World) (hfew : p.few) (hBl : Bs < w.heap.size) (hn₀ : n₀ ≤ w.heap.size) (hBs : w.cell? ⟨Bs, 0, none⟩ = some (.slice p.pa p.funs.length p.pc)) (hp : PgIs n₀ w p) :
    SeqStopsK Fence.wide n Tryz.prog 101 #[.pointer (some ⟨Bs, 0, none⟩)] (Of.enc (p := p)) (Below n₀) (fun ys => vals ys = p.ats) (fun pre => vals pre <+: p.ats) p.ats.length w := fun l J Jx W hW hJ _ hY h0 => by
  refine (instrs1_in n hn l Bs n₀ p hfew (fun pre W => ∃ pre' : List (Of p), vals pre' = pre ∧ J pre' W) (fun pre W => ∃ pre' : List (Of p), vals pre' = pre ∧ Jx pre' W)
    (fun pre W o ⟨q, e, h⟩ => ⟨q, e, hJ q W _ none h (World.grownBy_alloc W o none) (fun r e => by cases e)⟩) ?_ W ((hW.cell (p := ⟨Bs, 0, none⟩) hBl).trans hBs) (hp.below (hW.mono hn₀)) (Nat.le_trans hn₀ hW.size) ⟨[], rfl, h0⟩).mono ?_
  · rintro pre x W1 ⟨q, rfl, hq⟩ hpre
    have hx : x ∈ p.ats := hpre.subset (by simp)
    have hlen : q.length < p.ats.length := by
      have := hpre.length_le
      simp [vals] at this
      omega
    obtain ⟨fn, tmps, assign, body, hy, hR⟩ := hY q ⟨x, hx⟩ W1 hq hlen
    refine ⟨fn, tmps, assign, body, hy, hR.mono ?_⟩
    rintro e W' (⟨h1, h2, h3⟩ | ⟨h1, h2⟩)
    · exact .inl ⟨h1, ⟨_, vals_app _ _, h2⟩, h3⟩
    · exact .inr ⟨h1, ⟨_, vals_app _ _, h2⟩⟩
  · rintro e W' ⟨h1, ⟨ys, h2, q, h3, h4⟩ | ⟨pre, h2, q, h3, h4⟩⟩
    · exact ⟨h1, .inl ⟨q, h3.trans h2, h4⟩⟩
    · exact ⟨h1, .inr ⟨q, show vals q <+: p.ats by rw [h3]; exact h2, h4⟩⟩

theorem atsC_len (f b : Nat) : ∀ (l : List Ins) (k : Nat), (atsC f b k l).length = l.length
  | [], _ => rfl
  | i :: r, k => by simp [atsC, atsC_len f b r (k + 1)]
theorem atsB_len (f : Nat) : ∀ (l : List Blk) (b : Nat), (∀ x ∈ l, x.code.length ≤ 30) → (atsB f b l).length ≤ 30 * l.length
  | [], _, _ => Nat.le_refl _
  | x :: r, b, h => by
    have h1 := atsB_len f r (b + 1) (fun y hy => h y (List.mem_cons_of_mem _ hy))
    have h2 := h x (by simp)
    simp only [atsB, List.length_append, atsC_len, List.length_cons]
    omega
theorem atsF_len : ∀ (l : List Fd) (f : Nat), (∀ x ∈ l, x.blocks.length ≤ 20 ∧ ∀ y ∈ x.blocks, y.code.length ≤ 30) → (atsF f l).length ≤ 600 * l.length
  | [], _, _ => Nat.le_refl _
  | x :: r, f, h => by
    have h1 := atsF_len r (f + 1) (fun y hy => h y (List.mem_cons_of_mem _ hy))
    have h2 := h x (by simp)
    have h3 := atsB_len f x.blocks 0 h2.2
    simp only [atsF, List.length_append, List.length_cons]
    omega
theorem mem_fdAt {l : List Fd} {x : Fd} (h : x ∈ l) : ∃ k, k < l.length ∧ fdAt l k = x := by
  obtain ⟨k, hk, e⟩ := List.getElem_of_mem h
  exact ⟨k, hk, by simp [fdAt, hk, e]⟩
theorem mem_blkAt {l : List Blk} {x : Blk} (h : x ∈ l) : ∃ k, k < l.length ∧ blkAt l k = x := by
  obtain ⟨k, hk, e⟩ := List.getElem_of_mem h
  exact ⟨k, hk, by simp [blkAt, hk, e]⟩
theorem mem_insAt {l : List Ins} {x : Ins} (h : x ∈ l) : ∃ k, k < l.length ∧ insAt l k = x := by
  obtain ⟨k, hk, e⟩ := List.getElem_of_mem h
  exact ⟨k, hk, by simp [insAt, hk, e]⟩
theorem ats_le {p : Pg} (h : p.few) : p.ats.length ≤ 6000 := by
  have h1 := atsF_len p.funs 0 (fun x hx => by
    obtain ⟨k, hk, rfl⟩ := mem_fdAt hx
    refine ⟨(h.2 k hk).1, fun y hy => ?_⟩
    obtain ⟨j, hj, rfl⟩ := mem_blkAt hy
    exact ((h.2 k hk).2 j hj).1)
  have := h.1
  show (atsF 0 p.funs).length ≤ 6000
  omega

/-- How often each Id is among these. -/
def idCells (l : List Int) : Array Value := ((List.range 96).map fun j : Nat => Value.int .i64 ((l.count (j : Int) : Nat) : Int)).toArray
theorem idCells_nil : idCells [] = Tryz.zeroCells92 := by kernel_rfl
theorem idCells_size (l : List Int) : (idCells l).size = 96 := by simp [idCells]
theorem idCells_at (l : List Int) (k : Nat) (hk : k < 96) : (idCells l)[k]? = some (.int .i64 ((l.count (k : Int) : Nat) : Int)) := by simp [idCells, hk]
theorem idCells_step (l : List Int) (k : Nat) (hk : k < 96) : (idCells l).setIfInBounds k (.int .i64 (((l.count (k : Int) : Nat) : Int) + 1)) = idCells (l ++ [(k : Int)]) := by
  apply Array.ext
  · simp [idCells]
  · intro j h1 h2
    have hj : j < 96 := by simpa [idCells] using h2
    by_cases hjk : j = k
    · subst hjk
      simp [idCells, List.count_append]
    · rw [Array.getElem_setIfInBounds_ne (by rw [idCells_size]; exact hj) (fun e => hjk e.symm)]
      have : ¬ ((k : Int) = (j : Int)) := by omega
      simp [idCells, List.count_append, List.count_singleton, this]
def RowAt (W : World) (B : Nat) (t : TypeId) (cs : Array Value) : Prop := W.heap[B]? = some (.cells cs t (0, 0))
theorem rowAt_own {β : Type} (B : Nat) (t : TypeId) (f : β → Array Value) : Own (fun s W => RowAt W B t (f s)) := fun _ _ _ _ hs hg hrow =>
  (grownBy_keeps_cells hg hrow hs rfl).trans hs
theorem RowAt.below {B n₀ : Nat} {W W' : World} {t : TypeId} {cs : Array Value} (h : RowAt W B t cs) (hb : Below n₀ W W') (hlt : B < n₀) : RowAt W' B t cs := (hb.block B hlt).trans h

theorem run_storeCells_row {P : Program} (w : World) (g : Nat) (t ty : TypeId) (old cells : Array Value) (hg : w.heap[g]? = some (.cells old t (0, 0))) (hi : (P.info? ty).map (·.size) = some cells.size) (ho : old.size = cells.size) (h1 : cells.all (·.oneCell') = true) :
    (storeCells ⟨g, 0, none⟩ cells.toList).run P w = .ok () (w.setRow g cells) := by
  have := run_storeVar_row (P := P) w g t ty old cells hg hi ho h1
  cases hq : P.info? ty with
  | none => simp [hq] at hi
  | some i =>
    have hs : cells.size = i.size := by simp [hq] at hi; omega
    simpa [storeVar, sizeOf, typeInfo, hq, Value.cells, hs] using this
theorem BoxL.own {β : Type} (g : Nat) (cs : β → List Value) : Own (fun s W => BoxL W g (cs s)) := fun _ _ _ _ hs hg hr j v hj =>
  ⟨cell_kept (hs j v hj).1 hg hr, (frozen_kept (hs j v hj).1 hg hr).trans (hs j v hj).2⟩

set_option maxRecDepth 100000 in
set_option maxHeartbeats 4000000 in
theorem idTimes_any (p : Pg) (w : World) (hp : PgIs w.heap.size w p) (hfew : p.few) (hid : ∀ i ∈ p.ins, 0 ≤ i.id ∧ i.id < 96) :
    Calls Tryz.prog 72 #[p.val] w fun e w' => e = .returned (.agg (idCells (p.ins.map Ins.id))) ∧ Below w.heap.size w w' := by
  refine (callsIn_wide (n := 3)).1 ?_
  have HID : Hid (∀ x : Of p, 0 ≤ x.1.i.id ∧ x.1.i.id < 96) := Lib.hid fun x => hid _ (by rw [← ats_i]; exact List.mem_map_of_mem x.2)
  have HLEN : Hid (p.ats.length = p.ins.length) := Lib.hid (by rw [← ats_i, List.length_map])
  have HPL : Hid (p.ats.length ≤ 6000) := Lib.hid (ats_le hfew)
  have HP := Lib.hid hp
  have HFW := Lib.hid hfew
  have HINS := Lib.hid (ats_i p)
  clear hp hfew hid
  unfold Pg.val
  refine callsIn_of_wp_marks Tryz.func72 rfl trivial ?_ rfl
  simp only [Tryz.ntmps72, List.size_toArray, List.length_cons, List.length_nil, Nat.reduceAdd, Nat.reduceSub, Array.replicate_succ, Array.replicate_zero, List.push_toArray, List.append_toArray, List.nil_append, List.cons_append]
  gi_wp2_with (refine ⟨trivial, ?_⟩; gi_at_call 68; refine (callsIn_wide.2 (instrs_any _ _)).mono ?_; rintro e w2 ⟨rfl, rfl⟩)
  rename_i Kq hKq
  have hB4 := below4 w (.cells #[.slice p.pa p.funs.length p.pc] 24) (.cells Tryz.zeroCells92 92) (.cells Tryz.zeroCells92 92) (.cells #[.slice p.pa p.funs.length p.pc] 24)
  have r1 : RowAt ((((w.alloc (.cells #[.slice p.pa p.funs.length p.pc] 24)).alloc (.cells Tryz.zeroCells92 92)).alloc (.cells Tryz.zeroCells92 92)).alloc (.cells #[.slice p.pa p.funs.length p.pc] 24)) (w.heap.size + 1) 92 (idCells []) := by
    rw [idCells_nil]
    have h := heap_alloc_new (w.alloc (.cells #[.slice p.pa p.funs.length p.pc] 24)) (.cells Tryz.zeroCells92 92)
    rw [World.size_alloc] at h
    show _ = _
    rw [heap_alloc_old _ _ (by simp only [World.size_alloc]; omega), heap_alloc_old _ _ (by simp only [World.size_alloc]; omega)]
    exact h
  have r2 : RowAt ((((w.alloc (.cells #[.slice p.pa p.funs.length p.pc] 24)).alloc (.cells Tryz.zeroCells92 92)).alloc (.cells Tryz.zeroCells92 92)).alloc (.cells #[.slice p.pa p.funs.length p.pc] 24)) (w.heap.size + 1 + 1) 92 (idCells []) := by
    rw [idCells_nil]
    have h := heap_alloc_new ((w.alloc (.cells #[.slice p.pa p.funs.length p.pc] 24)).alloc (.cells Tryz.zeroCells92 92)) (.cells Tryz.zeroCells92 92)
    rw [World.size_alloc, World.size_alloc] at h
    show _ = _
    rw [heap_alloc_old _ _ (by simp only [World.size_alloc]; omega)]
    exact h
  have c4 := (BoxL.new (((w.alloc (.cells #[.slice p.pa p.funs.length p.pc] 24)).alloc (.cells Tryz.zeroCells92 92)).alloc (.cells Tryz.zeroCells92 92)) [.slice p.pa p.funs.length p.pc] 24 0 _ rfl).1
  rw [World.size_alloc, World.size_alloc, World.size_alloc] at c4
  have hs : ((((w.alloc (.cells #[.slice p.pa p.funs.length p.pc] 24)).alloc (.cells Tryz.zeroCells92 92)).alloc (.cells Tryz.zeroCells92 92)).alloc (.cells #[.slice p.pa p.funs.length p.pc] 24)).heap.size = w.heap.size + 1 + 1 + 1 + 1 := by simp only [World.size_alloc]
  have c4' : ((((w.alloc (.cells #[.slice p.pa p.funs.length p.pc] 24)).alloc (.cells Tryz.zeroCells92 92)).alloc (.cells Tryz.zeroCells92 92)).alloc (.cells #[.slice p.pa p.funs.length p.pc] 24)).cell? ⟨w.heap.size + 1 + 1 + 1, 0, none⟩ = some (.slice p.pa p.funs.length p.pc) := c4
  clear c4
  generalize (((w.alloc (.cells #[.slice p.pa p.funs.length p.pc] 24)).alloc (.cells Tryz.zeroCells92 92)).alloc (.cells Tryz.zeroCells92 92)).alloc (.cells #[.slice p.pa p.funs.length p.pc] 24) = W4 at *
  refine wpIn_rangeFunc_ownH rfl (by omega) (gf := 101) (lb := #[.pointer (some ⟨w.heap.size + 1 + 1 + 1, 0, none⟩)]) rfl trivial (enters_of Tryz.func101 (by kernel_rfl) rfl)
    (instrs_stops 2 (by omega) (w.heap.size + 1 + 1 + 1) w.heap.size p W4 HFW.out (by omega) hB4.size c4' (HP.out.below hB4)) belowK_t (belowK_b hB4.size) (Below.refl _ _) (fun _ => rfl)
    (fun pre W => RowAt W (w.heap.size + 1 + 1) 92 (idCells ((vals pre).map (·.i.id))) ∧ (RowAt W (w.heap.size + 1) 92 (idCells []) ∧ Below w.heap.size w W))
    (fun _ _ _ => False)
    (OwnFrom.and (Own.from (rowAt_own (w.heap.size + 1 + 1) 92 (fun pre : List (Of p) => idCells ((vals pre).map (·.i.id)))) _) (OwnFrom.and (Own.from (rowAt_own (w.heap.size + 1) 92 (fun _ : List (Of p) => idCells [])) _) (ownFrom_below (Nat.le_refl _) hB4.size)))
    (fun _ _ _ _ _ hs _ _ => hs)
    ⟨r2, r1, hB4⟩
    (fun x a' W => ∃ B, BoxL W B x.1.i.cells ∧ a' = { tmps := #[.agg #[.slice p.pa p.funs.length p.pc], .pointer (some ⟨w.heap.size, 0, none⟩), .pointer (some ⟨w.heap.size + 1, 0, none⟩), .pointer (some ⟨w.heap.size + 1 + 1, 0, none⟩), undef, .pointer (some ⟨B, 0, none⟩), .agg #[.slice p.pa p.funs.length p.pc], .func (.func 101) #[] #[.pointer (some ⟨w.heap.size + 1 + 1 + 1, 0, none⟩)], .agg #[.int .i64 (x.1.f : Int), .int .i64 (x.1.b : Int), .int .i64 (x.1.k : Int)], x.1.i.val, undef, undef, undef, undef, undef, undef, undef], defers := [] })
    ?own ?assign ?body ?done ?stop
  case own =>
    rintro x a' _ X Y row ⟨B, hbx, rfl⟩ hg hr
    exact ⟨B, BoxL.own B (fun _ : Unit => x.1.i.cells) () X Y row hbx hg (fun r e => (hr r e).2), rfl⟩
  case assign =>
    rintro l pre ⟨⟨f, b, k, ⟨id, kind, dst, a, bb, c, ff, nn, x0, x1, x2⟩⟩, hx⟩ W K hI hK
    clear r1 r2 c4'
    unfold Of.enc At.enc Ins.val
    dsimp only
    gi_wp2
    obtain ⟨h1, h2, h3⟩ := hI
    have hgr := World.grownBy_alloc W (.cells #[.int .i64 id, .int .i64 kind, .int .i64 dst, .int .i64 a, .int .i64 bb, .int .i64 c, .int .i64 ff, .int .i64 nn, .int .i64 x0, .int .i64 x1, .int .i64 x2] 40) none
    have hb := below1 W (.cells #[.int .i64 id, .int .i64 kind, .int .i64 dst, .int .i64 a, .int .i64 bb, .int .i64 c, .int .i64 ff, .int .i64 nn, .int .i64 x0, .int .i64 x1, .int .i64 x2] 40)
    refine hK _ _ ((KeepsOthers.alloc _ _).from _) (hb.mono h3.size) ⟨h1.below hb (Array.getElem?_eq_some_iff.1 h1).1, h2.below hb (Array.getElem?_eq_some_iff.1 h2).1, h3.trans (hb.mono h3.size)⟩ ⟨W.heap.size, ?_, rfl⟩
    exact BoxL.new W [.int .i64 id, .int .i64 kind, .int .i64 dst, .int .i64 a, .int .i64 bb, .int .i64 c, .int .i64 ff, .int .i64 nn, .int .i64 x0, .int .i64 x1, .int .i64 x2] 40
  case body =>
    rintro l pre ⟨⟨f, b, k, i⟩, hx⟩ a' W hl hr ⟨hr2, hr1, hB⟩ ⟨B, hbx, rfl⟩ hlt
    have hidd := HID.out ⟨⟨f, b, k, i⟩, hx⟩
    have hcnt : ((vals pre).map (·.i.id)).length < 6000 := by have := HPL.out; simp [vals]; omega
    obtain ⟨ids, hids⟩ : ∃ ids, (vals pre).map (·.i.id) = ids := ⟨_, rfl⟩
    rw [hids] at hr2 hcnt
    have HIDS := Lib.hid hids
    have HR1 := Lib.hid hr1
    have HR2 := Lib.hid hr2
    have HB := Lib.hid hB
    clear hids hr1 hB r1 r2 c4'
    dsimp only at hidd
    obtain ⟨n, hn⟩ := Int.eq_ofNat_of_zero_le hidd.1
    have hn96 : n < 96 := by omega
    have HN := Lib.hid hn
    have cc := cell_of_row W (w.heap.size + 1 + 1) n _ _ _ hr2
    rw [idCells_at _ n hn96] at cc
    have cf := frozen_of_row W (w.heap.size + 1 + 1) n _ _ hr2
    have kb := (hbx 0 _ rfl).1
    rw [hn] at kb
    obtain ⟨ct, hct⟩ : ∃ ct, ids.count (n : Int) = ct := ⟨_, rfl⟩
    rw [hct] at cc
    have HCT := Lib.hid hct
    have hctl : ct < 6000 := by rw [← hct]; exact Nat.lt_of_le_of_lt (List.count_le_length ..) hcnt
    have hni : (n : Int) < 96 := by omega
    clear hr2 hct hn hidd hcnt hbx
    unfold Ins.val
    dsimp only
    gi_wp2
    refine ⟨(KeepsOthers.setCell _ _ _).from _, (Below.refl _ _).setCell (p := ⟨w.heap.size + 1 + 1, n, none⟩) (by show w.heap.size ≤ w.heap.size + 1 + 1; omega) _, ?_, ?_, HB.out.setCell (p := ⟨w.heap.size + 1 + 1, n, none⟩) (by show w.heap.size ≤ w.heap.size + 1 + 1; omega) _⟩
    · have h := heap_setCell_same W (w.heap.size + 1 + 1) n _ _ (.int .i64 ((ct : Int) + 1)) HR2.out
      rw [← HCT.out, idCells_step _ n hn96] at h
      show _ = _
      rw [vals_app, List.map_append, List.map_singleton, HN.out, HIDS.out, ← HCT.out]
      exact h
    · exact (Below.heap_setCell _ _ _ _ (by simp)).trans HR1.out
  case done =>
    rintro D ys W hD hys ⟨hr2, hr1, hB⟩ hK
    have hcs := idCells_size ((vals ys).map (·.i.id))
    have hfin : idCells ((vals ys).map (·.i.id)) = idCells (p.ins.map Ins.id) := by
      rw [hys, ← HINS.out, List.map_map]
      rfl
    rw [hfin] at hr2 hcs
    obtain ⟨cs, hcse⟩ : ∃ cs, idCells (p.ins.map Ins.id) = cs := ⟨_, rfl⟩
    have hall : cs.all (·.oneCell') = true := by
      rw [← hcse]
      simp [idCells, Value.oneCell']
    rw [hcse] at hr2 hcs
    have HCSE := Lib.hid hcse
    clear hcse hfin
    refine hKq _ _ (wpIn_wide.2 ?_)
    go_wp2_with fail
    refine wp_load_row 92 _ rfl (w.heap.size + 1 + 1) rfl 92 cs (0, 0) _ hr2 Tryz.underlying92 rfl (by rw [hcs]; kernel_rfl) ?_
    go_wp2_with fail
    rw [run_storeCells_row W (w.heap.size + 1) 92 92 (idCells []) cs hr1 (by rw [hcs]; kernel_rfl) (by rw [hcs, idCells_size]) hall]
    go_wp2_with fail
    have hK2 : (W.setRow (w.heap.size + 1) cs).heap[D]? = some (.deferred (some [])) := (setRow_other W (w.heap.size + 1) D cs (by omega)).trans hK
    have hrow := setRow_heap W (w.heap.size + 1) (idCells []) cs 92 (0, 0) hr1
    have hB2 := below_setRow hB (Nat.le_succ w.heap.size) cs
    refine ⟨by simp, .inl ⟨_, _, rfl, run_takeDeferred hK2, ?_⟩⟩
    exact ⟨_, results_cell_row rfl _ _ (w.heap.size + 1) 92 cs (0, 0) _ (by rfl) ((World.putObj_heap_other (by omega)).trans hrow) Tryz.underlying92 rfl (by rw [hcs]; kernel_rfl), by rw [HCSE.out], hB2.trans (belowK_b (w := w) (Nat.le_refl _) _ D _ _ (by have := hB4.size; omega) hK2 rfl rfl)⟩
  case stop =>
    rintro D c pre W _ _ h _
    exact h.elim
end Go.Proofs.YtbddjneinfkmpaaGreatDoor

namespace Go.Proofs.YtbddjneinfkmpaaGreatDoor
open Go Go.RowKit Go.Sort

set_option maxHeartbeats 4000000 in
theorem Max_any (g o n cap : Nat) (f : Nat → Int) (w : World) (hn : 1 ≤ n) (hl : n ≤ 1000) (hc : ∀ k, k < n → w.cell? ⟨g, o + k, none⟩ = some (.int .i64 (f k))) :
    Calls Tryz.prog 98 #[.slice (some ⟨g, o, none⟩) n cap] w fun e w' => (∃ m, e = .returned (.int .i64 m) ∧ ∀ c, c < m ↔ ∃ k, k < n ∧ c < f k) ∧ w' = w := by
  have HC := Lib.hid hc
  have c0 := hc 0 hn
  replace c0 : w.cell? ⟨g, o, none⟩ = some (.int .i64 (f 0)) := c0
  have hn1 : (1 : Int) ≤ (n : Int) := by omega
  clear hc
  go_enter Tryz.func98, Tryz.ntmps98
  go_wp2
  go_loop [3, 4] (fun m i => ∃ (q : Nat) (z : Int), 1 ≤ q ∧ q ≤ n ∧ i = .int .i64 q ∧ m = .int .i64 z ∧ Hid (∀ c, c < z ↔ ∃ k, k < q ∧ c < f k)) (fun _ i => n - (intOf i).toNat)
  case atStart =>
    refine ⟨1, f 0, by omega, hn, rfl, rfl, Lib.hid fun c => ⟨fun h => ⟨0, by omega, h⟩, fun ⟨k, hk, h⟩ => ?_⟩⟩
    obtain rfl : k = 0 := by omega
    exact h
  case round =>
    obtain ⟨q, z, hq1, hq, rfl, rfl, hz⟩ := hrel
    by_cases hlt : q < n
    · have cq := HC.out q hlt
      have hqi : (q : Int) < (n : Int) := by omega
      obtain ⟨y, hy⟩ : ∃ y, f q = y := ⟨_, rfl⟩
      rw [hy] at cq
      have HY := Lib.hid hy
      clear hy c0
      by_cases hzy : z < y
      · go_wp2
        refine ⟨⟨q + 1, y, by omega, by omega, by go_num, by simp; omega, Lib.hid fun c => ⟨fun h => ⟨q, by omega, by rw [HY.out]; exact h⟩, fun ⟨k, hk, h⟩ => ?_⟩⟩, by simp [intOf]; omega⟩
        rcases Nat.lt_succ_iff_lt_or_eq.1 hk with hk | rfl
        · have := (hz.out c).2 ⟨k, hk, h⟩
          omega
        · rw [← HY.out]; exact h
      · have hzy' : y ≤ z := by omega
        go_wp2
        refine ⟨⟨q + 1, z, by omega, by omega, by go_num, by simp; omega, Lib.hid fun c => ⟨fun h => ?_, fun ⟨k, hk, h⟩ => ?_⟩⟩, by simp [intOf]; omega⟩
        · obtain ⟨k, hk, h2⟩ := (hz.out c).1 h
          exact ⟨k, by omega, h2⟩
        · rcases Nat.lt_succ_iff_lt_or_eq.1 hk with hk | rfl
          · exact (hz.out c).2 ⟨k, hk, h⟩
          · rw [HY.out] at h
            omega
    · obtain rfl : q = n := by omega
      go_wp2
      go_ret
      exact ⟨⟨_, rfl, hz.out⟩, rfl⟩

theorem nodup_count (l : List Int) (h : ∀ x ∈ l, 0 ≤ x ∧ x < 96) : (¬ ∃ k : Nat, k < 96 ∧ (1 : Int) < ((l.count (k : Int) : Nat) : Int)) ↔ l.Nodup := by
  rw [List.nodup_iff_count]
  constructor
  · intro hn a
    by_cases ha : a ∈ l
    · obtain ⟨k, rfl⟩ := Int.eq_ofNat_of_zero_le (h a ha).1
      have hk := (h _ ha).2
      rcases Nat.lt_or_ge 1 (l.count (k : Int)) with g | g
      · exact absurd ⟨k, by omega, by omega⟩ hn
      · exact g
    · rw [List.count_eq_zero_of_not_mem ha]; omega
  · rintro hn ⟨k, hk, h1⟩
    have := hn (k : Int)
    omega
theorem ids_ok {p : Pg} (h : fdsOk p) : ∀ i ∈ p.ins, 0 ≤ i.id ∧ i.id < 96 := by
  intro i hi
  obtain ⟨f, hf, hi⟩ := List.mem_flatMap.1 hi
  obtain ⟨b, hb, hi⟩ := List.mem_flatMap.1 hi
  obtain ⟨k, hk, rfl⟩ := mem_fdAt hf
  obtain ⟨j, hj, rfl⟩ := mem_blkAt hb
  obtain ⟨n, hn, rfl⟩ := mem_insAt hi
  have := (((h k hk).2 j hj).2.2.2 n hn).1
  exact ⟨this.2.2.1, Int.lt_of_le_of_lt this.2.2.2.1 (by decide)⟩

set_option maxRecDepth 100000 in
set_option maxHeartbeats 8000000 in
theorem wrongProgram_any (p : Pg) (w : World) (hp : PgIs w.heap.size w p) (hT : KTab w) (hfew : p.few) :
    Calls Tryz.prog 63 #[p.val] w fun e w' => ∃ v, e = .returned v ∧ ToldD 3 p.sane v ∧ Below w.heap.size w w' := by
  have HW := Lib.hid (below1 w (.cells [.slice p.pa p.funs.length p.pc].toArray 24))
  have HB := Lib.hid (BoxL.new w [.slice p.pa p.funs.length p.pc] 24)
  have HP := Lib.hid (fun part => wrongPartF_any part p w.heap.size _ (hp.on HW.out) (hT.on HW.out) HB.out hfew _ rfl)
  have HI := Lib.hid (fun W (h : Below w.heap.size w W) (hid : fdsOk p) => idTimes_any p W (hp.on h) hfew (ids_ok hid))
  have HOK : Hid (p.sane ↔ p.funs.length ≤ 6 ∧ fdsOk p ∧ (p.ins.map Ins.id).Nodup) := Lib.hid Iff.rfl
  have HND : Hid (fdsOk p → ((¬ ∃ k : Nat, k < 96 ∧ (1 : Int) < (((p.ins.map Ins.id).count (k : Int) : Nat) : Int)) ↔ (p.ins.map Ins.id).Nodup)) := Lib.hid fun h => nodup_count _ (fun x hx => by
    obtain ⟨i, hi, rfl⟩ := List.mem_map.1 hx
    exact ids_ok h i hi)
  obtain ⟨ok, hok⟩ : ∃ ok, p.sane = ok := ⟨_, rfl⟩
  obtain ⟨fo, hfo⟩ : ∃ fo, fdsOk p = fo := ⟨_, rfl⟩
  obtain ⟨ids, hids⟩ : ∃ ids, p.ins.map Ins.id = ids := ⟨_, rfl⟩
  have hlen := hfew.1
  simp only [hok, hfo, hids] at HOK HP HI HND ⊢
  clear hok hfo hids hp hT hfew
  unfold Pg.val at *
  obtain ⟨PL, hPL⟩ : ∃ PL, p.funs.length = PL := ⟨_, rfl⟩
  simp only [hPL] at HW HB HP HI HOK hlen ⊢
  clear hPL
  generalize hE : w.alloc (.cells (List.toArray [.slice p.pa PL p.pc]) 24) = W at HB HW HP
  have hE' : w.alloc (.cells #[.slice p.pa PL p.pc] 24) = W := hE
  clear hE
  obtain ⟨g, hg⟩ : ∃ g, w.heap.size = g := ⟨_, rfl⟩
  have HGL := Lib.hid HW.out.size
  have HLT := Lib.hid (HB.out.lt (Nat.zero_lt_succ _))
  rw [hg] at HB HW HGL HP HI HLT ⊢
  have k0 := (HB.out 0 _ rfl).1
  by_cases h6 : 6 < PL
  · have h6' : (6 : Int) < (PL : Int) := by omega
    clear HP HI HND
    go_enter Tryz.func63, Tryz.ntmps63
    go_wp2_with fail
    go_ret
    refine ⟨_, rfl, .inr ⟨fun h => ?_, 0, by omega, EV.fault _⟩, HW.out⟩
    have := (HOK.out.1 h).1
    omega
  have h6' : (PL : Int) ≤ 6 := by omega
  have H6 := Lib.hid h6
  clear h6
  go_enter Tryz.func63, Tryz.ntmps63
  go_wp2_with (go_at_call 95; refine (HP.out _).mono ?_; rintro e wa ⟨v, rfl, hv, hba⟩; have HW2 := Lib.hid (HW.out.trans (hba.mono HGL.out)); have HB2 := Lib.hid (HB.out.below hba HLT.out); have HG2 := Lib.hid (Nat.le_trans HGL.out hba.size); clear hba HB k0; have k0 := (HB2.out 0 _ rfl).1; obtain ⟨hv1, rfl⟩ | ⟨hv1, d, hd, hev⟩ := hv)
  · have HV1 := Lib.hid hv1
    clear hv1
    refine (HI.out wa HW2.out HV1.out).mono ?_
    rintro e wb ⟨rfl, hbb⟩
    have HW3 := Lib.hid (HW2.out.trans (hbb.mono HG2.out))
    have HG3 := Lib.hid (Nat.le_trans HG2.out hbb.size)
    clear hbb k0
    obtain ⟨cs, hcse⟩ : ∃ cs, idCells ids = cs := ⟨_, rfl⟩
    have hcs : cs.size = 96 := by rw [← hcse]; exact idCells_size _
    have hall : cs.all (·.oneCell') = true := by rw [← hcse]; simp [idCells, Value.oneCell']
    have hz : Tryz.zeroCells92.size = 96 := by rw [← idCells_nil]; exact idCells_size _
    have HAT : Hid (∀ k, k < 96 → cs[k]? = some (.int .i64 ((ids.count (k : Int) : Nat) : Int))) := Lib.hid fun k hk => by rw [← hcse]; exact idCells_at _ k hk
    rw [hcse]
    clear hcse
    go_wp2_with fail
    rw [run_storeCells_new (P := Tryz.prog) wb 92 Tryz.zeroCells92 cs (by rw [hcs]; kernel_rfl) (by rw [hcs, hz]) hall]
    have HW4 := Lib.hid (HW3.out.trans ((below1 wb (.cells cs 92)).mono HG3.out))
    have HMX := Lib.hid (Max_any wb.heap.size 0 96 96 (fun k => ((ids.count (k : Int) : Nat) : Int)) (wb.alloc (.cells cs 92)) (by decide) (by decide) (fun k hk => by
      rw [Nat.zero_add, cell_of_row _ _ k cs 92 (0, 0) (heap_alloc_new wb _)]
      exact HAT.out k hk))
    clear hall hz HAT hcs
    go_wp2_with (go_at_call 98; refine HMX.out.mono ?_; rintro e wc ⟨⟨m, rfl, hm⟩, rfl⟩; have HM := Lib.hid (hm 1); clear hm; by_cases hm1 : 1 < m)
    · go_wp2_with fail
      go_ret
      refine ⟨_, rfl, .inr ⟨fun h => ?_, 0, by omega, EV.fault _⟩, HW4.out⟩
      exact (HND.out HV1.out).2 (HOK.out.1 h).2.2 (HM.out.1 hm1)
    · have hm1' : m ≤ 1 := by omega

      clear hm1
      go_wp2_with fail
      go_ret
      refine ⟨_, rfl, .inl ⟨HOK.out.2 ⟨by have := H6.out; omega, HV1.out, (HND.out HV1.out).1 fun h => by have := HM.out.2 h; omega⟩, rfl⟩, HW4.out⟩
  · obtain ⟨t, u, rfl⟩ := hev.iface
    have HEV := Lib.hid hev
    have HV1 := Lib.hid hv1
    clear hev hv1 HI
    simp only [eqGuard_at_iface, Sem.run_pure, Result.andThen, neqErr]
    go_wp2_with fail
    go_ret
    exact ⟨_, rfl, .inr ⟨fun h => HV1.out (HOK.out.1 h).2.1, d, hd, HEV.out⟩, HW2.out⟩
end Go.Proofs.YtbddjneinfkmpaaGreatDoor
