/- Programs: instructions of a block. -/
import Derived.Stop.IfaceNil
import Derived.Test.YtpegkllhomjocaaGreatDoorPgC
namespace Go.Proofs.YtpegkllhomjocaaGreatDoor
open Go Go.RowKit Go.Sort

theorem isErr : Tryz.prog.isIface 82 = true := by kernel_rfl
theorem neqErr (t : TypeId) (u : Value) (W : World) : (binOp .neq 82 (.iface t u) .nilIface).run Tryz.prog W = .ok (.bool true) W := run_neq_iface_nil (h := isErr) ..

theorem neqNil (W : World) : (binOp .neq 82 .nilIface .nilIface).run Tryz.prog W = .ok (.bool false) W := run_neq_nil_nil_at (h := isErr) ..
theorem EV.iface {d : Nat} {v : Value} (h : EV d v) : ∃ t u, v = .iface t u := by
  cases h with
  | fault s => exact ⟨_, _, rfl⟩
  | part s n h => exact ⟨_, _, rfl⟩
/-- Two boxes that hold a program and a function. -/
def PF (W : World) (gp gf : Nat) (p : Pg) (f : Fd) : Prop := BoxL W gp [.slice p.pa p.funs.length p.pc] ∧ BoxL W gf [.int .i64 f.ar, .int .i64 f.vr, .slice f.ba f.blocks.length f.bc]
theorem PF.on {W W' : World} {gp gf : Nat} {p : Pg} {f : Fd} (h : PF W gp gf p f) (hb : Below W.heap.size W W') : PF W' gp gf p f :=
  ⟨h.1.below hb (h.1.lt (Nat.zero_lt_succ _)), h.2.below hb (h.2.lt (Nat.zero_lt_succ _))⟩

set_option maxRecDepth 100000 in
set_option maxHeartbeats 4000000 in
theorem cloI_any (p : Pg) (f : Fd) (i : Ins) (gp gf : Nat) (w : World) (hp : PgIs w.heap.size w p) (hT : KTab w) (hlen : p.funs.length ≤ 10) (hb : PF w gp gf p f) :
    Calls Tryz.prog 158 #[i.val, .pointer (some ⟨gp, 0, none⟩), .pointer (some ⟨gf, 0, none⟩)] w fun e w' => ∃ v, e = .returned v ∧ ToldD 0 (insOk p f i) v ∧ Below w.heap.size w w' := by
  have HW := Lib.hid (below1 w (.cells i.cells.toArray 40))
  have HB := Lib.hid (BoxL.new w i.cells 40)
  have HC := Lib.hid (wrongInstr_any p f i _ (hp.on HW.out) (hT.on HW.out) hlen)
  have HPF := Lib.hid (hb.on HW.out)
  clear hp hT hb
  obtain ⟨ok, hok⟩ : ∃ ok, insOk p f i = ok := ⟨_, rfl⟩
  rw [hok] at HC ⊢
  clear hok
  unfold Ins.val Fd.val Pg.val at *
  unfold Ins.cells at HB HW HC HPF
  obtain ⟨id, kind, dst, a, b, c, f1, n, x0, x1, x2⟩ := i
  dsimp only at *
  generalize hE : w.alloc (.cells (List.toArray [.int .i64 id, .int .i64 kind, .int .i64 dst, .int .i64 a, .int .i64 b, .int .i64 c, .int .i64 f1, .int .i64 n, .int .i64 x0, .int .i64 x1, .int .i64 x2]) 40) = W at HB HW HC HPF
  have hE' : w.alloc (.cells #[.int .i64 id, .int .i64 kind, .int .i64 dst, .int .i64 a, .int .i64 b, .int .i64 c, .int .i64 f1, .int .i64 n, .int .i64 x0, .int .i64 x1, .int .i64 x2] 40) = W := hE
  clear hE
  obtain ⟨g, hg⟩ : ∃ g, w.heap.size = g := ⟨_, rfl⟩
  have HGL := Lib.hid HW.out.size
  rw [hg] at HB HW HGL ⊢
  have k0 := (HB.out 0 _ rfl).1
  have k1 := (HB.out 1 _ rfl).1
  have k2 := (HB.out 2 _ rfl).1
  have k3 := (HB.out 3 _ rfl).1
  have k4 := (HB.out 4 _ rfl).1
  have k5 := (HB.out 5 _ rfl).1
  have k6 := (HB.out 6 _ rfl).1
  have k7 := (HB.out 7 _ rfl).1
  have k8 := (HB.out 8 _ rfl).1
  have k9 := (HB.out 9 _ rfl).1
  have k10 := (HB.out 10 _ rfl).1
  have p0 := (HPF.out.1 0 _ rfl).1
  have f0 := (HPF.out.2 0 _ rfl).1
  have f1' := (HPF.out.2 1 _ rfl).1
  have f2 := (HPF.out.2 2 _ rfl).1
  go_enter Tryz.func158, Tryz.ntmps158
  go_wp2_with (go_at_call 159; refine HC.out.mono ?_; rintro e w' ⟨v, rfl, hv, hbb⟩; have HV := Lib.hid hv; have HW2 := Lib.hid (HW.out.trans (hbb.mono HGL.out)); clear hv hbb)
  go_ret
  exact ⟨_, rfl, HV.out, HW2.out⟩

set_option maxRecDepth 100000 in
set_option maxHeartbeats 4000000 in
theorem wrongPartI_any (part : ByteArray) (ad : Option Addr) (l : List Ins) (cap : Nat) (p : Pg) (f : Fd) (gp gf : Nat) (w : World) (hp : PgIs w.heap.size w p) (hT : KTab w) (hlen : p.funs.length ≤ 10) (hb : PF w gp gf p f) (hc : CodeIs w.heap.size w ad l) (L : Nat) (hL : l.length = L) (hl : L ≤ 30) :
    Calls Tryz.prog 157 #[.string part, .slice ad L cap, .func (.func 158) #[] #[.pointer (some ⟨gp, 0, none⟩), .pointer (some ⟨gf, 0, none⟩)]] w fun e w' => ∃ v, e = .returned v ∧ ToldD 1 (codeOk p f l) v ∧ Below w.heap.size w w' := by
  have HC := Lib.hid hc
  have HL := Lib.hid hL
  have HCL := Lib.hid (fun i W (h : Below w.heap.size w W) => cloI_any p f i gp gf W (hp.on h) (hT.on h) hlen (hb.on h))
  clear hp hT hb hc hL
  go_enter Tryz.func157, Tryz.ntmps157
  go_wp2
  go_loopw [12] (fun i wr => ∃ q : Nat, q ≤ L ∧ i = .int .i64 q ∧ Hid (∀ k, k < q → insOk p f (insAt l k)) ∧ Hid (Below w.heap.size w wr)) (fun i _ => L - (intOf i).toNat)
  case atStart => exact ⟨0, Nat.zero_le _, rfl, fun k hk => absurd hk (Nat.not_lt_zero _), Below.refl _ _⟩
  case round =>
    obtain ⟨q, hq, rfl, hok, hB⟩ := hrel
    by_cases hlt : q < L
    · obtain ⟨b, o, rfl, hbl, c0, c1, c2, c3, c4, c5, c6, c7, c8, c9, c10⟩ := (HC.out.below hB.out).at q (by rw [HL.out]; exact hlt)
      obtain ⟨i, hi⟩ : ∃ i, insAt l q = i := ⟨_, rfl⟩
      rw [hi] at c0 c1 c2 c3 c4 c5 c6 c7 c8 c9 c10
      have HI := Lib.hid hi
      have hqi : (q : Int) < (L : Int) := by omega
      clear hi hbl
      have HW := Lib.hid (below1 wr (.cells i.cells.toArray 40))
      have HBX := Lib.hid (BoxL.new wr i.cells 40)
      have HBW := Lib.hid (hB.out.trans (HW.out.mono hB.out.size))
      have HK := Lib.hid (HCL.out i _ HBW.out)
      clear HW
      obtain ⟨ok, hokk⟩ : ∃ ok, insOk p f i = ok := ⟨_, rfl⟩
      have HOK := Lib.hid hokk
      rw [hokk] at HK
      clear hokk
      obtain ⟨id, kind, dst, a, b', c, f', n, x0, x1, x2⟩ := i
      unfold Ins.val at HK
      unfold Ins.cells at HBX HK HBW
      dsimp only at *
      go_wp2_with (go_at_call 158; refine HK.out.mono ?_; rintro e w2 ⟨v, rfl, hv, hbb⟩; have HW2 := Lib.hid (HBW.out.trans (hbb.mono HBW.out.size)); clear hbb; obtain ⟨hv1, rfl⟩ | ⟨hv1, d, hd, hev⟩ := hv)
      · have HV1 := Lib.hid hv1
        clear hv1
        go_wp2_with fail
        go_roundw
        case rel =>
          refine ⟨q + 1, by omega, by go_num, fun k hk => ?_, HW2⟩
          rcases Nat.lt_succ_iff_lt_or_eq.1 hk with h | rfl
          · exact hok.out k h
          · rw [HI.out, HOK.out]; exact HV1.out
        case measure => simp [intOf]; omega
      · obtain ⟨t, u, rfl⟩ := hev.iface
        have HEV := Lib.hid hev
        have HV1 := Lib.hid hv1
        clear hev hv1
        go_wp2_with fail
        simp only [eqGuard_at_iface, Sem.run_pure, Result.andThen, neqErr]
        go_wp2_with fail
        go_ret
        refine ⟨_, rfl, .inr ⟨fun h => HV1.out ?_, d + 1, by omega, EV.part _ _ HEV.out⟩, HW2.out⟩
        have := h q (by rw [HL.out]; exact hlt)
        rw [HI.out, HOK.out] at this
        exact this
    · obtain rfl : q = L := by omega
      go_wp2_with fail
      go_ret
      refine ⟨_, rfl, .inl ⟨fun k hk => hok.out k (by rw [← HL.out]; exact hk), rfl⟩, hB.out⟩
end Go.Proofs.YtpegkllhomjocaaGreatDoor
