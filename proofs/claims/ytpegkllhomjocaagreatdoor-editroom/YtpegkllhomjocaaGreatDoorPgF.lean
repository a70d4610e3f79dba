/- Programs: blocks of a function. -/
import Derived.Test.YtpegkllhomjocaaGreatDoorPgE
namespace Go.Proofs.YtpegkllhomjocaaGreatDoor
open Go Go.RowKit Go.Sort

def Blk.cells (b : Blk) : List Value := [.bool b.live, .slice b.ca b.code.length b.cc, .slice b.sa b.succ.length b.sc]
def Fd.cells (f : Fd) : List Value := [.int .i64 f.ar, .int .i64 f.vr, .slice f.ba f.blocks.length f.bc]

set_option maxRecDepth 100000 in
set_option maxHeartbeats 4000000 in
theorem cloB_any (p : Pg) (f : Fd) (b : Blk) (gp gf : Nat) (w : World) (hp : PgIs w.heap.size w p) (hf : FdIs w.heap.size w f) (hb : BlkIs w.heap.size w b) (hT : KTab w) (hlen : p.funs.length ≤ 10) (hfew : fewB b) (hpf : PF w gp gf p f) :
    Calls Tryz.prog 126 #[b.val, .pointer (some ⟨gp, 0, none⟩), .pointer (some ⟨gf, 0, none⟩)] w fun e w' => ∃ v, e = .returned v ∧ ToldD 1 (blkOk p f b) v ∧ Below w.heap.size w w' := by
  have HW := Lib.hid (below1 w (.cells b.cells.toArray 35))
  have HB := Lib.hid (BoxL.new w b.cells 35)
  have HC := Lib.hid (wrongBlock_any p f b _ (hp.on HW.out) (hf.on HW.out) (hb.on HW.out) (hT.on HW.out) hlen hfew)
  have HPF := Lib.hid (hpf.on HW.out)
  clear hp hT hb hf hfew hpf
  obtain ⟨ok, hok⟩ : ∃ ok, blkOk p f b = ok := ⟨_, rfl⟩
  rw [hok] at HC ⊢
  clear hok
  unfold Blk.val Fd.val Pg.val at *
  unfold Blk.cells at HB HW HC HPF
  generalize hE : w.alloc (.cells (List.toArray [.bool b.live, .slice b.ca b.code.length b.cc, .slice b.sa b.succ.length b.sc]) 35) = W at HB HW HC HPF
  have hE' : w.alloc (.cells #[.bool b.live, .slice b.ca b.code.length b.cc, .slice b.sa b.succ.length b.sc] 35) = W := hE
  clear hE
  obtain ⟨g, hg⟩ : ∃ g, w.heap.size = g := ⟨_, rfl⟩
  have HGL := Lib.hid HW.out.size
  rw [hg] at HB HW HGL ⊢
  have k0 := (HB.out 0 _ rfl).1
  have k1 := (HB.out 1 _ rfl).1
  have k2 := (HB.out 2 _ rfl).1
  have p0 := (HPF.out.1 0 _ rfl).1
  have f0 := (HPF.out.2 0 _ rfl).1
  have f1' := (HPF.out.2 1 _ rfl).1
  have f2 := (HPF.out.2 2 _ rfl).1
  go_enter Tryz.func126, Tryz.ntmps126
  go_wp2_with (go_at_call 127; refine HC.out.mono ?_; rintro e w' ⟨v, rfl, hv, hbb⟩; have HV := Lib.hid hv; have HW2 := Lib.hid (HW.out.trans (hbb.mono HGL.out)); clear hv hbb)
  go_ret
  exact ⟨_, rfl, HV.out, HW2.out⟩

set_option maxRecDepth 100000 in
set_option maxHeartbeats 4000000 in
theorem wrongPartB_any (part : ByteArray) (ad : Option Addr) (l : List Blk) (cap : Nat) (p : Pg) (f : Fd) (gp gf : Nat) (w : World) (hp : PgIs w.heap.size w p) (hf : FdIs w.heap.size w f) (hT : KTab w) (hlen : p.funs.length ≤ 10) (hb : PF w gp gf p f) (hc : BlksIs w.heap.size w ad l) (hfew : ∀ k, fewB (blkAt l k)) (L : Nat) (hL : l.length = L) (hl : L ≤ 20) :
    Calls Tryz.prog 125 #[.string part, .slice ad L cap, .func (.func 126) #[] #[.pointer (some ⟨gp, 0, none⟩), .pointer (some ⟨gf, 0, none⟩)]] w fun e w' => ∃ v, e = .returned v ∧ ToldD 2 (∀ k, k < l.length → blkOk p f (blkAt l k)) v ∧ Below w.heap.size w w' := by
  have HC := Lib.hid hc
  have HL := Lib.hid hL
  have HCL := Lib.hid (fun q W (h : Below w.heap.size w W) (hk : BlkIs W.heap.size W (blkAt l q)) => cloB_any p f (blkAt l q) gp gf W (hp.on h) (hf.on h) hk (hT.on h) hlen (hfew q) (hb.on h))
  clear hp hT hb hc hL hf hfew
  go_enter Tryz.func125, Tryz.ntmps125
  go_wp2
  go_loopw [12] (fun i wr => ∃ q : Nat, q ≤ L ∧ i = .int .i64 q ∧ Hid (∀ k, k < q → blkOk p f (blkAt l k)) ∧ Hid (Below w.heap.size w wr)) (fun i _ => L - (intOf i).toNat)
  case atStart => exact ⟨0, Nat.zero_le _, rfl, fun k hk => absurd hk (Nat.not_lt_zero _), Below.refl _ _⟩
  case round =>
    obtain ⟨q, hq, rfl, hok, hB⟩ := hrel
    by_cases hlt : q < L
    · obtain ⟨b, o, rfl, hbl, c0, c1, c2, hbi⟩ := (HC.out.below hB.out) q (by rw [HL.out]; exact hlt)
      have hqi : (q : Int) < (L : Int) := by omega
      have HW := Lib.hid (below1 wr (.cells (blkAt l q).cells.toArray 35))
      have HBX := Lib.hid (BoxL.new wr (blkAt l q).cells 35)
      have HBW := Lib.hid (hB.out.trans (HW.out.mono hB.out.size))
      have HK := Lib.hid (HCL.out q _ HBW.out ((hbi.below (HW.out.mono hB.out.size)).mono (Nat.le_trans hB.out.size HW.out.size)))
      clear HW hbi hbl
      obtain ⟨i, hi⟩ : ∃ i, blkAt l q = i := ⟨_, rfl⟩
      rw [hi] at c0 c1 c2
      simp only [hi] at HBX HBW HK
      have HI := Lib.hid hi
      clear hi
      obtain ⟨ok, hokk⟩ : ∃ ok, blkOk p f i = ok := ⟨_, rfl⟩
      have HOK := Lib.hid hokk
      rw [hokk] at HK
      clear hokk
      unfold Blk.val at HK
      unfold Blk.cells at HBX HK HBW
      go_wp2_with (go_at_call 126; refine HK.out.mono ?_; rintro e w2 ⟨v, rfl, hv, hbb⟩; have HW2 := Lib.hid (HBW.out.trans (hbb.mono HBW.out.size)); clear hbb; obtain ⟨hv1, rfl⟩ | ⟨hv1, d, hd, hev⟩ := hv)
      · have HV1 := Lib.hid hv1
        clear hv1
        go_wp2_with fail
        go_roundw
        case rel =>
          refine ⟨q + 1, by omega, by go_num, fun k hk => ?_, HW2⟩
          rcases Nat.lt_succ_iff_lt_or_eq.1 hk with h | rfl
          · exact hok.out k h
          · rw [HI.out, HOK.out]; exact HV1.out
        case measure => simp [intOf]; omega
      · obtain ⟨t, u, rfl⟩ := hev.iface
        have HEV := Lib.hid hev
        have HV1 := Lib.hid hv1
        clear hev hv1
        go_wp2_with fail
        simp only [eqGuard_at_iface, Sem.run_pure, Result.andThen, neqErr]
        go_wp2_with fail
        go_ret
        refine ⟨_, rfl, .inr ⟨fun h => HV1.out ?_, d + 1, by omega, EV.part _ _ HEV.out⟩, HW2.out⟩
        have := h q (by rw [HL.out]; exact hlt)
        rw [HI.out, HOK.out] at this
        exact this
    · obtain rfl : q = L := by omega
      go_wp2_with fail
      go_ret
      refine ⟨_, rfl, .inl ⟨fun k hk => hok.out k (by rw [← HL.out]; exact hk), rfl⟩, hB.out⟩
end Go.Proofs.YtpegkllhomjocaaGreatDoor
