/- Programs: functions of a program. -/
import Derived.Test.YtpegkllhomjocaaGreatDoorPgG
namespace Go.Proofs.YtpegkllhomjocaaGreatDoor
open Go Go.RowKit Go.Sort

set_option maxRecDepth 100000 in
set_option maxHeartbeats 4000000 in
theorem cloF_any (p : Pg) (b : Fd) (gp : Nat) (w : World) (hp : PgIs w.heap.size w p) (hb : FdIs w.heap.size w b) (hT : KTab w) (hlen : p.funs.length ≤ 10) (hfew : fewF b) (hpf : BoxL w gp [.slice p.pa p.funs.length p.pc]) :
    Calls Tryz.prog 96 #[b.val, .pointer (some ⟨gp, 0, none⟩)] w fun e w' => ∃ v, e = .returned v ∧ ToldD 2 (fdOk p b) v ∧ Below w.heap.size w w' := by
  have HW := Lib.hid (below1 w (.cells b.cells.toArray 29))
  have HB := Lib.hid (BoxL.new w b.cells 29)
  have HC := Lib.hid (wrongFun_any p b _ (hp.on HW.out) (hb.on HW.out) (hT.on HW.out) hlen hfew)
  have HPF := Lib.hid (hpf.below HW.out (hpf.lt (Nat.zero_lt_succ _)))
  clear hp hT hb hfew hpf
  obtain ⟨ok, hok⟩ : ∃ ok, fdOk p b = ok := ⟨_, rfl⟩
  rw [hok] at HC ⊢
  clear hok
  unfold Fd.val Pg.val at *
  unfold Fd.cells at HB HW HC HPF
  generalize hE : w.alloc (.cells (List.toArray [.int .i64 b.ar, .int .i64 b.vr, .slice b.ba b.blocks.length b.bc]) 29) = W at HB HW HC HPF
  have hE' : w.alloc (.cells #[.int .i64 b.ar, .int .i64 b.vr, .slice b.ba b.blocks.length b.bc] 29) = W := hE
  clear hE
  obtain ⟨g, hg⟩ : ∃ g, w.heap.size = g := ⟨_, rfl⟩
  have HGL := Lib.hid HW.out.size
  rw [hg] at HB HW HGL ⊢
  have k0 := (HB.out 0 _ rfl).1
  have k1 := (HB.out 1 _ rfl).1
  have k2 := (HB.out 2 _ rfl).1
  have p0 := (HPF.out 0 _ rfl).1
  go_enter Tryz.func96, Tryz.ntmps96
  go_wp2_with (go_at_call 97; refine HC.out.mono ?_; rintro e w' ⟨v, rfl, hv, hbb⟩; have HV := Lib.hid hv; have HW2 := Lib.hid (HW.out.trans (hbb.mono HGL.out)); clear hv hbb)
  go_ret
  exact ⟨_, rfl, HV.out, HW2.out⟩

set_option maxRecDepth 100000 in
set_option maxHeartbeats 4000000 in
theorem wrongPartF_any (part : ByteArray) (p : Pg) (gp : Nat) (w : World) (hp : PgIs w.heap.size w p) (hT : KTab w) (hb : BoxL w gp [.slice p.pa p.funs.length p.pc]) (hfew : p.few) (L : Nat) (hL : p.funs.length = L) :
    Calls Tryz.prog 95 #[.string part, .slice p.pa L p.pc, .func (.func 96) #[] #[.pointer (some ⟨gp, 0, none⟩)]] w fun e w' => ∃ v, e = .returned v ∧ ToldD 3 (fdsOk p) v ∧ Below w.heap.size w w' := by
  have HC := Lib.hid hp
  have HL := Lib.hid hL
  have hlen := hfew.1
  have hl : L ≤ 10 := by omega
  have HCL := Lib.hid (fun q W (h : Below w.heap.size w W) (hk : FdIs W.heap.size W (fdAt p.funs q)) => cloF_any p (fdAt p.funs q) gp W (hp.on h) hk (hT.on h) hlen (hfew.f q) (hb.below h (hb.lt (Nat.zero_lt_succ _))))
  clear hp hT hb hL hfew
  unfold fdsOk
  obtain ⟨okF, hokF⟩ : ∃ okF, fdOk p = okF := ⟨_, rfl⟩
  simp only [hokF] at HCL ⊢
  clear hokF
  obtain ⟨pa, pc, l⟩ := p
  dsimp only at *
  go_enter Tryz.func95, Tryz.ntmps95
  go_wp2
  go_loopw [12] (fun i wr => ∃ q : Nat, q ≤ L ∧ i = .int .i64 q ∧ Hid (∀ k, k < q → okF (fdAt l k)) ∧ Hid (Below w.heap.size w wr)) (fun i _ => L - (intOf i).toNat)
  case atStart => exact ⟨0, Nat.zero_le _, rfl, fun k hk => absurd hk (Nat.not_lt_zero _), Below.refl _ _⟩
  case round =>
    obtain ⟨q, hq, rfl, hok, hB⟩ := hrel
    by_cases hlt : q < L
    · obtain ⟨b, o, rfl, hbl, c0, c1, c2, hbi⟩ := (HC.out.below hB.out) q (by rw [HL.out]; exact hlt)
      have hqi : (q : Int) < (L : Int) := by omega
      have HW := Lib.hid (below1 wr (.cells (fdAt l q).cells.toArray 29))
      have HBX := Lib.hid (BoxL.new wr (fdAt l q).cells 29)
      have HBW := Lib.hid (hB.out.trans (HW.out.mono hB.out.size))
      have HK := Lib.hid (HCL.out q _ HBW.out ((hbi.below (HW.out.mono hB.out.size)).mono (Nat.le_trans hB.out.size HW.out.size)))
      clear HW hbi hbl
      obtain ⟨i, hi⟩ : ∃ i, fdAt l q = i := ⟨_, rfl⟩
      rw [hi] at c0 c1 c2
      simp only [hi] at HBX HBW HK
      have HI := Lib.hid hi
      clear hi
      obtain ⟨ok, hokk⟩ : ∃ ok, okF i = ok := ⟨_, rfl⟩
      have HOK := Lib.hid hokk
      rw [hokk] at HK
      clear hokk
      unfold Fd.val at HK
      unfold Fd.cells at HBX HK HBW
      go_wp2_with (go_at_call 96; refine HK.out.mono ?_; rintro e w2 ⟨v, rfl, hv, hbb⟩; have HW2 := Lib.hid (HBW.out.trans (hbb.mono HBW.out.size)); clear hbb; obtain ⟨hv1, rfl⟩ | ⟨hv1, d, hd, hev⟩ := hv)
      · have HV1 := Lib.hid hv1
        clear hv1
        go_wp2_with fail
        go_roundw
        case rel =>
          refine ⟨q + 1, by omega, by go_num, fun k hk => ?_, HW2⟩
          rcases Nat.lt_succ_iff_lt_or_eq.1 hk with h | rfl
          · exact hok.out k h
          · rw [HI.out, HOK.out]; exact HV1.out
        case measure => simp [intOf]; omega
      · obtain ⟨t, u, rfl⟩ := hev.iface
        have HEV := Lib.hid hev
        have HV1 := Lib.hid hv1
        clear hev hv1
        go_wp2_with fail
        simp only [eqGuard_at_iface, Sem.run_pure, Result.andThen, neqErr]
        go_wp2_with fail
        go_ret
        refine ⟨_, rfl, .inr ⟨fun h => HV1.out ?_, d + 1, by omega, EV.part _ _ HEV.out⟩, HW2.out⟩
        have := h q (by rw [HL.out]; exact hlt)
        rw [HI.out, HOK.out] at this
        exact this
    · obtain rfl : q = L := by omega
      go_wp2_with fail
      go_ret
      refine ⟨_, rfl, .inl ⟨fun k hk => hok.out k (by rw [← HL.out]; exact hk), rfl⟩, hB.out⟩
end Go.Proofs.YtpegkllhomjocaaGreatDoor
