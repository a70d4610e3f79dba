/- Programs: wrongFun. -/
import Derived.Test.YtpegkllhomjocaaGreatDoorPgF
namespace Go.Proofs.YtpegkllhomjocaaGreatDoor
open Go Go.RowKit Go.Sort

/-- The boxes of a program and a function, new. -/
theorem PF.new (w : World) (p : Pg) (f : Fd) (t t' : TypeId) : PF ((w.alloc (.cells [.slice p.pa p.funs.length p.pc].toArray t)).alloc (.cells [.int .i64 f.ar, .int .i64 f.vr, .slice f.ba f.blocks.length f.bc].toArray t')) w.heap.size (w.heap.size + 1) p f := by
  have h1 := BoxL.new w [.slice p.pa p.funs.length p.pc] t
  have h2 := BoxL.new (w.alloc (.cells [.slice p.pa p.funs.length p.pc].toArray t)) [.int .i64 f.ar, .int .i64 f.vr, .slice f.ba f.blocks.length f.bc] t'
  rw [World.size_alloc] at h2
  exact ⟨h1.alloc (Nat.zero_lt_succ _) _, h2⟩

set_option maxRecDepth 100000 in
set_option maxHeartbeats 8000000 in
theorem wrongFun_any (p : Pg) (f : Fd) (w : World) (hp : PgIs w.heap.size w p) (hf : FdIs w.heap.size w f) (hT : KTab w) (hlen : p.funs.length ≤ 10) (hfew : fewF f) :
    Calls Tryz.prog 97 #[p.val, f.val] w fun e w' => ∃ v, e = .returned v ∧ ToldD 2 (fdOk p f) v ∧ Below w.heap.size w w' := by
  have HWB := Lib.hid (below2 w (.cells [.slice p.pa p.funs.length p.pc].toArray 24) (.cells [.int .i64 f.ar, .int .i64 f.vr, .slice f.ba f.blocks.length f.bc].toArray 29))
  have HPF := Lib.hid (PF.new w p f 24 29)
  have HI := Lib.hid (fun part => wrongPartB_any part f.ba f.blocks f.bc p f w.heap.size (w.heap.size + 1) _ (hp.on HWB.out) (hf.on HWB.out) (hT.on HWB.out) hlen HPF.out (BlksIs.on hf HWB.out) (fun k => hfew.b k) _ rfl hfew.1)
  have HFD := Lib.hid (BlksIs.on hf HWB.out)
  have HOK : Hid (fdOk p f ↔ (0 ≤ f.ar ∧ f.ar ≤ 3 ∧ f.ar ≤ f.vr ∧ f.vr ≤ 6 ∧ 1 ≤ f.blocks.length ∧ f.blocks.length ≤ 12 ∧ (blkAt f.blocks 0).live = true ∧ (blkAt f.blocks (f.blocks.length - 1)).live = true) ∧ ∀ k, k < f.blocks.length → blkOk p f (blkAt f.blocks k)) := Lib.hid Iff.rfl
  obtain ⟨ok, hok⟩ : ∃ ok, fdOk p f = ok := ⟨_, rfl⟩
  obtain ⟨bo, hbo⟩ : ∃ bo, (∀ k, k < f.blocks.length → blkOk p f (blkAt f.blocks k)) = bo := ⟨_, rfl⟩
  simp only [hbo] at HOK HI
  rw [hok] at HOK ⊢
  have hb20 := hfew.1
  clear hok hbo hp hf hT hfew
  unfold Fd.val Pg.val at *
  obtain ⟨PL, hPL⟩ : ∃ PL, p.funs.length = PL := ⟨_, rfl⟩
  obtain ⟨BL, hBL⟩ : ∃ BL, f.blocks.length = BL := ⟨_, rfl⟩
  have HBL := Lib.hid hBL
  unfold PF at HPF
  simp only [hPL, hBL] at HWB HI HPF HOK HFD hb20 hlen ⊢
  clear hPL hBL
  obtain ⟨ar, vr, ba, bc, bl⟩ := f
  dsimp only at *
  generalize hE : (w.alloc (.cells (List.toArray [.slice p.pa PL p.pc]) 24)).alloc (.cells (List.toArray [.int .i64 ar, .int .i64 vr, .slice ba BL bc]) 29) = W at HWB HI HPF HFD
  have hE' : (w.alloc (.cells #[.slice p.pa PL p.pc] 24)).alloc (.cells #[.int .i64 ar, .int .i64 vr, .slice ba BL bc] 29) = W := hE
  clear hE
  obtain ⟨g, hg⟩ : ∃ g, w.heap.size = g := ⟨_, rfl⟩
  have HGL := Lib.hid HWB.out.size
  rw [hg] at HWB HGL HPF HI ⊢
  have f0 := (HPF.out.2 0 _ rfl).1
  have f1 := (HPF.out.2 1 _ rfl).1
  have f2 := (HPF.out.2 2 _ rfl).1
  by_cases hc : ar < 0
  · clear HI HFD
    go_enter Tryz.func97, Tryz.ntmps97
    go_wp2_with fail
    go_ret
    refine ⟨_, rfl, .inr ⟨fun h => ?_, 0, by omega, EV.fault _⟩, HWB.out⟩
    have := (HOK.out.1 h).1
    omega
  have h0 : 0 ≤ ar := by omega
  clear hc
  by_cases hc : 3 < ar
  · clear HI HFD
    go_enter Tryz.func97, Tryz.ntmps97
    go_wp2_with fail
    go_ret
    refine ⟨_, rfl, .inr ⟨fun h => ?_, 0, by omega, EV.fault _⟩, HWB.out⟩
    have := (HOK.out.1 h).1
    omega
  have h289 : ar ≤ 3 := by omega
  clear hc
  by_cases hc : vr < ar
  · clear HI HFD
    go_enter Tryz.func97, Tryz.ntmps97
    go_wp2_with fail
    go_ret
    refine ⟨_, rfl, .inr ⟨fun h => ?_, 0, by omega, EV.fault _⟩, HWB.out⟩
    have := (HOK.out.1 h).1
    omega
  have h580 : ar ≤ vr := by omega
  clear hc
  by_cases hc : 6 < vr
  · clear HI HFD
    go_enter Tryz.func97, Tryz.ntmps97
    go_wp2_with fail
    go_ret
    refine ⟨_, rfl, .inr ⟨fun h => ?_, 0, by omega, EV.fault _⟩, HWB.out⟩
    have := (HOK.out.1 h).1
    omega
  have h873 : vr ≤ 6 := by omega
  clear hc
  by_cases hc : BL = 0
  · subst hc
    clear HI HFD
    have hl0 : ((0 : Nat) : Int) - 1 < 0 := by omega
    go_enter Tryz.func97, Tryz.ntmps97
    go_wp2_with fail
    go_ret
    refine ⟨_, rfl, .inr ⟨fun h => ?_, 0, by omega, EV.fault _⟩, HWB.out⟩
    have := (HOK.out.1 h).1
    omega
  have hB1 : (0 : Int) ≤ (BL : Int) - 1 := by omega
  have HB0 := Lib.hid hc
  clear hc
  by_cases hc : 12 < BL
  · have hB2 : (12 : Int) ≤ (BL : Int) - 1 := by omega
    clear HI HFD
    go_enter Tryz.func97, Tryz.ntmps97
    go_wp2_with fail
    go_ret
    refine ⟨_, rfl, .inr ⟨fun h => ?_, 0, by omega, EV.fault _⟩, HWB.out⟩
    have := (HOK.out.1 h).1
    omega
  have hB2 : (BL : Int) - 1 < 12 := by omega
  have hB3 : BL ≤ 12 := by omega
  clear hc
  obtain ⟨LB, rfl⟩ : ∃ LB, BL = LB + 1 := ⟨BL - 1, by have := HB0.out; omega⟩
  obtain ⟨b, o, rfl, hbl, c0, -⟩ := HFD.out 0 (by rw [HBL.out]; omega)
  obtain ⟨b', o', e', -, d0, -⟩ := HFD.out LB (by rw [HBL.out]; omega)
  cases e'
  obtain ⟨l0, hl0⟩ : ∃ l0, (blkAt bl 0).live = l0 := ⟨_, rfl⟩
  obtain ⟨l1, hl1⟩ : ∃ l1, (blkAt bl LB).live = l1 := ⟨_, rfl⟩
  rw [hl0] at c0
  rw [hl1] at d0
  have HLL : Hid ((blkAt bl 0).live = l0 ∧ (blkAt bl (LB + 1 - 1)).live = l1) := Lib.hid ⟨hl0, by rw [Nat.add_sub_cancel]; exact hl1⟩
  clear hl0 hl1 hbl
  replace c0 : W.cell? ⟨b, o, none⟩ = some (.bool l0) := by simpa using c0
  have hlast : (((LB + 1 : Nat) : Int) - 1) = (LB : Int) := by omega
  have hL1 : (0 : Int) ≤ (LB : Int) := by omega
  have hL2 : (LB : Int) < 12 := by omega
  cases l0 with
  | false =>
    clear HI HFD
    go_enter Tryz.func97, Tryz.ntmps97
    go_wp2_with fail
    go_ret
    refine ⟨_, rfl, .inr ⟨fun h => ?_, 0, by omega, EV.fault _⟩, HWB.out⟩
    have := (HOK.out.1 h).1
    rw [HLL.out.1] at this
    simp at this
  | true =>
  cases l1 with
  | false =>
    clear HI HFD
    go_enter Tryz.func97, Tryz.ntmps97
    go_wp2_with fail
    go_ret
    refine ⟨_, rfl, .inr ⟨fun h => ?_, 0, by omega, EV.fault _⟩, HWB.out⟩
    have := (HOK.out.1 h).1
    rw [HLL.out.2] at this
    simp at this
  | true =>
  go_enter Tryz.func97, Tryz.ntmps97
  go_wp2_with (go_at_call 125; refine (HI.out _).mono ?_; rintro e wa ⟨v, rfl, hv, hba⟩; have HW2 := Lib.hid (HWB.out.trans (hba.mono HGL.out)); have HV := Lib.hid hv; clear hba hv)
  go_ret
  refine ⟨_, rfl, ?_, HW2.out⟩
  obtain ⟨h1, h2⟩ | ⟨h1, h2⟩ := HV.out
  · exact .inl ⟨HOK.out.2 ⟨⟨by omega, by omega, by omega, by omega, by omega, by omega, HLL.out.1, HLL.out.2⟩, h1⟩, h2⟩
  · exact .inr ⟨fun h => h1 (HOK.out.1 h).2, h2⟩
end Go.Proofs.YtpegkllhomjocaaGreatDoor
