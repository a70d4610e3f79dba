/- Programs: wrongBlock. -/
import Derived.Test.YtpegkllhomjocaaGreatDoorPgD
namespace Go.Proofs.YtpegkllhomjocaaGreatDoor
open Go Go.RowKit Go.Sort

theorem ToldD.mono {D D' : Nat} {ok : Prop} {v : Value} (h : ToldD D ok v) (hd : D ≤ D') : ToldD D' ok v :=
  h.imp _root_.id fun ⟨h1, d, h2, h3⟩ => ⟨h1, d, Nat.le_trans h2 hd, h3⟩

set_option maxRecDepth 100000 in
set_option maxHeartbeats 8000000 in
theorem wrongBlock_any (p : Pg) (f : Fd) (b : Blk) (w : World) (hp : PgIs w.heap.size w p) (hf : FdIs w.heap.size w f) (hb : BlkIs w.heap.size w b) (hT : KTab w) (hlen : p.funs.length ≤ 10) (hfew : fewB b) :
    Calls Tryz.prog 127 #[p.val, f.val, b.val] w fun e w' => ∃ v, e = .returned v ∧ ToldD 1 (blkOk p f b) v ∧ Below w.heap.size w w' := by
  have HWB := Lib.hid (below3 w (.cells [.slice p.pa p.funs.length p.pc].toArray 24) (.cells [.int .i64 f.ar, .int .i64 f.vr, .slice f.ba f.blocks.length f.bc].toArray 29) (.cells [.bool b.live, .slice b.ca b.code.length b.cc, .slice b.sa b.succ.length b.sc].toArray 35))
  have HX := Lib.hid (IBox.new w [.slice p.pa p.funs.length p.pc] [.int .i64 f.ar, .int .i64 f.vr, .slice f.ba f.blocks.length f.bc] [.bool b.live, .slice b.ca b.code.length b.cc, .slice b.sa b.succ.length b.sc] 24 29 35 (Nat.zero_lt_succ _) (Nat.zero_lt_succ _))
  have HS := Lib.hid (wrongSucc_any f b.sa b.succ b.sc _ (hf.on HWB.out) (hb.2.on HWB.out) _ rfl (by have := hfew.2; omega))
  have HI := Lib.hid (fun W gp gf part (h : Below w.heap.size w W) (hpf : PF W gp gf p f) => wrongPartI_any part b.ca b.code b.cc p f gp gf W (hp.on h) (hT.on h) hlen hpf (hb.1.on h) _ rfl hfew.1)
  have HPF : Hid (PF (((w.alloc (.cells [.slice p.pa p.funs.length p.pc].toArray 24)).alloc (.cells [.int .i64 f.ar, .int .i64 f.vr, .slice f.ba f.blocks.length f.bc].toArray 29)).alloc (.cells [.bool b.live, .slice b.ca b.code.length b.cc, .slice b.sa b.succ.length b.sc].toArray 35)) w.heap.size (w.heap.size + 1) p f) := Lib.hid ⟨HX.out.1, HX.out.2.1⟩
  have HOK : Hid (blkOk p f b ↔ (¬ b.live = true → b.code.length = 0 ∧ b.succ.length = 0) ∧ b.code.length ≤ 16 ∧ succOk f.blocks b.succ ∧ codeOk p f b.code) := Lib.hid (by unfold blkOk; rw [Bool.not_eq_true])
  have HSZ : Hid ((((w.alloc (.cells [.slice p.pa p.funs.length p.pc].toArray 24)).alloc (.cells [.int .i64 f.ar, .int .i64 f.vr, .slice f.ba f.blocks.length f.bc].toArray 29)).alloc (.cells [.bool b.live, .slice b.ca b.code.length b.cc, .slice b.sa b.succ.length b.sc].toArray 35)).heap.size = w.heap.size + 3) := by
    refine Lib.hid ?_
    simp only [World.size_alloc]
  obtain ⟨ok, hok⟩ : ∃ ok, blkOk p f b = ok := ⟨_, rfl⟩
  obtain ⟨so, hso⟩ : ∃ so, succOk f.blocks b.succ = so := ⟨_, rfl⟩
  obtain ⟨co, hco⟩ : ∃ co, codeOk p f b.code = co := ⟨_, rfl⟩
  simp only [hso, hco] at HOK HS HI
  rw [hok] at HOK ⊢
  clear hok hso hco
  have hc30 := hfew.1
  have hs30 := hfew.2
  clear hp hf hb hT hfew
  unfold Fd.val Pg.val Blk.val at *
  obtain ⟨CL, hCL⟩ : ∃ CL, b.code.length = CL := ⟨_, rfl⟩
  obtain ⟨SL, hSL⟩ : ∃ SL, b.succ.length = SL := ⟨_, rfl⟩
  obtain ⟨PL, hPL⟩ : ∃ PL, p.funs.length = PL := ⟨_, rfl⟩
  obtain ⟨BL, hBL⟩ : ∃ BL, f.blocks.length = BL := ⟨_, rfl⟩
  obtain ⟨lv, hlv⟩ : ∃ lv, b.live = lv := ⟨_, rfl⟩
  simp only [hCL, hSL, hPL, hBL, hlv] at HX HWB HS HI HPF HOK HSZ hc30 hs30 hlen ⊢
  clear hCL hSL hPL hBL hlv
  generalize hE : ((w.alloc (.cells (List.toArray [.slice p.pa PL p.pc]) 24)).alloc (.cells (List.toArray [.int .i64 f.ar, .int .i64 f.vr, .slice f.ba BL f.bc]) 29)).alloc (.cells (List.toArray [.bool lv, .slice b.ca CL b.cc, .slice b.sa SL b.sc]) 35) = W at HX HWB HSZ HS HPF
  have hE' : ((w.alloc (.cells #[.slice p.pa PL p.pc] 24)).alloc (.cells #[.int .i64 f.ar, .int .i64 f.vr, .slice f.ba BL f.bc] 29)).alloc (.cells #[.bool lv, .slice b.ca CL b.cc, .slice b.sa SL b.sc] 35) = W := hE
  clear hE
  obtain ⟨g, hg⟩ : ∃ g, w.heap.size = g := ⟨_, rfl⟩
  have HGL := Lib.hid HWB.out.size
  rw [hg] at HX HSZ HWB HGL HPF HI ⊢
  have f0 := (HX.out.2.1 0 _ rfl).1
  have f1 := (HX.out.2.1 1 _ rfl).1
  have f2 := (HX.out.2.1 2 _ rfl).1
  have b0 := (HX.out.2.2 0 _ rfl).1
  have b1 := (HX.out.2.2 1 _ rfl).1
  have b2 := (HX.out.2.2 2 _ rfl).1
  by_cases hbad : lv = false ∧ 0 < CL + SL
  · obtain ⟨rfl, hcs⟩ := hbad
    have hcs' : (0 : Int) < (CL : Int) + (SL : Int) := by omega
    clear HS HI HPF
    go_enter Tryz.func127, Tryz.ntmps127
    go_wp2_with fail
    go_ret
    refine ⟨_, rfl, .inr ⟨fun h => ?_, 0, by omega, EV.fault _⟩, HWB.out⟩
    have := (HOK.out.1 h).1 (by simp)
    omega
  have HNB : Hid (lv = false → CL = 0 ∧ SL = 0) := Lib.hid fun h => by
    have : ¬ 0 < CL + SL := fun h2 => hbad ⟨h, h2⟩
    omega
  have htst : lv = true ∨ (lv = false ∧ CL = 0 ∧ SL = 0) := by
    cases lv with
    | true => exact .inl rfl
    | false => exact .inr ⟨rfl, HNB.out rfl⟩
  clear hbad
  by_cases hc16 : 16 < CL
  · have hc16' : (16 : Int) < (CL : Int) := by omega
    rcases htst with rfl | ⟨rfl, rfl, rfl⟩
    · clear HS HI HPF
      go_enter Tryz.func127, Tryz.ntmps127
      go_wp2_with fail
      go_ret
      refine ⟨_, rfl, .inr ⟨fun h => ?_, 0, by omega, EV.fault _⟩, HWB.out⟩
      have := (HOK.out.1 h).2.1
      omega
    · omega
  have hc16' : (CL : Int) ≤ 16 := by omega
  have HC16 := Lib.hid hc16
  clear hc16
  rcases htst with rfl | ⟨rfl, rfl, rfl⟩
  all_goals
    go_enter Tryz.func127, Tryz.ntmps127
    go_wp2_with (go_at_call 156; refine HS.out.mono ?_; rintro e wa ⟨v, rfl, hv, hba⟩; have HW2 := Lib.hid (HWB.out.trans (hba.mono HGL.out)); have HX2 := Lib.hid (HX.out.below hba (by rw [HSZ.out]; omega)); have HPF2 := Lib.hid (HPF.out.on hba); have HG2 := Lib.hid (Nat.le_trans HGL.out hba.size); clear hba HX HPF HS f0 f1 f2 b0 b1 b2; have b1 := (HX2.out.2.2 1 _ rfl).1; obtain ⟨hv1, rfl⟩ | ⟨hv1, d, hd, hev⟩ := hv)
  · have HV1 := Lib.hid hv1
    clear hv1
    refine (HI.out wa g (g + 1) _ HW2.out HPF2.out).mono ?_
    rintro e wb ⟨v, rfl, hv, hbb⟩
    have HV := Lib.hid hv
    have HW3 := Lib.hid (HW2.out.trans (hbb.mono HG2.out))
    clear hv hbb
    go_wp2_with fail
    go_ret
    refine ⟨_, rfl, ?_, HW3.out⟩
    obtain ⟨h1, h2⟩ | ⟨h1, h2⟩ := HV.out
    · exact .inl ⟨HOK.out.2 ⟨fun h => absurd trivial h, by omega, HV1.out, h1⟩, h2⟩
    · exact .inr ⟨fun h => h1 (HOK.out.1 h).2.2.2, h2⟩
  · obtain ⟨t, u, rfl⟩ := hev.iface
    have HEV := Lib.hid hev
    have HV1 := Lib.hid hv1
    clear hev hv1 HI
    simp only [eqGuard_at_iface, Sem.run_pure, Result.andThen, neqErr]
    go_wp2_with fail
    go_ret
    exact ⟨_, rfl, .inr ⟨fun h => HV1.out (HOK.out.1 h).2.2.1, d, by omega, HEV.out⟩, HW2.out⟩
  · have HV1 := Lib.hid hv1
    clear hv1
    refine (HI.out wa g (g + 1) _ HW2.out HPF2.out).mono ?_
    rintro e wb ⟨v, rfl, hv, hbb⟩
    have HV := Lib.hid hv
    have HW3 := Lib.hid (HW2.out.trans (hbb.mono HG2.out))
    clear hv hbb
    go_wp2_with fail
    go_ret
    refine ⟨_, rfl, ?_, HW3.out⟩
    obtain ⟨h1, h2⟩ | ⟨h1, h2⟩ := HV.out
    · exact .inl ⟨HOK.out.2 ⟨fun _ => ⟨by simp, by simp⟩, by omega, HV1.out, h1⟩, h2⟩
    · exact .inr ⟨fun h => h1 (HOK.out.1 h).2.2.2, h2⟩
  · obtain ⟨t, u, rfl⟩ := hev.iface
    have HEV := Lib.hid hev
    have HV1 := Lib.hid hv1
    clear hev hv1 HI
    simp only [eqGuard_at_iface, Sem.run_pure, Result.andThen, neqErr]
    go_wp2_with fail
    go_ret
    exact ⟨_, rfl, .inr ⟨fun h => HV1.out (HOK.out.1 h).2.2.1, d, by omega, HEV.out⟩, HW2.out⟩
end Go.Proofs.YtpegkllhomjocaaGreatDoor
