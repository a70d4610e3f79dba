/- errors.As of an error of package prog; Sane. -/
import Derived.Test.YtbddjneinfkmpaaGreatDoorPgN
namespace Go.Proofs.YtbddjneinfkmpaaGreatDoor
open Go Go.RowKit Go.Sort Go.Extern.Stop Go.Stop Go.Extern

theorem as_any {d : Nat} {v : Value} (h : EV d v) (hd : d ≤ 3) (t a : Addr) (old : Value) (w : World) (B : Nat) (hB : B ≤ w.heap.size) (hBt : B ≤ t.block) (ha : w.cell? a = some (.pointer (some t))) (ht : w.cell? t = some old) (hf : w.frozen? t = false) :
    Calls Tryz.prog 94 #[v, .iface 84 (.pointer (some t)), .agg #[.pointer (some ⟨3, 84, none⟩), .pointer (some a), .int .u64 150], .iface 144 (.agg #[.pointer (some ⟨3, 79, none⟩)])] w fun e w' => e = .returned (.bool true) ∧ Below B w w' := by
  cases h with
  | fault s => exact as0 s t a old w B hB hBt ha ht hf
  | part s1 n1 h => cases h with
    | fault s => exact as1 s s1 n1 t a old w B hB hBt ha ht hf
    | part s2 n2 h => cases h with
      | fault s => exact as2 s s1 n1 s2 n2 t a old w B hB hBt ha ht hf
      | part s3 n3 h => cases h with
        | fault s => exact as3 s s1 n1 s2 n2 s3 n3 t a old w B hB hBt ha ht hf
        | part s4 n4 h => omega

/-- The type of errors, as package errors keeps it. -/
def ETab (W : World) : Prop := W.cell? ⟨1, 0, none⟩ = some (.iface 144 (.agg #[.pointer (some ⟨3, 82, none⟩)]))
theorem ETab.on {w W : World} (h : ETab w) (hb : Below w.heap.size w W) : ETab W := (hb.cell (p := ⟨1, 0, none⟩) (block_lt_of_cell h)).trans h

set_option maxRecDepth 100000 in
set_option maxHeartbeats 4000000 in
theorem As_any {d : Nat} {v : Value} (h : EV d v) (hd : d ≤ 3) (t : Addr) (old : Value) (w : World) (B : Nat) (hB : B ≤ w.heap.size) (hBt : B ≤ t.block) (hg : ETab w) (ht : w.cell? t = some old) (hf : w.frozen? t = false) :
    Calls Tryz.prog 62 #[v, .iface 84 (.pointer (some t))] w fun e w' => e = .returned (.bool true) ∧ Below B w w' := by
  obtain ⟨tt, u, rfl⟩ := h.iface
  have h33 := @run_callFunc_extern Tryz.prog 91 _ (fun args => ReflectliteValue.unpack (args.getD 0 (.tuple #[]))) Tryz.func91 (by kernel_rfl) (by kernel_rfl) (by kernel_rfl) (by kernel_rfl)
  have h34 := @run_callFunc_extern Tryz.prog 92 _ (ReflectliteValue.methodAny (ReflectliteValue.valueError "reflectlite.Value.Type" 0) (fun t _ _ _ => ReflectliteType.toType t)) Tryz.func92 (by kernel_rfl) (by kernel_rfl) (by kernel_rfl) (by kernel_rfl)
  have h35 := @run_callFunc_extern Tryz.prog 93 _ (ReflectliteValue.method (ReflectliteValue.valueError "reflectlite.Value.IsNil" 0) ReflectliteValue.isNil) Tryz.func93 (by kernel_rfl) (by kernel_rfl) (by kernel_rfl) (by kernel_rfl)
  have h91 := @run_callFunc_extern Tryz.prog 194 _ (ReflectliteType.abiMethod fun t => do pure (.int .u8 (← Rtype.kind t))) Tryz.func194 (by kernel_rfl) (by kernel_rfl) (by kernel_rfl) (by kernel_rfl)
  have h101 := @run_callFunc_extern Tryz.prog 205 _ (ReflectliteType.method ReflectliteType.elem) Tryz.func205 (by kernel_rfl) (by kernel_rfl) (by kernel_rfl) (by kernel_rfl)
  have h102 := @run_callFunc_extern Tryz.prog 206 _ (ReflectliteType.relation "Implements" ReflectliteType.implements_) Tryz.func206 (by kernel_rfl) (by kernel_rfl) (by kernel_rfl) (by kernel_rfl)
  have htl : t.block < w.heap.size := block_lt_of_cell ht
  have hB2 := below2 w (.cells #[.pointer (some t)] 84) (.cells #[.pointer (some ⟨3, 84, none⟩), .pointer (some ⟨w.heap.size, 0, none⟩), .int .u64 150] 110)
  have hg2 : ((w.alloc (.cells #[.pointer (some t)] 84)).alloc (.cells #[.pointer (some ⟨3, 84, none⟩), .pointer (some ⟨w.heap.size, 0, none⟩), .int .u64 150] 110)).cell? ⟨1, 0, none⟩ = some (.iface 144 (.agg #[.pointer (some ⟨3, 82, none⟩)])) := hg.on hB2
  have ha2 : ((w.alloc (.cells #[.pointer (some t)] 84)).alloc (.cells #[.pointer (some ⟨3, 84, none⟩), .pointer (some ⟨w.heap.size, 0, none⟩), .int .u64 150] 110)).cell? ⟨w.heap.size, 0, none⟩ = some (.pointer (some t)) := by rw [World.cell?_alloc_lt _ _ ⟨w.heap.size, 0, none⟩ (by simp)]; simp
  have HAS := Lib.hid (as_any h hd t ⟨w.heap.size, 0, none⟩ old ((w.alloc (.cells #[.pointer (some t)] 84)).alloc (.cells #[.pointer (some ⟨3, 84, none⟩), .pointer (some ⟨w.heap.size, 0, none⟩), .int .u64 150] 110)) B (Nat.le_trans hB hB2.size) hBt ha2 ((hB2.cell htl).trans ht) ((hB2.frozen htl).trans hf))
  have HB2 := Lib.hid (hB2.mono hB)
  have vP := fx.valueOfP t w
  have tP := fx.typeP
  have mK := fx.mKind
  have kP := fx.kindP
  have kF := fx.kindF
  have iN := fx.isNilP ⟨w.heap.size, 0, none⟩ t ((w.alloc (.cells #[.pointer (some t)] 84)).alloc (.cells #[.pointer (some ⟨3, 84, none⟩), .pointer (some ⟨w.heap.size, 0, none⟩), .int .u64 150] 110)) ha2
  have mE := fx.mElem
  have eP := fx.elemP
  have mI := fx.mImpl
  have iF := fx.implementsF
  clear hB2 ha2 h
  go_enter Tryz.func62, Tryz.ntmps62
  go_wp2_with (go_at_call 94; refine HAS.out.mono ?_; rintro e w3 ⟨rfl, hb3⟩; have HB3 := Lib.hid (HB2.out.trans hb3); clear hb3)
  go_ret
  exact ⟨rfl, HB3.out⟩

set_option maxRecDepth 100000 in
set_option maxHeartbeats 4000000 in
theorem Sane_any (p : Pg) (w : World) (hp : PgIs w.heap.size w p) (hT : KTab w) (hE : ETab w) (hfew : p.few) (r : Bool) (hr : r = true ↔ p.sane) :
    Calls Tryz.prog 23 #[p.val] w fun e w' => e = .returned (.bool r) ∧ Below w.heap.size w w' := by
  have HB2 := Lib.hid (below2 w (.cells #[.slice p.pa p.funs.length p.pc] 24) (.cells #[.string ⟨#[]⟩] 79))
  have HP := Lib.hid (wrongProgram_any p _ (hp.on HB2.out) (hT.on HB2.out) hfew)
  have HE := Lib.hid (hE.on HB2.out)
  have HR := Lib.hid hr
  have HBX := Lib.hid (BoxL.new (w.alloc (.cells #[.slice p.pa p.funs.length p.pc] 24)) [.string ⟨#[]⟩] 79)
  unfold Pg.val at *
  clear hp hT hE hfew hr
  go_enter Tryz.func23, Tryz.ntmps23
  go_wp2_with (go_at_call 63; refine HP.out.mono ?_; rintro e wa ⟨v, rfl, hv, hba⟩; have HW2 := Lib.hid (HB2.out.trans (hba.mono HB2.out.size)); have HE2 := Lib.hid (HE.out.on hba); have HX2 := Lib.hid (HBX.out.below hba (HBX.out.lt (Nat.zero_lt_succ _))); have HSZ := Lib.hid hba.size; clear hba; obtain ⟨hv1, rfl⟩ | ⟨hv1, d, hd, hev⟩ := hv)
  · have HV1 := Lib.hid hv1
    clear hv1
    refine (as_nil _ _).mono ?_
    rintro e wb ⟨rfl, rfl⟩
    go_wp2_with fail
    go_ret
    exact ⟨ret_bool (HR.out.2 HV1.out).symm, HW2.out⟩
  · have HV1 := Lib.hid hv1
    rw [World.size_alloc] at HX2
    have hsz : w.heap.size ≤ wa.heap.size := by have h := HSZ.out; simp only [World.size_alloc] at h; omega
    refine (As_any hev hd ⟨w.heap.size + 1, 0, none⟩ _ wa w.heap.size hsz (Nat.le_succ _) HE2.out (HX2.out 0 _ rfl).1 (HX2.out 0 _ rfl).2).mono ?_
    rintro e wb ⟨rfl, hbb⟩
    have HW3 := Lib.hid (HW2.out.trans hbb)
    clear hv1 hbb hev
    go_wp2_with fail
    go_ret
    refine ⟨ret_bool ?_, HW3.out⟩
    cases r with
    | false => rfl
    | true => exact absurd (HR.out.1 rfl) HV1.out
end Go.Proofs.YtbddjneinfkmpaaGreatDoor
