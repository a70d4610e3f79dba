/- Instructions: Form. -/
import Derived.Laws.StructEq
import Derived.Laws.Tables
import Derived.Laws.Cover2
import Derived.Test.YtbddjneinfkmpaaGreatDoorInsB
namespace Go.Proofs.YtbddjneinfkmpaaGreatDoor
open Go Go.RowKit Go.Sort

def zeroI : Ins := ⟨0, 0, 0, 0, 0, 0, 0, 0, 0, 0, 0⟩
theorem form_iff (i : Ins) : i.form ↔ (0 ≤ i.kind ∧ i.kind < 10) ∧ i.fits ∧ i.left = zeroI := by
  obtain ⟨id, kind, dst, a, b, c, f, n, x0, x1, x2⟩ := i
  by_cases hk : 0 ≤ kind ∧ kind < 10
  · rcases (by omega : kind = 0 ∨ kind = 1 ∨ kind = 2 ∨ kind = 3 ∨ kind = 4 ∨ kind = 5 ∨ kind = 6 ∨ kind = 7 ∨ kind = 8 ∨ kind = 9) with rfl | rfl | rfl | rfl | rfl | rfl | rfl | rfl | rfl | rfl
    all_goals
      simp [Ins.form, Ins.fits, Ins.left, zeroI, zeroIf, noneB, hasDst, hasA, hasB]
      try omega
  · constructor
    · intro h; unfold Ins.form at h; dsimp only at h; omega
    · intro h; exact absurd h.1 hk

theorem eqArr3 (x0 x1 x2 : Int) (w : World) : (Op.equalIn 9999 38 (.agg #[.int .i64 x0, .int .i64 x1, .int .i64 x2]) (.agg #[.int .i64 0, .int .i64 0, .int .i64 0])).run Tryz.prog w = .ok (x0 == 0 && x1 == 0 && x2 == 0) w := by
  have u3 := Tryz.underlying3
  have a3 := Tryz.isAgg3
  have z3 := Tryz.sizeOf3
  rw [show (9999 : Nat) = 9998 + 1 from rfl, Op.equalIn]
  simp only [Sem.run_bind, run_underlying Tryz.underlying38, Result.andThen_ok]
  simp only [Std.Legacy.Range.forIn_eq_forIn_range', Std.Legacy.Range.size, Nat.sub_zero, Nat.add_sub_cancel, Nat.div_one, List.range'_succ, List.range'_zero, List.forIn_cons, List.forIn_nil]
  go_simp
  by_cases h1 : x0 = 0 <;> by_cases h2 : x1 = 0 <;> by_cases h3 : x2 = 0 <;> simp [h1, h2, h3]
theorem eqIns (id kind dst a b c f n x0 x1 x2 : Int) (w : World) : (Op.equalIn 10000 40 (.agg #[.int .i64 id, .int .i64 kind, .int .i64 dst, .int .i64 a, .int .i64 b, .int .i64 c, .int .i64 f, .int .i64 n, .int .i64 x0, .int .i64 x1, .int .i64 x2]) (.agg #[.int .i64 0, .int .i64 0, .int .i64 0, .int .i64 0, .int .i64 0, .int .i64 0, .int .i64 0, .int .i64 0, .int .i64 0, .int .i64 0, .int .i64 0])).run Tryz.prog w = .ok (decide (id = 0 ∧ kind = 0 ∧ dst = 0 ∧ a = 0 ∧ b = 0 ∧ c = 0 ∧ f = 0 ∧ n = 0 ∧ x0 = 0 ∧ x1 = 0 ∧ x2 = 0)) w := by
  have u3 := Tryz.underlying3
  have a3 := Tryz.isAgg3
  have z3 := Tryz.sizeOf3
  have a22 := Tryz.isAgg38
  have z22 := Tryz.sizeOf38
  have h22 := eqArr3 x0 x1 x2
  have hS : Tryz.prog.underlying 40 = some (.struct (Tryz.prog.fieldsOf 40)) := by kernel_rfl
  rw [show (10000 : Nat) = 9999 + 1 from rfl, run_equalIn_agg w 9999 40 _ _ hS (by kernel_rfl)]
  simp only [Program.fieldsOf, Tryz.underlying40]
  go_simp
  by_cases h0 : id = 0
  rotate_left
  · simp [h0]
  simp only [h0, if_true, decide_true, Bool.true_and]
  by_cases h1 : kind = 0
  rotate_left
  · simp [h1]
  simp only [h1, if_true, decide_true, Bool.true_and]
  by_cases h2 : dst = 0
  rotate_left
  · simp [h2]
  simp only [h2, if_true, decide_true, Bool.true_and]
  by_cases h3 : a = 0
  rotate_left
  · simp [h3]
  simp only [h3, if_true, decide_true, Bool.true_and]
  by_cases h4 : b = 0
  rotate_left
  · simp [h4]
  simp only [h4, if_true, decide_true, Bool.true_and]
  by_cases h5 : c = 0
  rotate_left
  · simp [h5]
  simp only [h5, if_true, decide_true, Bool.true_and]
  by_cases h6 : f = 0
  rotate_left
  · simp [h6]
  simp only [h6, if_true, decide_true, Bool.true_and]
  by_cases h7 : n = 0
  rotate_left
  · simp [h7]
  simp only [h7, if_true, decide_true, Bool.true_and]
  by_cases g0 : x0 = 0 <;> by_cases g1 : x1 = 0 <;> by_cases g2 : x2 = 0 <;> simp [g0, g1, g2]
theorem eq_zeroI (l : Ins) : (l.id = 0 ∧ l.kind = 0 ∧ l.dst = 0 ∧ l.a = 0 ∧ l.b = 0 ∧ l.c = 0 ∧ l.f = 0 ∧ l.n = 0 ∧ l.x0 = 0 ∧ l.x1 = 0 ∧ l.x2 = 0) ↔ l = zeroI := by
  obtain ⟨id, kind, dst, a, b, c, f, n, x0, x1, x2⟩ := l
  simp [zeroI]

set_option maxRecDepth 100000 in
set_option maxHeartbeats 8000000 in
theorem Form_any (i : Ins) (w : World) (hT : KTab w) (r : Bool) (hr : decide i.form = r) :
    Calls Tryz.prog 102 #[i.val] w fun e w' => e = .returned (.bool r) ∧ Below w.heap.size w w' := by
  have HQ : Hid (r = true ↔ (0 ≤ i.kind ∧ i.kind < 10) ∧ i.fits ∧ i.left = zeroI) := by rw [← hr, decide_eq_true_eq]; exact form_iff i
  clear hr
  have HW := Lib.hid (below1 w (.cells i.cells.toArray 40))
  have HT := Lib.hid (hT.on HW.out)
  clear hT
  have HI := Lib.hid (fun W => isKind_any i.kind W)
  have HF := Lib.hid (fun W => numbersFit_any i W)
  have HL := Lib.hid (fun W (h : KTab W) => left_any i W h)
  have HB := Lib.hid (BoxL.new w i.cells 40)
  have HFN : Hid (i.fits → 0 ≤ i.n ∧ i.n ≤ 3) := fun h2 => ⟨h2.2.2.2.2.1, h2.2.2.2.2.2.1⟩
  have heq := eqIns i.left.id i.left.kind i.left.dst i.left.a i.left.b i.left.c i.left.f i.left.n i.left.x0 i.left.x1 i.left.x2
  obtain ⟨eb, heb⟩ : ∃ eb, decide (i.left.id = 0 ∧ i.left.kind = 0 ∧ i.left.dst = 0 ∧ i.left.a = 0 ∧ i.left.b = 0 ∧ i.left.c = 0 ∧ i.left.f = 0 ∧ i.left.n = 0 ∧ i.left.x0 = 0 ∧ i.left.x1 = 0 ∧ i.left.x2 = 0) = eb := ⟨_, rfl⟩
  have HEB := Lib.hid (show eb = true ↔ i.left = zeroI by rw [← heb, decide_eq_true_eq]; exact eq_zeroI _)
  rw [heb] at heq
  clear heb
  by_cases hk : 0 ≤ i.kind ∧ i.kind < 10
  rotate_left
  · rw [decide_eq_false hk] at HI
    have HR : Hid (r = false) := by cases r with
      | false => rfl
      | true => exact absurd (HQ.out.1 rfl).1 hk
    clear HQ HL heq HEB HFN hk
    obtain ⟨id, kind, dst, a, b, c, f, n, x0, x1, x2⟩ := i
    unfold Ins.val at *
    unfold Ins.cells at HB HW HT
    dsimp only at *
    generalize hE : w.alloc (.cells (List.toArray [.int .i64 id, .int .i64 kind, .int .i64 dst, .int .i64 a, .int .i64 b, .int .i64 c, .int .i64 f, .int .i64 n, .int .i64 x0, .int .i64 x1, .int .i64 x2]) 40) = W at HB HW HT
    have hE' : w.alloc (.cells #[.int .i64 id, .int .i64 kind, .int .i64 dst, .int .i64 a, .int .i64 b, .int .i64 c, .int .i64 f, .int .i64 n, .int .i64 x0, .int .i64 x1, .int .i64 x2] 40) = W := hE
    clear hE
    obtain ⟨g, hg⟩ : ∃ g, w.heap.size = g := ⟨_, rfl⟩
    rw [hg] at HB
    have HG := Lib.hid (HB.out.lt (Nat.zero_lt_succ _))
    have k0 := (HB.out 0 _ rfl).1
    have k1 := (HB.out 1 _ rfl).1
    have k2 := (HB.out 2 _ rfl).1
    have k3 := (HB.out 3 _ rfl).1
    have k4 := (HB.out 4 _ rfl).1
    have k5 := (HB.out 5 _ rfl).1
    have k6 := (HB.out 6 _ rfl).1
    have k7 := (HB.out 7 _ rfl).1
    have k8 := (HB.out 8 _ rfl).1
    have k9 := (HB.out 9 _ rfl).1
    have k10 := (HB.out 10 _ rfl).1
    go_enter Tryz.func102, Tryz.ntmps102
    go_wp2_with (first | (go_at_call 129; refine (HI.out _).mono ?_; rintro e wa ⟨rfl, hba⟩; have HB2 := Lib.hid (HB.out.below hba HG.out); have HW2 := Lib.hid (HW.out.trans (hba.mono HW.out.size)); have HT2 := Lib.hid (HT.out.on hba); have HG2 := Lib.hid (Nat.lt_of_lt_of_le HG.out hba.size); clear HB HW HT HG hba k0 k1 k2 k3 k4 k5 k6 k7 k8 k9 k10; have k0 := (HB2.out 0 _ rfl).1; have k1 := (HB2.out 1 _ rfl).1; have k2 := (HB2.out 2 _ rfl).1; have k3 := (HB2.out 3 _ rfl).1; have k4 := (HB2.out 4 _ rfl).1; have k5 := (HB2.out 5 _ rfl).1; have k6 := (HB2.out 6 _ rfl).1; have k7 := (HB2.out 7 _ rfl).1; have k8 := (HB2.out 8 _ rfl).1; have k9 := (HB2.out 9 _ rfl).1; have k10 := (HB2.out 10 _ rfl).1))
    go_ret
    exact ⟨ret_bool HR.out.symm, HW2.out⟩
  rw [decide_eq_true hk] at HI
  by_cases hf : i.fits
  rotate_left
  · rw [decide_eq_false hf] at HF
    have HR : Hid (r = false) := by cases r with
      | false => rfl
      | true => exact absurd (HQ.out.1 rfl).2.1 hf
    clear HQ HL heq HEB HFN hk hf
    obtain ⟨id, kind, dst, a, b, c, f, n, x0, x1, x2⟩ := i
    unfold Ins.val at *
    unfold Ins.cells at HB HW HT
    dsimp only at *
    generalize hE : w.alloc (.cells (List.toArray [.int .i64 id, .int .i64 kind, .int .i64 dst, .int .i64 a, .int .i64 b, .int .i64 c, .int .i64 f, .int .i64 n, .int .i64 x0, .int .i64 x1, .int .i64 x2]) 40) = W at HB HW HT
    have hE' : w.alloc (.cells #[.int .i64 id, .int .i64 kind, .int .i64 dst, .int .i64 a, .int .i64 b, .int .i64 c, .int .i64 f, .int .i64 n, .int .i64 x0, .int .i64 x1, .int .i64 x2] 40) = W := hE
    clear hE
    obtain ⟨g, hg⟩ : ∃ g, w.heap.size = g := ⟨_, rfl⟩
    rw [hg] at HB
    have HG := Lib.hid (HB.out.lt (Nat.zero_lt_succ _))
    have k0 := (HB.out 0 _ rfl).1
    have k1 := (HB.out 1 _ rfl).1
    have k2 := (HB.out 2 _ rfl).1
    have k3 := (HB.out 3 _ rfl).1
    have k4 := (HB.out 4 _ rfl).1
    have k5 := (HB.out 5 _ rfl).1
    have k6 := (HB.out 6 _ rfl).1
    have k7 := (HB.out 7 _ rfl).1
    have k8 := (HB.out 8 _ rfl).1
    have k9 := (HB.out 9 _ rfl).1
    have k10 := (HB.out 10 _ rfl).1
    go_enter Tryz.func102, Tryz.ntmps102
    go_wp2_with (first | (go_at_call 129; refine (HI.out _).mono ?_; rintro e wa ⟨rfl, hba⟩; have HB2 := Lib.hid (HB.out.below hba HG.out); have HW2 := Lib.hid (HW.out.trans (hba.mono HW.out.size)); have HT2 := Lib.hid (HT.out.on hba); have HG2 := Lib.hid (Nat.lt_of_lt_of_le HG.out hba.size); clear HB HW HT HG hba k0 k1 k2 k3 k4 k5 k6 k7 k8 k9 k10; have k0 := (HB2.out 0 _ rfl).1; have k1 := (HB2.out 1 _ rfl).1; have k2 := (HB2.out 2 _ rfl).1; have k3 := (HB2.out 3 _ rfl).1; have k4 := (HB2.out 4 _ rfl).1; have k5 := (HB2.out 5 _ rfl).1; have k6 := (HB2.out 6 _ rfl).1; have k7 := (HB2.out 7 _ rfl).1; have k8 := (HB2.out 8 _ rfl).1; have k9 := (HB2.out 9 _ rfl).1; have k10 := (HB2.out 10 _ rfl).1) | (go_at_call 130; refine (HF.out _).mono ?_; rintro e wb ⟨rfl, hbb⟩; have HB3 := Lib.hid (HB2.out.below hbb HG2.out); have HW3 := Lib.hid (HW2.out.trans (hbb.mono HW2.out.size)); have HT3 := Lib.hid (HT2.out.on hbb); clear HB2 HW2 HT2 HG2 hbb k0 k1 k2 k3 k4 k5 k6 k7 k8 k9 k10; have k0 := (HB3.out 0 _ rfl).1; have k1 := (HB3.out 1 _ rfl).1; have k2 := (HB3.out 2 _ rfl).1; have k3 := (HB3.out 3 _ rfl).1; have k4 := (HB3.out 4 _ rfl).1; have k5 := (HB3.out 5 _ rfl).1; have k6 := (HB3.out 6 _ rfl).1; have k7 := (HB3.out 7 _ rfl).1; have k8 := (HB3.out 8 _ rfl).1; have k9 := (HB3.out 9 _ rfl).1; have k10 := (HB3.out 10 _ rfl).1))
    go_ret
    exact ⟨ret_bool HR.out.symm, HW3.out⟩
  · rw [decide_eq_true hf] at HF
    have HR : Hid (eb = r) := by
      rw [Bool.eq_iff_iff, HEB.out, HQ.out]
      exact ⟨fun h => ⟨hk, hf, h⟩, fun h => h.2.2⟩
    have HN := Lib.hid (HFN.out hf)
    have HK := Lib.hid hk
    clear HQ HEB HFN hk hf
    have hbd : ∀ W : World, (Instr.build 40 #[]).run Tryz.prog W = .ok (.agg #[.int .i64 0, .int .i64 0, .int .i64 0, .int .i64 0, .int .i64 0, .int .i64 0, .int .i64 0, .int .i64 0, .int .i64 0, .int .i64 0, .int .i64 0]) W := fun W => by kernel_rfl
    generalize i.left = l at *
    obtain ⟨lid, lkind, ldst, la, lb, lc, lf, ln, lx0, lx1, lx2⟩ := l
    obtain ⟨id, kind, dst, a, b, c, f, n, x0, x1, x2⟩ := i
    unfold Ins.val at *
    unfold Ins.cells at HB HW HT
    dsimp only at *
    generalize hE : w.alloc (.cells (List.toArray [.int .i64 id, .int .i64 kind, .int .i64 dst, .int .i64 a, .int .i64 b, .int .i64 c, .int .i64 f, .int .i64 n, .int .i64 x0, .int .i64 x1, .int .i64 x2]) 40) = W at HB HW HT
    have hE' : w.alloc (.cells #[.int .i64 id, .int .i64 kind, .int .i64 dst, .int .i64 a, .int .i64 b, .int .i64 c, .int .i64 f, .int .i64 n, .int .i64 x0, .int .i64 x1, .int .i64 x2] 40) = W := hE
    clear hE
    obtain ⟨g, hg⟩ : ∃ g, w.heap.size = g := ⟨_, rfl⟩
    rw [hg] at HB
    have HG := Lib.hid (HB.out.lt (Nat.zero_lt_succ _))
    have k0 := (HB.out 0 _ rfl).1
    have k1 := (HB.out 1 _ rfl).1
    have k2 := (HB.out 2 _ rfl).1
    have k3 := (HB.out 3 _ rfl).1
    have k4 := (HB.out 4 _ rfl).1
    have k5 := (HB.out 5 _ rfl).1
    have k6 := (HB.out 6 _ rfl).1
    have k7 := (HB.out 7 _ rfl).1
    have k8 := (HB.out 8 _ rfl).1
    have k9 := (HB.out 9 _ rfl).1
    have k10 := (HB.out 10 _ rfl).1
    go_enter Tryz.func102, Tryz.ntmps102
    go_wp2_with (first | (go_at_call 129; refine (HI.out _).mono ?_; rintro e wa ⟨rfl, hba⟩; have HB2 := Lib.hid (HB.out.below hba HG.out); have HW2 := Lib.hid (HW.out.trans (hba.mono HW.out.size)); have HT2 := Lib.hid (HT.out.on hba); have HG2 := Lib.hid (Nat.lt_of_lt_of_le HG.out hba.size); clear HB HW HT HG hba k0 k1 k2 k3 k4 k5 k6 k7 k8 k9 k10; have k0 := (HB2.out 0 _ rfl).1; have k1 := (HB2.out 1 _ rfl).1; have k2 := (HB2.out 2 _ rfl).1; have k3 := (HB2.out 3 _ rfl).1; have k4 := (HB2.out 4 _ rfl).1; have k5 := (HB2.out 5 _ rfl).1; have k6 := (HB2.out 6 _ rfl).1; have k7 := (HB2.out 7 _ rfl).1; have k8 := (HB2.out 8 _ rfl).1; have k9 := (HB2.out 9 _ rfl).1; have k10 := (HB2.out 10 _ rfl).1) | (go_at_call 130; refine (HF.out _).mono ?_; rintro e wb ⟨rfl, hbb⟩; have HB3 := Lib.hid (HB2.out.below hbb HG2.out); have HW3 := Lib.hid (HW2.out.trans (hbb.mono HW2.out.size)); have HT3 := Lib.hid (HT2.out.on hbb); clear HB2 HW2 HT2 HG2 hbb k0 k1 k2 k3 k4 k5 k6 k7 k8 k9 k10; have k0 := (HB3.out 0 _ rfl).1; have k1 := (HB3.out 1 _ rfl).1; have k2 := (HB3.out 2 _ rfl).1; have k3 := (HB3.out 3 _ rfl).1; have k4 := (HB3.out 4 _ rfl).1; have k5 := (HB3.out 5 _ rfl).1; have k6 := (HB3.out 6 _ rfl).1; have k7 := (HB3.out 7 _ rfl).1; have k8 := (HB3.out 8 _ rfl).1; have k9 := (HB3.out 9 _ rfl).1; have k10 := (HB3.out 10 _ rfl).1) | (go_at_call 131; refine (HL.out _ HT3.out HK.out HN.out).mono ?_; rintro e wc ⟨rfl, hbc⟩; have HW4 := Lib.hid (HW3.out.trans (hbc.mono HW3.out.size)); clear HW3 hbc))
    go_ret
    exact ⟨ret_bool HR.out, HW4.out⟩
end Go.Proofs.YtbddjneinfkmpaaGreatDoor
