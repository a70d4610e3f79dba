/- The document's answer for layer 5: Def, add, Uses. -/
import Derived.Test.YtmcbedlmgffckaaGreatDoorRfB
import Derived.Test.YtmcbedlmgffckaaGreatDoorInsF2
namespace Go.Proofs.YtmcbedlmgffckaaGreatDoor.Bi
open Go Go.RowKit Go.Sort

set_option maxRecDepth 100000 in
set_option maxHeartbeats 8000000 in
theorem rDef_any (i : Ins) (w : World) (d : Int) (hd : i.defn = d) :
    Calls Tryz.prog 22 #[i.val] w fun e w' => e = .returned (.int .i64 d) ∧ Below w.heap.size w w' := by
  have HW := Lib.hid (below1 w (.cells i.cells.toArray 30))
  have HB := Lib.hid (BoxL.new w i.cells 30)
  have HF := Lib.hid (fun W r h => rForm_any i W r h)
  have HH := Lib.hid (fun W => rhasDst_any i.kind W)
  have HDD : Hid (d = if decide i.form = true ∧ Go.Proofs.YtmcbedlmgffckaaGreatDoor.hasDst i.kind = true then i.dst else -1) := by
    show _ = _
    rw [← hd]
    unfold Ins.defn
    simp only [decide_eq_true_eq]
  clear hd
  obtain ⟨fb, hfb⟩ : ∃ fb, decide i.form = fb := ⟨_, rfl⟩
  rw [hfb] at HDD
  have HFb := Lib.hid (fun W => HF.out W fb hfb)
  clear hfb HF
  generalize Go.Proofs.YtmcbedlmgffckaaGreatDoor.hasDst i.kind = hb at *
  obtain ⟨id, kind, dst, a, b, c, f, n, x0, x1, x2⟩ := i
  unfold Ins.val at *
  unfold Ins.cells at HB HW
  dsimp only at *
  generalize hE : w.alloc (.cells (List.toArray [.int .i64 id, .int .i64 kind, .int .i64 dst, .int .i64 a, .int .i64 b, .int .i64 c, .int .i64 f, .int .i64 n, .int .i64 x0, .int .i64 x1, .int .i64 x2]) 30) = W at HB HW
  have hE' : w.alloc (.cells #[.int .i64 id, .int .i64 kind, .int .i64 dst, .int .i64 a, .int .i64 b, .int .i64 c, .int .i64 f, .int .i64 n, .int .i64 x0, .int .i64 x1, .int .i64 x2] 30) = W := hE
  clear hE
  obtain ⟨g, hg⟩ : ∃ g, w.heap.size = g := ⟨_, rfl⟩
  rw [hg] at HB
  have HG := Lib.hid (HB.out.lt (Nat.zero_lt_succ _))
  have k0 := (HB.out 0 _ rfl).1
  have k1 := (HB.out 1 _ rfl).1
  have k2 := (HB.out 2 _ rfl).1
  have k3 := (HB.out 3 _ rfl).1
  have k4 := (HB.out 4 _ rfl).1
  have k5 := (HB.out 5 _ rfl).1
  have k6 := (HB.out 6 _ rfl).1
  have k7 := (HB.out 7 _ rfl).1
  have k8 := (HB.out 8 _ rfl).1
  have k9 := (HB.out 9 _ rfl).1
  have k10 := (HB.out 10 _ rfl).1
  cases fb with
  | false =>
    go_enter Tryz.func22, Tryz.ntmps22
    go_wp2_with (first | (go_at_call 43; refine (HFb.out _).mono ?_; rintro e wa ⟨rfl, hba⟩; have HB2 := Lib.hid (HB.out.below hba HG.out); have HW2 := Lib.hid (HW.out.trans (hba.mono HW.out.size)); clear HB HW HG hba k0 k1 k2 k3 k4 k5 k6 k7 k8 k9 k10; have k0 := (HB2.out 0 _ rfl).1; have k1 := (HB2.out 1 _ rfl).1; have k2 := (HB2.out 2 _ rfl).1; have k3 := (HB2.out 3 _ rfl).1; have k4 := (HB2.out 4 _ rfl).1; have k5 := (HB2.out 5 _ rfl).1; have k6 := (HB2.out 6 _ rfl).1; have k7 := (HB2.out 7 _ rfl).1; have k8 := (HB2.out 8 _ rfl).1; have k9 := (HB2.out 9 _ rfl).1; have k10 := (HB2.out 10 _ rfl).1))
    go_ret
    exact ⟨ret_int (by rw [HDD.out]; simp), HW2.out⟩
  | true =>
    cases hb with
    | false =>
      go_enter Tryz.func22, Tryz.ntmps22
      go_wp2_with (first | (go_at_call 43; refine (HFb.out _).mono ?_; rintro e wa ⟨rfl, hba⟩; have HB2 := Lib.hid (HB.out.below hba HG.out); have HW2 := Lib.hid (HW.out.trans (hba.mono HW.out.size)); clear HB HW HG hba k0 k1 k2 k3 k4 k5 k6 k7 k8 k9 k10; have k0 := (HB2.out 0 _ rfl).1; have k1 := (HB2.out 1 _ rfl).1; have k2 := (HB2.out 2 _ rfl).1; have k3 := (HB2.out 3 _ rfl).1; have k4 := (HB2.out 4 _ rfl).1; have k5 := (HB2.out 5 _ rfl).1; have k6 := (HB2.out 6 _ rfl).1; have k7 := (HB2.out 7 _ rfl).1; have k8 := (HB2.out 8 _ rfl).1; have k9 := (HB2.out 9 _ rfl).1; have k10 := (HB2.out 10 _ rfl).1) | (go_at_call 44; refine (HH.out _).mono ?_; rintro e wb ⟨rfl, hbb⟩; have HB3 := Lib.hid (HB2.out.below hbb (HB2.out.lt (Nat.zero_lt_succ _))); have HW3 := Lib.hid (HW2.out.trans (hbb.mono HW2.out.size)); clear HB2 HW2 hbb k0 k1 k2 k3 k4 k5 k6 k7 k8 k9 k10; have k0 := (HB3.out 0 _ rfl).1; have k1 := (HB3.out 1 _ rfl).1; have k2 := (HB3.out 2 _ rfl).1; have k3 := (HB3.out 3 _ rfl).1; have k4 := (HB3.out 4 _ rfl).1; have k5 := (HB3.out 5 _ rfl).1; have k6 := (HB3.out 6 _ rfl).1; have k7 := (HB3.out 7 _ rfl).1; have k8 := (HB3.out 8 _ rfl).1; have k9 := (HB3.out 9 _ rfl).1; have k10 := (HB3.out 10 _ rfl).1))
      go_ret
      exact ⟨ret_int (by rw [HDD.out]; simp), HW3.out⟩
    | true =>
      go_enter Tryz.func22, Tryz.ntmps22
      go_wp2_with (first | (go_at_call 43; refine (HFb.out _).mono ?_; rintro e wa ⟨rfl, hba⟩; have HB2 := Lib.hid (HB.out.below hba HG.out); have HW2 := Lib.hid (HW.out.trans (hba.mono HW.out.size)); clear HB HW HG hba k0 k1 k2 k3 k4 k5 k6 k7 k8 k9 k10; have k0 := (HB2.out 0 _ rfl).1; have k1 := (HB2.out 1 _ rfl).1; have k2 := (HB2.out 2 _ rfl).1; have k3 := (HB2.out 3 _ rfl).1; have k4 := (HB2.out 4 _ rfl).1; have k5 := (HB2.out 5 _ rfl).1; have k6 := (HB2.out 6 _ rfl).1; have k7 := (HB2.out 7 _ rfl).1; have k8 := (HB2.out 8 _ rfl).1; have k9 := (HB2.out 9 _ rfl).1; have k10 := (HB2.out 10 _ rfl).1) | (go_at_call 44; refine (HH.out _).mono ?_; rintro e wb ⟨rfl, hbb⟩; have HB3 := Lib.hid (HB2.out.below hbb (HB2.out.lt (Nat.zero_lt_succ _))); have HW3 := Lib.hid (HW2.out.trans (hbb.mono HW2.out.size)); clear HB2 HW2 hbb k0 k1 k2 k3 k4 k5 k6 k7 k8 k9 k10; have k0 := (HB3.out 0 _ rfl).1; have k1 := (HB3.out 1 _ rfl).1; have k2 := (HB3.out 2 _ rfl).1; have k3 := (HB3.out 3 _ rfl).1; have k4 := (HB3.out 4 _ rfl).1; have k5 := (HB3.out 5 _ rfl).1; have k6 := (HB3.out 6 _ rfl).1; have k7 := (HB3.out 7 _ rfl).1; have k8 := (HB3.out 8 _ rfl).1; have k9 := (HB3.out 9 _ rfl).1; have k10 := (HB3.out 10 _ rfl).1))
      go_ret
      exact ⟨ret_int (by rw [HDD.out]; simp), HW3.out⟩

end Go.Proofs.YtmcbedlmgffckaaGreatDoor.Bi