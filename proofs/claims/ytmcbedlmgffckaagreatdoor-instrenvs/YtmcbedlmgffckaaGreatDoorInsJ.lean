/- The document's example for layer 5. -/
import Derived.Test.YtmcbedlmgffckaaGreatDoorInsI
namespace Go.Proofs.YtmcbedlmgffckaaGreatDoor.Bi
open Go Go.RowKit Go.Sort

def exI : Ins := ⟨0, 3, 0, 1, 1, 0, 0, 0, 0, 0, 0⟩

set_option maxRecDepth 100000 in
set_option maxHeartbeats 8000000 in
theorem awake5_any (w : World) (hT : KTab w) :
    Calls Tryz.prog 4 #[] w fun e w' => e = .returned (.bool true) ∧ Below w.heap.size w w' := by
  have HF := Lib.hid (fun W (h : KTab W) => Form_any exI W h true (by decide))
  have HD := Lib.hid (fun W (h : KTab W) => Def_any exI W h 0 (by decide))
  have HU := Lib.hid (fun W (h : KTab W) => Uses_any exI W h)
  have hus : exI.uses = [1] := by decide
  rw [hus] at HU
  have HN := Lib.hid (fun W (h : KTab W) => Name_any 3 W h)
  have hnm : nameB 3 = ⟨#[97, 100, 100]⟩ := by kernel_rfl
  rw [hnm] at HN
  have HW := Lib.hid (below1 w (.cells exI.cells.toArray 30))
  have HB := Lib.hid (BoxL.new w exI.cells 30)
  have HT := Lib.hid hT
  clear hT hus hnm
  unfold exI at *
  unfold Ins.val at *
  unfold Ins.cells at *
  dsimp only at *
  have hbd : ∀ W : World, (Instr.build 30 #[(1, .int .i64 3), (3, .int .i64 1), (4, .int .i64 1)]).run Tryz.prog W = .ok (.agg #[.int .i64 0, .int .i64 3, .int .i64 0, .int .i64 1, .int .i64 1, .int .i64 0, .int .i64 0, .int .i64 0, .int .i64 0, .int .i64 0, .int .i64 0]) W := fun W => by kernel_rfl
  go_enter Tryz.func4, Tryz.ntmps4
  go_wp2_with fail
  generalize w.alloc (.cells #[.int .i64 0, .int .i64 3, .int .i64 0, .int .i64 1, .int .i64 1, .int .i64 0, .int .i64 0, .int .i64 0, .int .i64 0, .int .i64 0, .int .i64 0] 30) = W at *
  generalize w.heap.size = g at HB ⊢
  have k0 := (HB.out 0 _ rfl).1
  have k1 := (HB.out 1 _ rfl).1
  have k2 := (HB.out 2 _ rfl).1
  have k3 := (HB.out 3 _ rfl).1
  have k4 := (HB.out 4 _ rfl).1
  have k5 := (HB.out 5 _ rfl).1
  have k6 := (HB.out 6 _ rfl).1
  have k7 := (HB.out 7 _ rfl).1
  have k8 := (HB.out 8 _ rfl).1
  have k9 := (HB.out 9 _ rfl).1
  have k10 := (HB.out 10 _ rfl).1
  go_wp2_with (first | (go_at_call 15; refine (HF.out _ (HT.out.on HW.out)).mono ?_; rintro e wn ⟨rfl, hbn⟩; have HB2 := Lib.hid (HB.out.below hbn (HB.out.lt (Nat.zero_lt_succ _))); have HW2 := Lib.hid (HW.out.trans (hbn.mono HW.out.size)); clear HB HW hbn k0 k1 k2 k3 k4 k5 k6 k7 k8 k9 k10; have HB := HB2; have HW := HW2; clear HB2 HW2; have k0 := (HB.out 0 _ rfl).1; have k1 := (HB.out 1 _ rfl).1; have k2 := (HB.out 2 _ rfl).1; have k3 := (HB.out 3 _ rfl).1; have k4 := (HB.out 4 _ rfl).1; have k5 := (HB.out 5 _ rfl).1; have k6 := (HB.out 6 _ rfl).1; have k7 := (HB.out 7 _ rfl).1; have k8 := (HB.out 8 _ rfl).1; have k9 := (HB.out 9 _ rfl).1; have k10 := (HB.out 10 _ rfl).1) | (go_at_call 16; refine (HD.out _ (HT.out.on HW.out)).mono ?_; rintro e wn ⟨rfl, hbn⟩; have HB2 := Lib.hid (HB.out.below hbn (HB.out.lt (Nat.zero_lt_succ _))); have HW2 := Lib.hid (HW.out.trans (hbn.mono HW.out.size)); clear HB HW hbn k0 k1 k2 k3 k4 k5 k6 k7 k8 k9 k10; have HB := HB2; have HW := HW2; clear HB2 HW2; have k0 := (HB.out 0 _ rfl).1; have k1 := (HB.out 1 _ rfl).1; have k2 := (HB.out 2 _ rfl).1; have k3 := (HB.out 3 _ rfl).1; have k4 := (HB.out 4 _ rfl).1; have k5 := (HB.out 5 _ rfl).1; have k6 := (HB.out 6 _ rfl).1; have k7 := (HB.out 7 _ rfl).1; have k8 := (HB.out 8 _ rfl).1; have k9 := (HB.out 9 _ rfl).1; have k10 := (HB.out 10 _ rfl).1) | (go_at_call 18; refine (HU.out _ (HT.out.on HW.out)).mono ?_; rintro e wu ⟨u, rfl, hou, hbn⟩; obtain ⟨au, cu, rfl, hlu, hIu⟩ := is_of_ints hou; have HIu := Lib.hid hIu; clear hou hIu hlu; have HB2 := Lib.hid (HB.out.below hbn (HB.out.lt (Nat.zero_lt_succ _))); have HW2 := Lib.hid (HW.out.trans (hbn.mono HW.out.size)); clear HB HW hbn k0 k1 k2 k3 k4 k5 k6 k7 k8 k9 k10; have HB := HB2; have HW := HW2; clear HB2 HW2; have k0 := (HB.out 0 _ rfl).1; have k1 := (HB.out 1 _ rfl).1; have k2 := (HB.out 2 _ rfl).1; have k3 := (HB.out 3 _ rfl).1; have k4 := (HB.out 4 _ rfl).1; have k5 := (HB.out 5 _ rfl).1; have k6 := (HB.out 6 _ rfl).1; have k7 := (HB.out 7 _ rfl).1; have k8 := (HB.out 8 _ rfl).1; have k9 := (HB.out 9 _ rfl).1; have k10 := (HB.out 10 _ rfl).1))
  have hal := below1 wu (.cells #[.int .i64 1] 3)
  have hI2 : Is (wu.alloc (.cells #[.int .i64 1] 3)).heap.size (wu.alloc (.cells #[.int .i64 1] 3)) (some ⟨wu.heap.size, 0, none⟩) [1] := fun j hj => ⟨wu.heap.size, 0, rfl, by simp, by obtain rfl : j = 0 := (by simpa using hj); simp⟩
  have hin := Ints_ref au (some ⟨wu.heap.size, 0, none⟩) [1] [1] cu 1 _ ((HIu.out.below hal).mono hal.size) hI2 (by decide)
  rw [decide_eq_true (rfl : ([1] : List Int) = [1])] at hin
  refine hin.mono ?_
  have HW5 := Lib.hid (HW.out.trans (hal.mono HW.out.size))
  clear hin hI2 hal HB HW k0 k1 k2 k3 k4 k5 k6 k7 k8 k9 k10
  rintro e w4 ⟨rfl, hb4⟩
  have HW6 := Lib.hid (HW5.out.trans (hb4.mono HW5.out.size))
  clear hb4 HW5
  go_wp2_with (go_at_call 19; refine (HN.out _ (HT.out.on HW6.out)).mono ?_; rintro e w7 ⟨rfl, hb7⟩; have HW7 := Lib.hid (HW6.out.trans (hb7.mono HW6.out.size)); clear hb7)
  go_ret
  exact ⟨rfl, HW7.out⟩
end Go.Proofs.YtmcbedlmgffckaaGreatDoor.Bi
