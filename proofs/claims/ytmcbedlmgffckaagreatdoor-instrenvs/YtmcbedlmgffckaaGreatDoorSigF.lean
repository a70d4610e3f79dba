import Derived.Test.YtmcbedlmgffckaaGreatDoorSigE
import Derived.Test.YtmcbedlmgffckaaGreatDoorFlaG
namespace Go.Proofs.YtmcbedlmgffckaaGreatDoor
open Go Go.RowKit Go.Sort

/-- Signs of a value. -/
def fromV (v : V) : Nat := if v.sn.k = 2 then 7 else if v.sn.k = 0 then 0 else sg v.sn.c
theorem fromV_lt (v : V) : fromV v < 8 := by
  unfold fromV
  split
  · decide
  · split
    · decide
    · exact sg_lt _

set_option maxHeartbeats 1000000 in
theorem hAdd_any (a b : Int) (w : World) :
    Calls Tryz.prog 67 #[.int .i64 a, .int .i64 b] w fun e w' => e = .returned (.int .i64 (addN (sS a) (sS b) : Nat)) ∧ Below w.heap.size w w' := by
  have HA := Lib.hid (fun W => pairs_add a b W)
  have HBN : Hid (Below w.heap.size w w) := Below.refl _ _
  go_enter Tryz.func67, Tryz.ntmps67
  go_wp2_with (go_at_call 96; refine (HA.out _).mono ?_; rintro e wn ⟨rfl, hbn⟩; have hbx := HBN.out.trans (hbn.mono HBN.out.size); clear HBN hbn; have HBN := Lib.hid hbx; clear hbx)
  go_ret
  exact ⟨rfl, HBN.out⟩

set_option maxHeartbeats 1000000 in
theorem hMul_any (a b : Int) (w : World) :
    Calls Tryz.prog 69 #[.int .i64 a, .int .i64 b] w fun e w' => e = .returned (.int .i64 (mulN (sS a) (sS b) : Nat)) ∧ Below w.heap.size w w' := by
  have HA := Lib.hid (fun W => pairs_mul a b W)
  have HBN : Hid (Below w.heap.size w w) := Below.refl _ _
  go_enter Tryz.func69, Tryz.ntmps69
  go_wp2_with (go_at_call 96; refine (HA.out _).mono ?_; rintro e wn ⟨rfl, hbn⟩; have hbx := HBN.out.trans (hbn.mono HBN.out.size); clear HBN hbn; have HBN := Lib.hid hbx; clear hbx)
  go_ret
  exact ⟨rfl, HBN.out⟩

set_option maxHeartbeats 1000000 in
theorem hSub_any (a b : Int) (w : World) :
    Calls Tryz.prog 68 #[.int .i64 a, .int .i64 b] w fun e w' => e = .returned (.int .i64 (subN (sS a) (sS b) : Nat)) ∧ Below w.heap.size w w' := by
  have HA := Lib.hid (fun W => hNeg_any b W)
  have HB : Hid (∀ W, Calls Tryz.prog 96 #[.int .i64 a, .int .i64 (negN (sS b) : Nat), .bool false] W fun e w' => e = .returned (.int .i64 (subN (sS a) (sS b) : Nat)) ∧ Below W.heap.size W w') := fun W => by
    have h := pairs_add a (negN (sS b) : Nat) W
    rw [sS_of (negN_lt (sS_lt b))] at h
    exact h
  have HBN : Hid (Below w.heap.size w w) := Below.refl _ _
  generalize negN (sS b) = z at *
  generalize subN (sS a) (sS b) = r at *
  go_enter Tryz.func68, Tryz.ntmps68
  go_wp2_with (first
    | (go_at_call 66; refine (HA.out _).mono ?_; rintro e wn ⟨rfl, hbn⟩; have hbx := HBN.out.trans (hbn.mono HBN.out.size); clear HBN hbn; have HBN := Lib.hid hbx; clear hbx)
    | (go_at_call 96; refine (HB.out _).mono ?_; rintro e wn ⟨rfl, hbn⟩; have hbx := HBN.out.trans (hbn.mono HBN.out.size); clear HBN hbn; have HBN := Lib.hid hbx; clear hbx))
  go_ret
  exact ⟨rfl, HBN.out⟩





end Go.Proofs.YtmcbedlmgffckaaGreatDoor