import Derived.Test.YtkcgbdggipijlaaDoorSigF
import Derived.Test.YtkcgbdggipijlaaDoorSigN
namespace Go.Proofs.YtkcgbdggipijlaaDoor
open Go Go.RowKit Go.Sort

set_option maxRecDepth 100000 in
set_option maxHeartbeats 8000000 in
theorem rises_law (a b c : Int) (w : World) (hT : Tabs w) :
    Calls Tryd.prog 5 #[.int .i64 a, .int .i64 b, .int .i64 c] w fun e w' => e = .returned (.bool true) ∧ Below w.heap.size w w' := by
  have FJ : Hid (∀ W, Tabs W → Calls Tryd.prog 14 #[.int .i64 a, .int .i64 b] W fun e w' => e = .returned (.int .i64 ((sS a ||| sS b) : Nat)) ∧ Below W.heap.size W w') := fun W hT => gJoin_any a b W
  have F0 : Hid (∀ W, Tabs W → Calls Tryd.prog 16 #[.int .i64 a, .int .i64 ((sS a ||| sS b) : Nat)] W fun e w' => e = .returned (.bool true) ∧ Below W.heap.size W w') := fun W hT => by have h := gLeq_any a ((sS a ||| sS b) : Nat) W; rw [sS_of (or_lt (sS_lt a) (sS_lt b)), leq_or1 (sS_lt a) (sS_lt b)] at h; exact h
  have F1 : Hid (∀ W, Tabs W → Calls Tryd.prog 16 #[.int .i64 b, .int .i64 ((sS a ||| sS b) : Nat)] W fun e w' => e = .returned (.bool true) ∧ Below W.heap.size W w') := fun W hT => by have h := gLeq_any b ((sS a ||| sS b) : Nat) W; rw [sS_of (or_lt (sS_lt a) (sS_lt b)), leq_or2 (sS_lt a) (sS_lt b)] at h; exact h
  have F2 : Hid (∀ W, Tabs W → Calls Tryd.prog 25 #[.int .i64 ((sS a ||| sS b) : Nat), .int .i64 c] W fun e w' => e = .returned (.int .i64 (addN (sS a ||| sS b) (sS c) : Nat)) ∧ Below W.heap.size W w') := fun W hT => by have h := gAdd_any ((sS a ||| sS b) : Nat) c W hT; rw [sS_of (or_lt (sS_lt a) (sS_lt b))] at h; exact h
  have F3 : Hid (∀ W, Tabs W → Calls Tryd.prog 25 #[.int .i64 a, .int .i64 c] W fun e w' => e = .returned (.int .i64 (addN (sS a) (sS c) : Nat)) ∧ Below W.heap.size W w') := fun W hT => gAdd_any a c W hT
  have F4 : Hid (∀ W, Tabs W → Calls Tryd.prog 25 #[.int .i64 b, .int .i64 c] W fun e w' => e = .returned (.int .i64 (addN (sS b) (sS c) : Nat)) ∧ Below W.heap.size W w') := fun W hT => gAdd_any b c W hT
  have F5 : Hid (∀ W, Tabs W → Calls Tryd.prog 14 #[.int .i64 (addN (sS a) (sS c) : Nat), .int .i64 (addN (sS b) (sS c) : Nat)] W fun e w' => e = .returned (.int .i64 (addN (sS a ||| sS b) (sS c) : Nat)) ∧ Below W.heap.size W w') := fun W hT => by have h := gJoin_any (addN (sS a) (sS c) : Nat) (addN (sS b) (sS c) : Nat) W; rw [sS_of (addN_lt (sS_lt a) (sS_lt c)), sS_of (addN_lt (sS_lt b) (sS_lt c)), add_or (sS_lt a) (sS_lt b) (sS_lt c)] at h; exact h
  have F6 : Hid (∀ W, Tabs W → Calls Tryd.prog 29 #[.int .i64 ((sS a ||| sS b) : Nat), .int .i64 c] W fun e w' => e = .returned (.int .i64 (mulN (sS a ||| sS b) (sS c) : Nat)) ∧ Below W.heap.size W w') := fun W hT => by have h := gMul_any ((sS a ||| sS b) : Nat) c W hT; rw [sS_of (or_lt (sS_lt a) (sS_lt b))] at h; exact h
  have F7 : Hid (∀ W, Tabs W → Calls Tryd.prog 29 #[.int .i64 a, .int .i64 c] W fun e w' => e = .returned (.int .i64 (mulN (sS a) (sS c) : Nat)) ∧ Below W.heap.size W w') := fun W hT => gMul_any a c W hT
  have F8 : Hid (∀ W, Tabs W → Calls Tryd.prog 29 #[.int .i64 b, .int .i64 c] W fun e w' => e = .returned (.int .i64 (mulN (sS b) (sS c) : Nat)) ∧ Below W.heap.size W w') := fun W hT => gMul_any b c W hT
  have F9 : Hid (∀ W, Tabs W → Calls Tryd.prog 14 #[.int .i64 (mulN (sS a) (sS c) : Nat), .int .i64 (mulN (sS b) (sS c) : Nat)] W fun e w' => e = .returned (.int .i64 (mulN (sS a ||| sS b) (sS c) : Nat)) ∧ Below W.heap.size W w') := fun W hT => by have h := gJoin_any (mulN (sS a) (sS c) : Nat) (mulN (sS b) (sS c) : Nat) W; rw [sS_of (mulN_lt (sS_lt a) (sS_lt c)), sS_of (mulN_lt (sS_lt b) (sS_lt c)), mul_or (sS_lt a) (sS_lt b) (sS_lt c)] at h; exact h
  have F10 : Hid (∀ W, Tabs W → Calls Tryd.prog 27 #[.int .i64 ((sS a ||| sS b) : Nat), .int .i64 c] W fun e w' => e = .returned (.int .i64 (subN (sS a ||| sS b) (sS c) : Nat)) ∧ Below W.heap.size W w') := fun W hT => by have h := gSub_any ((sS a ||| sS b) : Nat) c W hT; rw [sS_of (or_lt (sS_lt a) (sS_lt b))] at h; exact h
  have F11 : Hid (∀ W, Tabs W → Calls Tryd.prog 27 #[.int .i64 a, .int .i64 c] W fun e w' => e = .returned (.int .i64 (subN (sS a) (sS c) : Nat)) ∧ Below W.heap.size W w') := fun W hT => gSub_any a c W hT
  have F12 : Hid (∀ W, Tabs W → Calls Tryd.prog 27 #[.int .i64 b, .int .i64 c] W fun e w' => e = .returned (.int .i64 (subN (sS b) (sS c) : Nat)) ∧ Below W.heap.size W w') := fun W hT => gSub_any b c W hT
  have F13 : Hid (∀ W, Tabs W → Calls Tryd.prog 14 #[.int .i64 (subN (sS a) (sS c) : Nat), .int .i64 (subN (sS b) (sS c) : Nat)] W fun e w' => e = .returned (.int .i64 (subN (sS a ||| sS b) (sS c) : Nat)) ∧ Below W.heap.size W w') := fun W hT => by have h := gJoin_any (subN (sS a) (sS c) : Nat) (subN (sS b) (sS c) : Nat) W; rw [sS_of (subN_lt (sS_lt a) (sS_lt c)), sS_of (subN_lt (sS_lt b) (sS_lt c)), sub_or (sS_lt a) (sS_lt b) (sS_lt c)] at h; exact h
  have F14 : Hid (∀ W, Tabs W → Calls Tryd.prog 23 #[.int .i64 ((sS a ||| sS b) : Nat)] W fun e w' => e = .returned (.int .i64 (negN (sS a ||| sS b) : Nat)) ∧ Below W.heap.size W w') := fun W hT => by have h := gNeg_any ((sS a ||| sS b) : Nat) W hT; rw [sS_of (or_lt (sS_lt a) (sS_lt b))] at h; exact h
  have F15 : Hid (∀ W, Tabs W → Calls Tryd.prog 23 #[.int .i64 a] W fun e w' => e = .returned (.int .i64 (negN (sS a) : Nat)) ∧ Below W.heap.size W w') := fun W hT => gNeg_any a W hT
  have F16 : Hid (∀ W, Tabs W → Calls Tryd.prog 23 #[.int .i64 b] W fun e w' => e = .returned (.int .i64 (negN (sS b) : Nat)) ∧ Below W.heap.size W w') := fun W hT => gNeg_any b W hT
  have F17 : Hid (∀ W, Tabs W → Calls Tryd.prog 14 #[.int .i64 (negN (sS a) : Nat), .int .i64 (negN (sS b) : Nat)] W fun e w' => e = .returned (.int .i64 (negN (sS a ||| sS b) : Nat)) ∧ Below W.heap.size W w') := fun W hT => by have h := gJoin_any (negN (sS a) : Nat) (negN (sS b) : Nat) W; rw [sS_of (negN_lt (sS_lt a)), sS_of (negN_lt (sS_lt b)), neg_or (sS_lt a) (sS_lt b)] at h; exact h
  have F18 : Hid (∀ W, Tabs W → Calls Tryd.prog 25 #[.int .i64 c, .int .i64 a] W fun e w' => e = .returned (.int .i64 (addN (sS a) (sS c) : Nat)) ∧ Below W.heap.size W w') := fun W hT => by have h := gAdd_any c a W hT; rw [add_commN (sS_lt c) (sS_lt a)] at h; exact h
  have F19 : Hid (∀ W, Tabs W → Calls Tryd.prog 29 #[.int .i64 c, .int .i64 a] W fun e w' => e = .returned (.int .i64 (mulN (sS a) (sS c) : Nat)) ∧ Below W.heap.size W w') := fun W hT => by have h := gMul_any c a W hT; rw [mul_commN (sS_lt c) (sS_lt a)] at h; exact h
  have F20 : Hid (∀ W, Tabs W → Calls Tryd.prog 21 #[.int .i64 ((sS a ||| sS b) : Nat)] W fun e w' => e = .returned (.int .i64 ((lst (sS a ||| sS b)).length : Nat)) ∧ Below W.heap.size W w') := fun W hT => by have h := gHeight_any ((sS a ||| sS b) : Nat) W; rw [sS_of (or_lt (sS_lt a) (sS_lt b))] at h; exact h
  have hlen := lst_len (sS a ||| sS b)
  generalize (lst (sS a ||| sS b)).length = hl at *
  generalize addN (sS a ||| sS b) (sS c) = r0 at *
  generalize addN (sS a) (sS c) = r1 at *
  generalize addN (sS b) (sS c) = r2 at *
  generalize mulN (sS a ||| sS b) (sS c) = r3 at *
  generalize mulN (sS a) (sS c) = r4 at *
  generalize mulN (sS b) (sS c) = r5 at *
  generalize subN (sS a ||| sS b) (sS c) = r6 at *
  generalize subN (sS a) (sS c) = r7 at *
  generalize subN (sS b) (sS c) = r8 at *
  generalize negN (sS a ||| sS b) = r9 at *
  generalize negN (sS a) = r10 at *
  generalize negN (sS b) = r11 at *
  generalize (sS a ||| sS b) = u at *
  have HT := Lib.hid hT
  have HBN : Hid (Below w.heap.size w w) := Below.refl _ _
  have HAW := Lib.hid gawake_any
  clear hT
  have hle : ((hl : Int) ≤ 3) := by omega
  have hled : decide ((hl : Int) ≤ 3) = true := decide_eq_true hle
  clear hlen
  go_enter Tryd.func5, Tryd.ntmps5
  go_wp2_with fail
  refine (HAW.out _ HT.out).mono ?_
  rintro e w1 ⟨rfl, hb⟩
  have TT := HT.out.on hb; clear HT; have HT := Lib.hid TT; clear TT
  have TT := HBN.out.trans (hb.mono HBN.out.size); clear HBN; have HBN := Lib.hid TT; clear TT hb
  go_wp2_with fail
  refine (FJ.out _ HT.out).mono ?_
  rintro e w2 ⟨rfl, hb⟩
  have TT := HT.out.on hb; clear HT; have HT := Lib.hid TT; clear TT
  have TT := HBN.out.trans (hb.mono HBN.out.size); clear HBN; have HBN := Lib.hid TT; clear TT hb
  go_wp2_with (first
    | (go_at_call 16; (first | with_reducible refine (F0.out _ HT.out).mono ?_ | with_reducible refine (F1.out _ HT.out).mono ?_); rintro e wn ⟨rfl, hbn⟩; have hbt := HT.out.on hbn; clear HT; have HT := Lib.hid hbt; clear hbt; have hbx := HBN.out.trans (hbn.mono HBN.out.size); clear HBN hbn; have HBN := Lib.hid hbx; clear hbx)
    | (go_at_call 25; (first | with_reducible refine (F2.out _ HT.out).mono ?_ | with_reducible refine (F3.out _ HT.out).mono ?_ | with_reducible refine (F4.out _ HT.out).mono ?_ | with_reducible refine (F18.out _ HT.out).mono ?_); rintro e wn ⟨rfl, hbn⟩; have hbt := HT.out.on hbn; clear HT; have HT := Lib.hid hbt; clear hbt; have hbx := HBN.out.trans (hbn.mono HBN.out.size); clear HBN hbn; have HBN := Lib.hid hbx; clear hbx)
    | (go_at_call 14; (first | with_reducible refine (F5.out _ HT.out).mono ?_ | with_reducible refine (F9.out _ HT.out).mono ?_ | with_reducible refine (F13.out _ HT.out).mono ?_ | with_reducible refine (F17.out _ HT.out).mono ?_); rintro e wn ⟨rfl, hbn⟩; have hbt := HT.out.on hbn; clear HT; have HT := Lib.hid hbt; clear hbt; have hbx := HBN.out.trans (hbn.mono HBN.out.size); clear HBN hbn; have HBN := Lib.hid hbx; clear hbx)
    | (go_at_call 29; (first | with_reducible refine (F6.out _ HT.out).mono ?_ | with_reducible refine (F7.out _ HT.out).mono ?_ | with_reducible refine (F8.out _ HT.out).mono ?_ | with_reducible refine (F19.out _ HT.out).mono ?_); rintro e wn ⟨rfl, hbn⟩; have hbt := HT.out.on hbn; clear HT; have HT := Lib.hid hbt; clear hbt; have hbx := HBN.out.trans (hbn.mono HBN.out.size); clear HBN hbn; have HBN := Lib.hid hbx; clear hbx)
    | (go_at_call 27; (first | with_reducible refine (F10.out _ HT.out).mono ?_ | with_reducible refine (F11.out _ HT.out).mono ?_ | with_reducible refine (F12.out _ HT.out).mono ?_); rintro e wn ⟨rfl, hbn⟩; have hbt := HT.out.on hbn; clear HT; have HT := Lib.hid hbt; clear hbt; have hbx := HBN.out.trans (hbn.mono HBN.out.size); clear HBN hbn; have HBN := Lib.hid hbx; clear hbx)
    | (go_at_call 23; (first | with_reducible refine (F14.out _ HT.out).mono ?_ | with_reducible refine (F15.out _ HT.out).mono ?_ | with_reducible refine (F16.out _ HT.out).mono ?_); rintro e wn ⟨rfl, hbn⟩; have hbt := HT.out.on hbn; clear HT; have HT := Lib.hid hbt; clear hbt; have hbx := HBN.out.trans (hbn.mono HBN.out.size); clear HBN hbn; have HBN := Lib.hid hbx; clear hbx)
    | (go_at_call 21; (first | with_reducible refine (F20.out _ HT.out).mono ?_); rintro e wn ⟨rfl, hbn⟩; have hbt := HT.out.on hbn; clear HT; have HT := Lib.hid hbt; clear hbt; have hbx := HBN.out.trans (hbn.mono HBN.out.size); clear HBN hbn; have HBN := Lib.hid hbx; clear hbx))
  go_ret
  exact ⟨rfl, HBN.out⟩
end Go.Proofs.YtkcgbdggipijlaaDoor
