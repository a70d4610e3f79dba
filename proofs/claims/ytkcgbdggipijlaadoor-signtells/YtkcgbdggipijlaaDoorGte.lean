import Derived.Test.YtkcgbdggipijlaaDoorSigF
import Derived.Test.YtkcgbdggipijlaaDoorSigN
namespace Go.Proofs.YtkcgbdggipijlaaDoor
open Go Go.RowKit Go.Sort

theorem tmod_in (a : Int) {n : Int} (h : 0 < n) : -n < a.tmod n ∧ a.tmod n < n := ⟨Int.lt_tmod_of_pos a h, Int.tmod_lt_of_pos a h⟩
theorem mul_big {x y : Int} (hx : -1000000009 ≤ x ∧ x ≤ 1000000009) (hy : -1000000009 ≤ y ∧ y ≤ 1000000009) : -1000000018000000081 ≤ x * y ∧ x * y ≤ 1000000018000000081 := by
  have h1 : (x * y).natAbs ≤ 1000000009 * 1000000009 := by
    rw [Int.natAbs_mul]
    exact Nat.mul_le_mul (by omega) (by omega)
  omega
theorem from_one {x : Int} (h0 : -2147483648 ≤ x) (h1 : x ≤ 2147483647) : fromV ⟨1, x⟩ = sg x := by
  unfold fromV
  rw [sn_of (.inl ⟨rfl, h0, h1⟩)]
  rfl

set_option maxRecDepth 100000 in
set_option maxHeartbeats 8000000 in
theorem tells_law (a b : Int) (w : World) (hT : Tabs w) :
    Calls Tryd.prog 4 #[.int .i64 a, .int .i64 b] w fun e w' => e = .returned (.bool true) ∧ Below w.heap.size w w' := by
  have hX := tmod_in a (n := 1000000007) (by decide)
  have hY := tmod_in b (n := 1000000007) (by decide)
  have hD := tmod_in b (n := 3) (by decide)
  have HT := Lib.hid hT
  have HBN : Hid (Below w.heap.size w w) := Below.refl _ _
  have HAW := Lib.hid gawake_any
  clear hT
  go_enter Tryd.func4, Tryd.ntmps4
  go_wp2_with fail
  refine (HAW.out _ HT.out).mono ?_
  rintro e w1 ⟨rfl, hb⟩
  have TT := HT.out.on hb; clear HT; have HT := Lib.hid TT; clear TT
  have TT := HBN.out.trans (hb.mono HBN.out.size); clear HBN; have HBN := Lib.hid TT; clear TT hb
  go_wp2_with fail
  have hx1 : -1000000009 ≤ a.tmod 1000000007 - b.tmod 3 := by omega
  have hx2 : a.tmod 1000000007 - b.tmod 3 ≤ 1000000009 := by omega
  have hy1 : -1000000009 ≤ b.tmod 1000000007 := by omega
  have hy2 : b.tmod 1000000007 ≤ 1000000009 := by omega
  clear hX hY hD HAW
  generalize a.tmod 1000000007 - b.tmod 3 = x at *
  generalize b.tmod 1000000007 = y at *
  generalize a.tmod 1000000007 = z1 at *
  generalize b.tmod 3 = z2 at *
  obtain ⟨hm1, hm2⟩ := mul_big ⟨hx1, hx2⟩ ⟨hy1, hy2⟩
  have hw1 : wrap64 (x * y) = x * y := IntWalk.wrap64_in _ (by omega)
  have O1 : Hid (∀ W, Tabs W → Calls Tryd.prog 12 #[.int .i64 x] W fun e w' => e = .returned (.int .i64 (sg x : Nat)) ∧ Below W.heap.size W w') := fun W hT => gOf_any x W
  have O2 : Hid (∀ W, Tabs W → Calls Tryd.prog 12 #[.int .i64 y] W fun e w' => e = .returned (.int .i64 (sg y : Nat)) ∧ Below W.heap.size W w') := fun W hT => gOf_any y W
  have P0 : Hid (∀ W, Tabs W → Calls Tryd.prog 12 #[.int .i64 (x + y)] W fun e w' => e = .returned (.int .i64 (sg (x + y) : Nat)) ∧ Below W.heap.size W w') := fun W hT => gOf_any (x + y) W
  have Q0 : Hid (∀ W, Tabs W → Calls Tryd.prog 25 #[.int .i64 (sg x : Nat), .int .i64 (sg y : Nat)] W fun e w' => e = .returned (.int .i64 (addN (sg x) (sg y) : Nat)) ∧ Below W.heap.size W w') := fun W hT => by have h := gAdd_any (sg x : Nat) (sg y : Nat) W hT; rw [sS_of (sg_lt x), sS_of (sg_lt y)] at h; exact h
  have R0 : Hid (∀ W, Tabs W → Calls Tryd.prog 16 #[.int .i64 (sg (x + y) : Nat), .int .i64 (addN (sg x) (sg y) : Nat)] W fun e w' => e = .returned (.bool true) ∧ Below W.heap.size W w') := fun W hT => by have h := gLeq_any (sg (x + y) : Nat) (addN (sg x) (sg y) : Nat) W; rw [sS_of (sg_lt _), sS_of (addN_lt (sg_lt x) (sg_lt y)), sg_add] at h; exact h
  have P1 : Hid (∀ W, Tabs W → Calls Tryd.prog 12 #[.int .i64 (x - y)] W fun e w' => e = .returned (.int .i64 (sg (x - y) : Nat)) ∧ Below W.heap.size W w') := fun W hT => gOf_any (x - y) W
  have Q1 : Hid (∀ W, Tabs W → Calls Tryd.prog 27 #[.int .i64 (sg x : Nat), .int .i64 (sg y : Nat)] W fun e w' => e = .returned (.int .i64 (subN (sg x) (sg y) : Nat)) ∧ Below W.heap.size W w') := fun W hT => by have h := gSub_any (sg x : Nat) (sg y : Nat) W hT; rw [sS_of (sg_lt x), sS_of (sg_lt y)] at h; exact h
  have R1 : Hid (∀ W, Tabs W → Calls Tryd.prog 16 #[.int .i64 (sg (x - y) : Nat), .int .i64 (subN (sg x) (sg y) : Nat)] W fun e w' => e = .returned (.bool true) ∧ Below W.heap.size W w') := fun W hT => by have h := gLeq_any (sg (x - y) : Nat) (subN (sg x) (sg y) : Nat) W; rw [sS_of (sg_lt _), sS_of (subN_lt (sg_lt x) (sg_lt y)), sg_sub] at h; exact h
  have P2 : Hid (∀ W, Tabs W → Calls Tryd.prog 12 #[.int .i64 (x * y)] W fun e w' => e = .returned (.int .i64 (sg (x * y) : Nat)) ∧ Below W.heap.size W w') := fun W hT => gOf_any (x * y) W
  have Q2 : Hid (∀ W, Tabs W → Calls Tryd.prog 29 #[.int .i64 (sg x : Nat), .int .i64 (sg y : Nat)] W fun e w' => e = .returned (.int .i64 (mulN (sg x) (sg y) : Nat)) ∧ Below W.heap.size W w') := fun W hT => by have h := gMul_any (sg x : Nat) (sg y : Nat) W hT; rw [sS_of (sg_lt x), sS_of (sg_lt y)] at h; exact h
  have R2 : Hid (∀ W, Tabs W → Calls Tryd.prog 16 #[.int .i64 (sg (x * y) : Nat), .int .i64 (mulN (sg x) (sg y) : Nat)] W fun e w' => e = .returned (.bool true) ∧ Below W.heap.size W w') := fun W hT => by have h := gLeq_any (sg (x * y) : Nat) (mulN (sg x) (sg y) : Nat) W; rw [sS_of (sg_lt _), sS_of (mulN_lt (sg_lt x) (sg_lt y)), sg_mul] at h; exact h
  have P3 := P2
  rw [← hw1] at P3
  have P4 : Hid (∀ W, Tabs W → Calls Tryd.prog 12 #[.int .i64 (-x)] W fun e w' => e = .returned (.int .i64 (sg (-x) : Nat)) ∧ Below W.heap.size W w') := fun W hT => gOf_any (-x) W
  have Q4 : Hid (∀ W, Tabs W → Calls Tryd.prog 23 #[.int .i64 (sg x : Nat)] W fun e w' => e = .returned (.int .i64 (sg (-x) : Nat)) ∧ Below W.heap.size W w') := fun W hT => by have h := gNeg_any (sg x : Nat) W hT; rw [sS_of (sg_lt x), ← sg_neg] at h; exact h
  have P5 : Hid (∀ W, Tabs W → Calls Tryd.prog 33 #[.int .i64 x] W fun e w' => e = .returned (.agg #[.int .i64 1, .int .i64 x]) ∧ Below W.heap.size W w') := fun W hT => by have h := Of_any x W; unfold vone V.val at h; rw [w32_self (by omega) (by omega)] at h; exact h
  have Q5 : Hid (∀ W, Tabs W → Calls Tryd.prog 31 #[.agg #[.int .i64 1, .int .i64 x]] W fun e w' => e = .returned (.int .i64 (sg x : Nat)) ∧ Below W.heap.size W w') := fun W hT => by have h := gFrom_any ⟨1, x⟩ W; rw [from_one (by omega) (by omega)] at h; exact h
  clear hw1
  generalize sg (x + y) = r0 at *
  generalize addN (sg x) (sg y) = r1 at *
  generalize sg (x - y) = r2 at *
  generalize subN (sg x) (sg y) = r3 at *
  generalize sg (x * y) = r4 at *
  generalize mulN (sg x) (sg y) = r5 at *
  generalize sg (-x) = r6 at *
  generalize sg x = r7 at *
  generalize sg y = r8 at *
  refine (O1.out _ HT.out).mono ?_
  rintro e w2 ⟨rfl, hb⟩
  have TT := HT.out.on hb; clear HT; have HT := Lib.hid TT; clear TT
  have TT := HBN.out.trans (hb.mono HBN.out.size); clear HBN; have HBN := Lib.hid TT; clear TT hb
  go_wp2_with (first
    | (go_at_call 12; (first | with_reducible refine (O1.out _ HT.out).mono ?_ | with_reducible refine (O2.out _ HT.out).mono ?_ | with_reducible refine (P0.out _ HT.out).mono ?_ | with_reducible refine (P1.out _ HT.out).mono ?_ | with_reducible refine (P2.out _ HT.out).mono ?_ | with_reducible refine (P3.out _ HT.out).mono ?_ | with_reducible refine (P4.out _ HT.out).mono ?_); rintro e wn ⟨rfl, hbn⟩; have hbt := HT.out.on hbn; clear HT; have HT := Lib.hid hbt; clear hbt; have hbx := HBN.out.trans (hbn.mono HBN.out.size); clear HBN hbn; have HBN := Lib.hid hbx; clear hbx)
    | (go_at_call 25; (first | with_reducible refine (Q0.out _ HT.out).mono ?_); rintro e wn ⟨rfl, hbn⟩; have hbt := HT.out.on hbn; clear HT; have HT := Lib.hid hbt; clear hbt; have hbx := HBN.out.trans (hbn.mono HBN.out.size); clear HBN hbn; have HBN := Lib.hid hbx; clear hbx)
    | (go_at_call 16; (first | with_reducible refine (R0.out _ HT.out).mono ?_ | with_reducible refine (R1.out _ HT.out).mono ?_ | with_reducible refine (R2.out _ HT.out).mono ?_); rintro e wn ⟨rfl, hbn⟩; have hbt := HT.out.on hbn; clear HT; have HT := Lib.hid hbt; clear hbt; have hbx := HBN.out.trans (hbn.mono HBN.out.size); clear HBN hbn; have HBN := Lib.hid hbx; clear hbx)
    | (go_at_call 27; (first | with_reducible refine (Q1.out _ HT.out).mono ?_); rintro e wn ⟨rfl, hbn⟩; have hbt := HT.out.on hbn; clear HT; have HT := Lib.hid hbt; clear hbt; have hbx := HBN.out.trans (hbn.mono HBN.out.size); clear HBN hbn; have HBN := Lib.hid hbx; clear hbx)
    | (go_at_call 29; (first | with_reducible refine (Q2.out _ HT.out).mono ?_); rintro e wn ⟨rfl, hbn⟩; have hbt := HT.out.on hbn; clear HT; have HT := Lib.hid hbt; clear hbt; have hbx := HBN.out.trans (hbn.mono HBN.out.size); clear HBN hbn; have HBN := Lib.hid hbx; clear hbx)
    | (go_at_call 23; (first | with_reducible refine (Q4.out _ HT.out).mono ?_); rintro e wn ⟨rfl, hbn⟩; have hbt := HT.out.on hbn; clear HT; have HT := Lib.hid hbt; clear hbt; have hbx := HBN.out.trans (hbn.mono HBN.out.size); clear HBN hbn; have HBN := Lib.hid hbx; clear hbx)
    | (go_at_call 33; (first | with_reducible refine (P5.out _ HT.out).mono ?_); rintro e wn ⟨rfl, hbn⟩; have hbt := HT.out.on hbn; clear HT; have HT := Lib.hid hbt; clear hbt; have hbx := HBN.out.trans (hbn.mono HBN.out.size); clear HBN hbn; have HBN := Lib.hid hbx; clear hbx)
    | (go_at_call 31; (first | with_reducible refine (Q5.out _ HT.out).mono ?_); rintro e wn ⟨rfl, hbn⟩; have hbt := HT.out.on hbn; clear HT; have HT := Lib.hid hbt; clear hbt; have hbx := HBN.out.trans (hbn.mono HBN.out.size); clear HBN hbn; have HBN := Lib.hid hbx; clear hbx))
  go_ret
  exact ⟨rfl, HBN.out⟩
end Go.Proofs.YtkcgbdggipijlaaDoor
