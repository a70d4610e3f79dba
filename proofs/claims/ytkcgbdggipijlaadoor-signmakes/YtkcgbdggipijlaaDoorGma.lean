import Derived.Test.YtkcgbdggipijlaaDoorSigF
import Derived.Test.YtkcgbdggipijlaaDoorSigN
namespace Go.Proofs.YtkcgbdggipijlaaDoor
open Go Go.RowKit Go.Sort

/-- What comes of numbers of -2 on whose signs are in two sets. -/
def stepF (f : Int → Int → Int) (A B : Nat) (x y : Int) (m : Nat) : Nat := if leqN (sg x) A && leqN (sg y) B then m ||| sg (f x y) else m
def inF (f : Int → Int → Int) (A B : Nat) (x : Int) (j : Nat) (m : Nat) : Nat := (List.range j).foldl (fun m (t : Nat) => stepF f A B x ((t : Int) - 2) m) m
def outF (f : Int → Int → Int) (A B : Nat) (i : Nat) : Nat := (List.range i).foldl (fun m (t : Nat) => inF f A B ((t : Int) - 2) 5 m) 0
theorem inF_succ (f : Int → Int → Int) (A B : Nat) (x : Int) (j m : Nat) : inF f A B x (j + 1) m = stepF f A B x ((j : Int) - 2) (inF f A B x j m) := by
  unfold inF; rw [List.range_succ, List.foldl_append]; rfl
theorem outF_succ (f : Int → Int → Int) (A B : Nat) (i : Nat) : outF f A B (i + 1) = inF f A B ((i : Int) - 2) 5 (outF f A B i) := by
  unfold outF; rw [List.range_succ, List.foldl_append]; rfl
theorem stepF_lt (f : Int → Int → Int) (A B : Nat) (x y : Int) {m : Nat} (h : m < 8) : stepF f A B x y m < 8 := by
  unfold stepF; split
  · exact or_lt h (sg_lt _)
  · exact h
theorem inF_lt (f : Int → Int → Int) (A B : Nat) (x : Int) (j m : Nat) (h : m < 8) : inF f A B x j m < 8 := by
  induction j with
  | zero => exact h
  | succ j ih => rw [inF_succ]; exact stepF_lt f A B x _ ih
theorem outF_lt (f : Int → Int → Int) (A B : Nat) (i : Nat) : outF f A B i < 8 := by
  induction i with
  | zero => exact Nat.zero_lt_succ _
  | succ i ih => rw [outF_succ]; exact inF_lt f A B _ 5 _ ih
theorem mk_add {a b : Nat} (ha : a < 8) (hb : b < 8) : outF (· + ·) a b 5 = addN a b := by
  have h : ∀ x y : Fin 8, outF (· + ·) x.val y.val 5 = addN x.val y.val := by decide +kernel
  exact h ⟨a, ha⟩ ⟨b, hb⟩
theorem mk_mul {a b : Nat} (ha : a < 8) (hb : b < 8) : outF (· * ·) a b 5 = mulN a b := by
  have h : ∀ x y : Fin 8, outF (· * ·) x.val y.val 5 = mulN x.val y.val := by decide +kernel
  exact h ⟨a, ha⟩ ⟨b, hb⟩
theorem mk_sub {a b : Nat} (ha : a < 8) (hb : b < 8) : outF (· - ·) a b 5 = subN a b := by
  have h : ∀ x y : Fin 8, outF (· - ·) x.val y.val 5 = subN x.val y.val := by decide +kernel
  exact h ⟨a, ha⟩ ⟨b, hb⟩
theorem mul_small2 {x y : Int} (hx : -2 ≤ x ∧ x ≤ 3) (hy : -2 ≤ y ∧ y ≤ 3) : -9 ≤ x * y ∧ x * y ≤ 9 := by
  have h1 : (x * y).natAbs ≤ 3 * 3 := by
    rw [Int.natAbs_mul]
    exact Nat.mul_le_mul (by omega) (by omega)
  omega

set_option maxRecDepth 100000 in
set_option maxHeartbeats 8000000 in
theorem makes_law (a b : Int) (w : World) (hT : Tabs w) :
    Calls Tryd.prog 7 #[.int .i64 a, .int .i64 b] w fun e w' => e = .returned (.bool true) ∧ Below w.heap.size w w' := by
  have HA := Lib.hid (show ∀ W, Tabs W → _ from fun W hT => gAdd_any a b W hT)
  have HM := Lib.hid (show ∀ W, Tabs W → _ from fun W hT => gMul_any a b W hT)
  have HS := Lib.hid (show ∀ W, Tabs W → _ from fun W hT => gSub_any a b W hT)
  rw [← mk_add (sS_lt a) (sS_lt b)] at HA
  rw [← mk_mul (sS_lt a) (sS_lt b)] at HM
  rw [← mk_sub (sS_lt a) (sS_lt b)] at HS
  have HLA : Hid (∀ (gx : Nat), gx < 8 → ∀ W, Tabs W → Calls Tryd.prog 16 #[.int .i64 (gx : Int), .int .i64 a] W fun e w' => e = .returned (.bool (leqN gx (sS a))) ∧ Below W.heap.size W w') := fun gx hg W _ => by
    have h := gLeq_any (gx : Int) a W
    rw [sS_of hg] at h
    exact h
  have HLB : Hid (∀ (gx : Nat), gx < 8 → ∀ W, Tabs W → Calls Tryd.prog 16 #[.int .i64 (gx : Int), .int .i64 b] W fun e w' => e = .returned (.bool (leqN gx (sS b))) ∧ Below W.heap.size W w') := fun gx hg W _ => by
    have h := gLeq_any (gx : Int) b W
    rw [sS_of hg] at h
    exact h
  generalize sS a = A at *
  generalize sS b = B at *
  have HT := Lib.hid hT
  have HBN : Hid (Below w.heap.size w w) := Below.refl _ _
  have HAW := Lib.hid gawake_any
  clear hT
  go_enter Tryd.func7, Tryd.ntmps7
  go_wp2_with fail
  refine (HAW.out _ HT.out).mono ?_
  rintro e w1 ⟨rfl, hb⟩
  have TT := HT.out.on hb; clear HT; have HT := Lib.hid TT; clear TT
  have TT := HBN.out.trans (hb.mono HBN.out.size); clear HBN; have HBN := Lib.hid TT; clear TT hb
  clear HAW
  have HT0 := HT
  have HB0 := HBN
  clear HT HBN
  go_wp2_with fail
  go_loopw [6, 7, 8, 9] (fun s p d i wr => ∃ x : Int, -2 ≤ x ∧ x ≤ 3 ∧ i = .int .i64 x ∧ s = .int .i64 (outF (· + ·) A B (x + 2).toNat : Nat) ∧ p = .int .i64 (outF (· * ·) A B (x + 2).toNat : Nat) ∧ d = .int .i64 (outF (· - ·) A B (x + 2).toNat : Nat) ∧ Hid (Below w1.heap.size w1 wr)) (fun _ _ _ i _ => (3 - intOf i).toNat)
  case atStart => exact ⟨-2, by decide, by decide, rfl, rfl, rfl, rfl, Below.refl _ _⟩
  case round =>
    obtain ⟨x, hx1, hx2, rfl, rfl, rfl, rfl, hBw⟩ := hrel
    by_cases hlt : x < 3
    · have hq : (x + 1 + 2).toNat = (x + 2).toNat + 1 := by omega
      have E1 : Hid (outF (· + ·) A B (x + 1 + 2).toNat = inF (· + ·) A B x 5 (outF (· + ·) A B (x + 2).toNat)) := by rw [Hid, hq, outF_succ, show (((x + 2).toNat : Nat) : Int) - 2 = x by omega]
      have E2 : Hid (outF (· * ·) A B (x + 1 + 2).toNat = inF (· * ·) A B x 5 (outF (· * ·) A B (x + 2).toNat)) := by rw [Hid, hq, outF_succ, show (((x + 2).toNat : Nat) : Int) - 2 = x by omega]
      have E3 : Hid (outF (· - ·) A B (x + 1 + 2).toNat = inF (· - ·) A B x 5 (outF (· - ·) A B (x + 2).toNat)) := by rw [Hid, hq, outF_succ, show (((x + 2).toNat : Nat) : Int) - 2 = x by omega]
      have G1 := Lib.hid (outF_lt (· + ·) A B (x + 2).toNat)
      have G2 := Lib.hid (outF_lt (· * ·) A B (x + 2).toNat)
      have G3 := Lib.hid (outF_lt (· - ·) A B (x + 2).toNat)
      generalize outF (· + ·) A B (x + 2).toNat = s0 at *
      generalize outF (· * ·) A B (x + 2).toNat = p0 at *
      generalize outF (· - ·) A B (x + 2).toNat = d0 at *
      clear hq
      go_wp2_with fail
      go_loopw [6, 7, 8, 10] (fun s p d i wr => ∃ y : Int, -2 ≤ y ∧ y ≤ 3 ∧ i = .int .i64 y ∧ s = .int .i64 (inF (· + ·) A B x (y + 2).toNat s0 : Nat) ∧ p = .int .i64 (inF (· * ·) A B x (y + 2).toNat p0 : Nat) ∧ d = .int .i64 (inF (· - ·) A B x (y + 2).toNat d0 : Nat) ∧ Hid (Below w1.heap.size w1 wr)) (fun _ _ _ i _ => (3 - intOf i).toNat)
      case atStart => exact ⟨-2, by decide, by decide, rfl, rfl, rfl, rfl, hBw⟩
      case round =>
        clear hBw
        obtain ⟨y, hy1, hy2, rfl, rfl, rfl, rfl, hBw⟩ := hrel
        by_cases hly : y < 3
        · have hq : (y + 1 + 2).toNat = (y + 2).toNat + 1 := by omega
          have K1 : Hid (inF (· + ·) A B x (y + 1 + 2).toNat s0 = if leqN (sg x) A && leqN (sg y) B then inF (· + ·) A B x (y + 2).toNat s0 ||| sg (x + y) else inF (· + ·) A B x (y + 2).toNat s0) := by rw [Hid, hq, inF_succ, show (((y + 2).toNat : Nat) : Int) - 2 = y by omega]; rfl
          have K2 : Hid (inF (· * ·) A B x (y + 1 + 2).toNat p0 = if leqN (sg x) A && leqN (sg y) B then inF (· * ·) A B x (y + 2).toNat p0 ||| sg (x * y) else inF (· * ·) A B x (y + 2).toNat p0) := by rw [Hid, hq, inF_succ, show (((y + 2).toNat : Nat) : Int) - 2 = y by omega]; rfl
          have K3 : Hid (inF (· - ·) A B x (y + 1 + 2).toNat d0 = if leqN (sg x) A && leqN (sg y) B then inF (· - ·) A B x (y + 2).toNat d0 ||| sg (x - y) else inF (· - ·) A B x (y + 2).toNat d0) := by rw [Hid, hq, inF_succ, show (((y + 2).toNat : Nat) : Int) - 2 = y by omega]; rfl
          have g1 := inF_lt (· + ·) A B x (y + 2).toNat s0 G1.out
          have g2 := inF_lt (· * ·) A B x (y + 2).toNat p0 G2.out
          have g3 := inF_lt (· - ·) A B x (y + 2).toNat d0 G3.out
          have hm := mul_small2 ⟨hx1, hx2⟩ ⟨hy1, hy2⟩
          obtain ⟨hm1, hm2⟩ := hm
          have hw1 : wrap64 (x * y) = x * y := IntWalk.wrap64_in _ (by omega)
          generalize inF (· + ·) A B x (y + 2).toNat s0 = s1 at *
          generalize inF (· * ·) A B x (y + 2).toNat p0 = p1 at *
          generalize inF (· - ·) A B x (y + 2).toNat d0 = d1 at *
          have O1 : Hid (∀ W, Tabs W → Calls Tryd.prog 12 #[.int .i64 x] W fun e w' => e = .returned (.int .i64 (sg x : Nat)) ∧ Below W.heap.size W w') := fun W hT => gOf_any x W
          have O2 : Hid (∀ W, Tabs W → Calls Tryd.prog 12 #[.int .i64 y] W fun e w' => e = .returned (.int .i64 (sg y : Nat)) ∧ Below W.heap.size W w') := fun W hT => gOf_any y W
          have L1 : Hid (∀ W, Tabs W → Calls Tryd.prog 16 #[.int .i64 (sg x : Nat), .int .i64 a] W fun e w' => e = .returned (.bool (leqN (sg x) A)) ∧ Below W.heap.size W w') := fun W hT => HLA.out _ (sg_lt x) W hT
          have L2 : Hid (∀ W, Tabs W → Calls Tryd.prog 16 #[.int .i64 (sg y : Nat), .int .i64 b] W fun e w' => e = .returned (.bool (leqN (sg y) B)) ∧ Below W.heap.size W w') := fun W hT => HLB.out _ (sg_lt y) W hT
          have P0 : Hid (∀ W, Tabs W → Calls Tryd.prog 12 #[.int .i64 (x + y)] W fun e w' => e = .returned (.int .i64 (sg (x + y) : Nat)) ∧ Below W.heap.size W w') := fun W hT => gOf_any (x + y) W
          have J0 : Hid (∀ W, Tabs W → Calls Tryd.prog 14 #[.int .i64 (s1 : Nat), .int .i64 (sg (x + y) : Nat)] W fun e w' => e = .returned (.int .i64 (s1 ||| sg (x + y) : Nat)) ∧ Below W.heap.size W w') := fun W hT => by have h := gJoin_any (s1 : Nat) (sg (x + y) : Nat) W; rw [sS_of g1, sS_of (sg_lt _)] at h; exact h
          have P1 : Hid (∀ W, Tabs W → Calls Tryd.prog 12 #[.int .i64 (x * y)] W fun e w' => e = .returned (.int .i64 (sg (x * y) : Nat)) ∧ Below W.heap.size W w') := fun W hT => gOf_any (x * y) W
          have J1 : Hid (∀ W, Tabs W → Calls Tryd.prog 14 #[.int .i64 (p1 : Nat), .int .i64 (sg (x * y) : Nat)] W fun e w' => e = .returned (.int .i64 (p1 ||| sg (x * y) : Nat)) ∧ Below W.heap.size W w') := fun W hT => by have h := gJoin_any (p1 : Nat) (sg (x * y) : Nat) W; rw [sS_of g2, sS_of (sg_lt _)] at h; exact h
          have P2 : Hid (∀ W, Tabs W → Calls Tryd.prog 12 #[.int .i64 (x - y)] W fun e w' => e = .returned (.int .i64 (sg (x - y) : Nat)) ∧ Below W.heap.size W w') := fun W hT => gOf_any (x - y) W
          have J2 : Hid (∀ W, Tabs W → Calls Tryd.prog 14 #[.int .i64 (d1 : Nat), .int .i64 (sg (x - y) : Nat)] W fun e w' => e = .returned (.int .i64 (d1 ||| sg (x - y) : Nat)) ∧ Below W.heap.size W w') := fun W hT => by have h := gJoin_any (d1 : Nat) (sg (x - y) : Nat) W; rw [sS_of g3, sS_of (sg_lt _)] at h; exact h
          have P3 := P1
          rw [← hw1] at P3
          clear hw1 hq g1 g2 g3
          generalize sg (x + y) = h1 at *
          generalize sg (x * y) = h2 at *
          generalize sg (x - y) = h3 at *
          generalize leqN (sg x) A = b1 at *
          generalize leqN (sg y) B = b2 at *
          generalize sg x = gx at *
          generalize sg y = gy at *
          have HT := Lib.hid (HT0.out.on hBw.out)
          have HBN := hBw
          clear hBw
          have fin : ∀ w4 : World, Below w1.heap.size w1 w4 → ∃ z : Int, -2 ≤ z ∧ z ≤ 3 ∧ (Value.int .i64 (y + 1)) = .int .i64 z ∧ (Value.int .i64 ((if b1 && b2 then s1 ||| h1 else s1 : Nat) : Int)) = .int .i64 (inF (· + ·) A B x (z + 2).toNat s0 : Nat) ∧ (Value.int .i64 ((if b1 && b2 then p1 ||| h2 else p1 : Nat) : Int)) = .int .i64 (inF (· * ·) A B x (z + 2).toNat p0 : Nat) ∧ (Value.int .i64 ((if b1 && b2 then d1 ||| h3 else d1 : Nat) : Int)) = .int .i64 (inF (· - ·) A B x (z + 2).toNat d0 : Nat) ∧ Hid (Below w1.heap.size w1 w4) := fun w4 h4 =>
            ⟨y + 1, by omega, by omega, rfl, by rw [K1.out], by rw [K2.out], by rw [K3.out], h4⟩
          have FIN := Lib.hid fin
          clear fin K1 K2 K3
          cases b1 with
          | true =>
            cases b2 with
            | true =>
              go_wp2_with (first
                | (go_at_call 12; (first | with_reducible refine (O1.out _ HT.out).mono ?_ | with_reducible refine (O2.out _ HT.out).mono ?_ | with_reducible refine (P0.out _ HT.out).mono ?_ | with_reducible refine (P1.out _ HT.out).mono ?_ | with_reducible refine (P2.out _ HT.out).mono ?_ | with_reducible refine (P3.out _ HT.out).mono ?_); rintro e wn ⟨rfl, hbn⟩; have hbt := HT.out.on hbn; clear HT; have HT := Lib.hid hbt; clear hbt; have hbx := HBN.out.trans (hbn.mono HBN.out.size); clear HBN hbn; have HBN := Lib.hid hbx; clear hbx)
                | (go_at_call 16; (first | with_reducible refine (L1.out _ HT.out).mono ?_ | with_reducible refine (L2.out _ HT.out).mono ?_); rintro e wn ⟨rfl, hbn⟩; have hbt := HT.out.on hbn; clear HT; have HT := Lib.hid hbt; clear hbt; have hbx := HBN.out.trans (hbn.mono HBN.out.size); clear HBN hbn; have HBN := Lib.hid hbx; clear hbx)
                | (go_at_call 14; (first | with_reducible refine (J0.out _ HT.out).mono ?_ | with_reducible refine (J1.out _ HT.out).mono ?_ | with_reducible refine (J2.out _ HT.out).mono ?_); rintro e wn ⟨rfl, hbn⟩; have hbt := HT.out.on hbn; clear HT; have HT := Lib.hid hbt; clear hbt; have hbx := HBN.out.trans (hbn.mono HBN.out.size); clear HBN hbn; have HBN := Lib.hid hbx; clear hbx))
              go_roundw
              case rel => exact FIN.out _ HBN.out
              case measure => simp [intOf]; omega
            | false =>
              go_wp2_with (first
                | (go_at_call 12; (first | with_reducible refine (O1.out _ HT.out).mono ?_ | with_reducible refine (O2.out _ HT.out).mono ?_ | with_reducible refine (P0.out _ HT.out).mono ?_ | with_reducible refine (P1.out _ HT.out).mono ?_ | with_reducible refine (P2.out _ HT.out).mono ?_ | with_reducible refine (P3.out _ HT.out).mono ?_); rintro e wn ⟨rfl, hbn⟩; have hbt := HT.out.on hbn; clear HT; have HT := Lib.hid hbt; clear hbt; have hbx := HBN.out.trans (hbn.mono HBN.out.size); clear HBN hbn; have HBN := Lib.hid hbx; clear hbx)
                | (go_at_call 16; (first | with_reducible refine (L1.out _ HT.out).mono ?_ | with_reducible refine (L2.out _ HT.out).mono ?_); rintro e wn ⟨rfl, hbn⟩; have hbt := HT.out.on hbn; clear HT; have HT := Lib.hid hbt; clear hbt; have hbx := HBN.out.trans (hbn.mono HBN.out.size); clear HBN hbn; have HBN := Lib.hid hbx; clear hbx)
                | (go_at_call 14; (first | with_reducible refine (J0.out _ HT.out).mono ?_ | with_reducible refine (J1.out _ HT.out).mono ?_ | with_reducible refine (J2.out _ HT.out).mono ?_); rintro e wn ⟨rfl, hbn⟩; have hbt := HT.out.on hbn; clear HT; have HT := Lib.hid hbt; clear hbt; have hbx := HBN.out.trans (hbn.mono HBN.out.size); clear HBN hbn; have HBN := Lib.hid hbx; clear hbx))
              go_roundw
              case rel => exact FIN.out _ HBN.out
              case measure => simp [intOf]; omega
          | false =>
            go_wp2_with (first
              | (go_at_call 12; (first | with_reducible refine (O1.out _ HT.out).mono ?_ | with_reducible refine (O2.out _ HT.out).mono ?_ | with_reducible refine (P0.out _ HT.out).mono ?_ | with_reducible refine (P1.out _ HT.out).mono ?_ | with_reducible refine (P2.out _ HT.out).mono ?_ | with_reducible refine (P3.out _ HT.out).mono ?_); rintro e wn ⟨rfl, hbn⟩; have hbt := HT.out.on hbn; clear HT; have HT := Lib.hid hbt; clear hbt; have hbx := HBN.out.trans (hbn.mono HBN.out.size); clear HBN hbn; have HBN := Lib.hid hbx; clear hbx)
              | (go_at_call 16; (first | with_reducible refine (L1.out _ HT.out).mono ?_ | with_reducible refine (L2.out _ HT.out).mono ?_); rintro e wn ⟨rfl, hbn⟩; have hbt := HT.out.on hbn; clear HT; have HT := Lib.hid hbt; clear hbt; have hbx := HBN.out.trans (hbn.mono HBN.out.size); clear HBN hbn; have HBN := Lib.hid hbx; clear hbx)
              | (go_at_call 14; (first | with_reducible refine (J0.out _ HT.out).mono ?_ | with_reducible refine (J1.out _ HT.out).mono ?_ | with_reducible refine (J2.out _ HT.out).mono ?_); rintro e wn ⟨rfl, hbn⟩; have hbt := HT.out.on hbn; clear HT; have HT := Lib.hid hbt; clear hbt; have hbx := HBN.out.trans (hbn.mono HBN.out.size); clear HBN hbn; have HBN := Lib.hid hbx; clear hbx))
            go_roundw
            case rel => simpa using FIN.out _ HBN.out
            case measure => simp [intOf]; omega
        · obtain rfl : y = 3 := by omega
          go_wp2_with fail
          go_roundw
          case rel => exact ⟨x + 1, by omega, by omega, rfl, by rw [E1.out]; rfl, by rw [E2.out]; rfl, by rw [E3.out]; rfl, hBw⟩
          case measure => simp [intOf]; omega
    · obtain rfl : x = 3 := by omega
      have HT := Lib.hid (HT0.out.on hBw.out)
      have HBN := Lib.hid (HB0.out.trans (hBw.out.mono HB0.out.size))
      clear hBw HT0 HB0
      change Hid (∀ W, Tabs W → Calls Tryd.prog 25 #[.int .i64 a, .int .i64 b] W fun e w' => e = .returned (.int .i64 (outF (· + ·) A B ((3 : Int) + 2).toNat : Nat)) ∧ Below W.heap.size W w') at HA
      change Hid (∀ W, Tabs W → Calls Tryd.prog 29 #[.int .i64 a, .int .i64 b] W fun e w' => e = .returned (.int .i64 (outF (· * ·) A B ((3 : Int) + 2).toNat : Nat)) ∧ Below W.heap.size W w') at HM
      change Hid (∀ W, Tabs W → Calls Tryd.prog 27 #[.int .i64 a, .int .i64 b] W fun e w' => e = .returned (.int .i64 (outF (· - ·) A B ((3 : Int) + 2).toNat : Nat)) ∧ Below W.heap.size W w') at HS
      generalize outF (· + ·) A B ((3 : Int) + 2).toNat = s0 at *
      generalize outF (· * ·) A B ((3 : Int) + 2).toNat = p0 at *
      generalize outF (· - ·) A B ((3 : Int) + 2).toNat = d0 at *
      go_wp2_with (first
        | (go_at_call 25; (first | with_reducible refine (HA.out _ HT.out).mono ?_); rintro e wn ⟨rfl, hbn⟩; have hbt := HT.out.on hbn; clear HT; have HT := Lib.hid hbt; clear hbt; have hbx := HBN.out.trans (hbn.mono HBN.out.size); clear HBN hbn; have HBN := Lib.hid hbx; clear hbx)
        | (go_at_call 29; (first | with_reducible refine (HM.out _ HT.out).mono ?_); rintro e wn ⟨rfl, hbn⟩; have hbt := HT.out.on hbn; clear HT; have HT := Lib.hid hbt; clear hbt; have hbx := HBN.out.trans (hbn.mono HBN.out.size); clear HBN hbn; have HBN := Lib.hid hbx; clear hbx)
        | (go_at_call 27; (first | with_reducible refine (HS.out _ HT.out).mono ?_); rintro e wn ⟨rfl, hbn⟩; have hbt := HT.out.on hbn; clear HT; have HT := Lib.hid hbt; clear hbt; have hbx := HBN.out.trans (hbn.mono HBN.out.size); clear HBN hbn; have HBN := Lib.hid hbx; clear hbx))
      go_ret
      exact ⟨rfl, HBN.out⟩
end Go.Proofs.YtkcgbdggipijlaaDoor
