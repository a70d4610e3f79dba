/- SiG: several texts in one: SigM SigA SigN SigB SigC SigD. -/
import GoSem.Claim
import Derived.Test.YtmcbedlmgffckaaGreatDoorBase
import Derived.Test.YtmcbedlmgffckaaGreatDoorInts

namespace Go.Proofs.YtmcbedlmgffckaaGreatDoor
open Go

/-- What a set of signs is taken for. -/
def sS (s : Int) : Nat := if 0 ≤ s ∧ s ≤ 7 then s.toNat else 7
theorem sS_lt (s : Int) : sS s < 8 := by unfold sS; split <;> omega
theorem sS_of {s : Nat} (h : s < 8) : sS (s : Int) = s := by unfold sS; rw [if_pos (by omega)]; simp
theorem sS_in {s : Int} (h : 0 ≤ s ∧ s ≤ 7) : ((sS s : Nat) : Int) = s := by unfold sS; rw [if_pos h]; omega
theorem sS_out {s : Int} (h : ¬ (0 ≤ s ∧ s ≤ 7)) : sS s = 7 := by unfold sS; rw [if_neg h]

/-- A number's sign. -/
def sg (c : Int) : Nat := if c < 0 then 1 else if 0 < c then 4 else 2
theorem sg_cases (c : Int) : (c < 0 ∧ sg c = 1) ∨ (c = 0 ∧ sg c = 2) ∨ (0 < c ∧ sg c = 4) := by unfold sg; split <;> (try split) <;> omega
theorem sg_lt (c : Int) : sg c < 8 := by rcases sg_cases c with h | h | h <;> omega

/-- Its signs, rising; how many. -/
def tol (p : Int → Bool) (lo : Int) (q : Nat) : List Int := ((List.range q).map fun (i : Nat) => lo + (i : Int)).filter p
theorem tol_succ (p : Int → Bool) (lo : Int) (q : Nat) : tol p lo (q + 1) = tol p lo q ++ (if p (lo + q) then [lo + (q : Int)] else []) := by
  unfold tol
  rw [List.range_succ, List.map_append, List.filter_append]
  congr 1
  cases h : p (lo + q) <;> simp [h]
theorem tol_le (p : Int → Bool) (lo : Int) (q : Nat) : (tol p lo q).length ≤ q := by
  unfold tol
  have := List.length_filter_le p ((List.range q).map fun (i : Nat) => lo + (i : Int))
  simpa using this
def hasN (s : Nat) (x : Int) : Bool := s &&& sg x != 0
def lst (s : Nat) : List Int := tol (hasN s) (-1) 3
/-- The numbers that stand for signs. -/
def som (s : Nat) : List Int := tol (hasN s) (-2) 5
def tbl (l : List Nat) (x y : Int) : Nat := l.getD ((x + 1).toNat * 3 + (y + 1).toNat) 0
def sumsL : List Nat := [1, 1, 7, 1, 2, 4, 7, 4, 4]
def prodsL : List Nat := [4, 2, 1, 2, 2, 2, 1, 2, 4]
/-- What each of one list makes with each of another. -/
def row (f : Int → Int → Nat) (x : Int) (l : List Int) (m : Nat) : Nat := l.foldl (fun m y => m ||| f x y) m
def cmb (f : Int → Int → Nat) (k l : List Int) : Nat := k.foldl (fun m x => row f x l m) 0
def addN (a b : Nat) : Nat := cmb (tbl sumsL) (lst a) (lst b)
def mulN (a b : Nat) : Nat := cmb (tbl prodsL) (lst a) (lst b)
def negN (a : Nat) : Nat := mulN 1 a
def subN (a b : Nat) : Nat := addN a (negN b)
def leqN (a b : Nat) : Bool := (a ||| b) == b
theorem fin8 {p : Nat → Prop} (h : ∀ x : Fin 8, p x.val) {a : Nat} (ha : a < 8) : p a := h ⟨a, ha⟩
theorem addN_lt {a b : Nat} (ha : a < 8) (hb : b < 8) : addN a b < 8 := by
  revert a b
  have h : ∀ x y : Fin 8, addN x.val y.val < 8 := by decide
  exact fun {a b} ha hb => h ⟨a, ha⟩ ⟨b, hb⟩
theorem mulN_lt {a b : Nat} (ha : a < 8) (hb : b < 8) : mulN a b < 8 := by
  have h : ∀ x y : Fin 8, mulN x.val y.val < 8 := by decide
  exact h ⟨a, ha⟩ ⟨b, hb⟩
theorem negN_lt {a : Nat} (ha : a < 8) : negN a < 8 := mulN_lt (by decide) ha
theorem subN_lt {a b : Nat} (ha : a < 8) (hb : b < 8) : subN a b < 8 := addN_lt ha (negN_lt hb)
theorem or_lt {a b : Nat} (ha : a < 8) (hb : b < 8) : a ||| b < 8 := by
  have h : ∀ x y : Fin 8, x.val ||| y.val < 8 := by decide
  exact h ⟨a, ha⟩ ⟨b, hb⟩
end Go.Proofs.YtmcbedlmgffckaaGreatDoor

namespace Go.Proofs.YtmcbedlmgffckaaGreatDoor
open Go Go.RowKit Go.Sort

theorem bits_or {x y : Nat} (hx : x < 8) (hy : y < 8) : bits .or .i64 (x : Int) (y : Int) = ((x ||| y : Nat) : Int) := by
  have h : ∀ x y : Fin 8, bits .or .i64 (x.val : Int) (y.val : Int) = ((x.val ||| y.val : Nat) : Int) := by decide +kernel
  exact h ⟨x, hx⟩ ⟨y, hy⟩
theorem bits_and {x y : Nat} (hx : x < 8) (hy : y < 8) : (bits .and .i64 (x : Int) (y : Int) != 0) = (x &&& y != 0) := by
  have h : ∀ x y : Fin 8, (bits .and .i64 (x.val : Int) (y.val : Int) != 0) = (x.val &&& y.val != 0) := by decide +kernel
  exact h ⟨x, hx⟩ ⟨y, hy⟩
theorem bits_dna {x y : Nat} (hx : x < 8) (hy : y < 8) : (bits .and .i64 (x : Int) (y : Int) != 0) = (y &&& x != 0) := by
  rw [bits_and hx hy, Nat.and_comm]
theorem bits_andNot {x y : Nat} (hx : x < 8) (hy : y < 8) : (bits .andNot .i64 (x : Int) (y : Int) == 0) = leqN x y := by
  have h : ∀ x y : Fin 8, (bits .andNot .i64 (x.val : Int) (y.val : Int) == 0) = leqN x.val y.val := by decide +kernel
  exact h ⟨x, hx⟩ ⟨y, hy⟩

set_option maxHeartbeats 1000000 in
theorem gSane_any (s : Int) (w : World) :
    Calls Tryz.prog 90 #[.int .i64 s] w fun e w' => e = .returned (.bool (decide (0 ≤ s ∧ s ≤ 7))) ∧ Below w.heap.size w w' := by
  go_enter Tryz.func90, Tryz.ntmps90
  go_wp2
  all_goals
    go_ret
    refine ⟨ret_bool ?_, Below.refl _ _⟩
    rw [Bool.eq_iff_iff]
    simp at *
    try omega

set_option maxHeartbeats 1000000 in
theorem hSane_any (s : Int) (w : World) :
    Calls Tryz.prog 105 #[.int .i64 s] w fun e w' => e = .returned (.bool (decide (0 ≤ s ∧ s ≤ 7))) ∧ Below w.heap.size w w' := by
  go_enter Tryz.func105, Tryz.ntmps105
  go_wp2
  all_goals
    go_ret
    refine ⟨ret_bool ?_, Below.refl _ _⟩
    rw [Bool.eq_iff_iff]
    simp at *
    try omega

set_option maxHeartbeats 1000000 in
theorem gOf_any (s : Int) (w : World) :
    Calls Tryz.prog 57 #[.int .i64 s] w fun e w' => e = .returned (.int .i64 (sg s : Nat)) ∧ Below w.heap.size w w' := by
  go_enter Tryz.func57, Tryz.ntmps57
  go_wp2
  all_goals
    go_ret
    refine ⟨ret_int ?_, Below.refl _ _⟩
    rcases sg_cases s with h | h | h <;> omega

set_option maxHeartbeats 1000000 in
theorem hOf_any (s : Int) (w : World) :
    Calls Tryz.prog 65 #[.int .i64 s] w fun e w' => e = .returned (.int .i64 (sg s : Nat)) ∧ Below w.heap.size w w' := by
  go_enter Tryz.func65, Tryz.ntmps65
  go_wp2
  all_goals
    go_ret
    refine ⟨ret_int ?_, Below.refl _ _⟩
    try simp only [beq_iff_eq, beq_eq_false_iff_ne] at *
    rcases sg_cases s with h | h | h <;> omega

set_option maxHeartbeats 1000000 in
theorem gsn_any (s : Int) (w : World) :
    Calls Tryz.prog 104 #[.int .i64 s] w fun e w' => e = .returned (.int .i64 (sS s : Nat)) ∧ Below w.heap.size w w' := by
  have HC := Lib.hid (fun W => gSane_any s W)
  by_cases h : 0 ≤ s ∧ s ≤ 7
  · rw [decide_eq_true h] at HC
    rw [sS_in h]
    clear h
    go_enter Tryz.func104, Tryz.ntmps104
    go_wp2_with (go_at_call 90; refine (HC.out _).mono ?_; rintro e w1 ⟨rfl, hb⟩)
    go_ret
    exact ⟨rfl, hb⟩
  · rw [decide_eq_false h] at HC
    rw [sS_out h]
    clear h
    go_enter Tryz.func104, Tryz.ntmps104
    go_wp2_with (go_at_call 90; refine (HC.out _).mono ?_; rintro e w1 ⟨rfl, hb⟩)
    go_ret
    exact ⟨rfl, hb⟩

set_option maxHeartbeats 1000000 in
theorem hsn_any (s : Int) (w : World) :
    Calls Tryz.prog 101 #[.int .i64 s] w fun e w' => e = .returned (.int .i64 (sS s : Nat)) ∧ Below w.heap.size w w' := by
  have HC := Lib.hid (fun W => hSane_any s W)
  by_cases h : 0 ≤ s ∧ s ≤ 7
  · rw [decide_eq_true h] at HC
    rw [sS_in h]
    clear h
    go_enter Tryz.func101, Tryz.ntmps101
    go_wp2_with (go_at_call 105; refine (HC.out _).mono ?_; rintro e w1 ⟨rfl, hb⟩)
    go_ret
    exact ⟨rfl, hb⟩
  · rw [decide_eq_false h] at HC
    rw [sS_out h]
    clear h
    go_enter Tryz.func101, Tryz.ntmps101
    go_wp2_with (go_at_call 105; refine (HC.out _).mono ?_; rintro e w1 ⟨rfl, hb⟩)
    go_ret
    exact ⟨rfl, hb⟩



set_option maxHeartbeats 1000000 in
theorem hJoin_any (a b : Int) (w : World) :
    Calls Tryz.prog 94 #[.int .i64 a, .int .i64 b] w fun e w' => e = .returned (.int .i64 (sS a ||| sS b : Nat)) ∧ Below w.heap.size w w' := by
  have HA := Lib.hid (fun W => hsn_any a W)
  have HB := Lib.hid (fun W => hsn_any b W)
  have hx := sS_lt a
  have hy := sS_lt b
  generalize sS a = x at *
  generalize sS b = y at *
  have HBN : Hid (Below w.heap.size w w) := Below.refl _ _
  go_enter Tryz.func94, Tryz.ntmps94
  go_wp2_with (go_at_call 101; (first | with_reducible refine (HA.out _).mono ?_ | with_reducible refine (HB.out _).mono ?_); rintro e wn ⟨rfl, hbn⟩; have hbx := HBN.out.trans (hbn.mono HBN.out.size); clear HBN hbn; have HBN := Lib.hid hbx; clear hbx)
  go_ret
  exact ⟨ret_int (bits_or hx hy), HBN.out⟩





set_option maxHeartbeats 1000000 in
theorem has_any (a c : Int) (w : World) :
    Calls Tryz.prog 102 #[.int .i64 a, .int .i64 c] w fun e w' => e = .returned (.bool (hasN (sS a) c)) ∧ Below w.heap.size w w' := by
  have HA := Lib.hid (fun W => hsn_any a W)
  have HO := Lib.hid (fun W => hOf_any c W)
  have hx := sS_lt a
  have hy := sg_lt c
  unfold hasN
  generalize sS a = x at *
  generalize sg c = y at *
  have HBN : Hid (Below w.heap.size w w) := Below.refl _ _
  go_enter Tryz.func102, Tryz.ntmps102
  go_wp2_with (first
    | (go_at_call 101; with_reducible refine (HA.out _).mono ?_; rintro e wn ⟨rfl, hbn⟩; have hbx := HBN.out.trans (hbn.mono HBN.out.size); clear HBN hbn; have HBN := Lib.hid hbx; clear hbx)
    | (go_at_call 65; with_reducible refine (HO.out _).mono ?_; rintro e wn ⟨rfl, hbn⟩; have hbx := HBN.out.trans (hbn.mono HBN.out.size); clear HBN hbn; have HBN := Lib.hid hbx; clear hbx))
  go_ret
  exact ⟨ret_bool (bits_and hx hy), HBN.out⟩
end Go.Proofs.YtmcbedlmgffckaaGreatDoor

namespace Go.Proofs.YtmcbedlmgffckaaGreatDoor
open Go
theorem leq_or1 {x y : Nat} (hx : x < 8) (hy : y < 8) : leqN x (x ||| y) = true := by
  have h : ∀ x y : Fin 8, leqN x.val (x.val ||| y.val) = true := by decide +kernel
  exact h ⟨x, hx⟩ ⟨y, hy⟩
theorem leq_or2 {x y : Nat} (hx : x < 8) (hy : y < 8) : leqN y (x ||| y) = true := by
  have h : ∀ x y : Fin 8, leqN y.val (x.val ||| y.val) = true := by decide +kernel
  exact h ⟨x, hx⟩ ⟨y, hy⟩
theorem add_or {x y z : Nat} (hx : x < 8) (hy : y < 8) (hz : z < 8) : addN x z ||| addN y z = addN (x ||| y) z := by
  have h : ∀ x y z : Fin 8, addN x.val z.val ||| addN y.val z.val = addN (x.val ||| y.val) z.val := by decide +kernel
  exact h ⟨x, hx⟩ ⟨y, hy⟩ ⟨z, hz⟩
theorem mul_or {x y z : Nat} (hx : x < 8) (hy : y < 8) (hz : z < 8) : mulN x z ||| mulN y z = mulN (x ||| y) z := by
  have h : ∀ x y z : Fin 8, mulN x.val z.val ||| mulN y.val z.val = mulN (x.val ||| y.val) z.val := by decide +kernel
  exact h ⟨x, hx⟩ ⟨y, hy⟩ ⟨z, hz⟩
theorem sub_or {x y z : Nat} (hx : x < 8) (hy : y < 8) (hz : z < 8) : subN x z ||| subN y z = subN (x ||| y) z := add_or hx hy (negN_lt hz)
theorem neg_or {x y : Nat} (hx : x < 8) (hy : y < 8) : negN x ||| negN y = negN (x ||| y) := by
  have h : ∀ x y : Fin 8, negN x.val ||| negN y.val = negN (x.val ||| y.val) := by decide +kernel
  exact h ⟨x, hx⟩ ⟨y, hy⟩
theorem add_commN {x y : Nat} (hx : x < 8) (hy : y < 8) : addN x y = addN y x := by
  have h : ∀ x y : Fin 8, addN x.val y.val = addN y.val x.val := by decide +kernel
  exact h ⟨x, hx⟩ ⟨y, hy⟩
theorem mul_commN {x y : Nat} (hx : x < 8) (hy : y < 8) : mulN x y = mulN y x := by
  have h : ∀ x y : Fin 8, mulN x.val y.val = mulN y.val x.val := by decide +kernel
  exact h ⟨x, hx⟩ ⟨y, hy⟩
theorem lst_len (s : Nat) : (lst s).length ≤ 3 := tol_le _ _ _
theorem neg_neg {x : Nat} (hx : x < 8) : negN (negN x) = x := by
  have h : ∀ x : Fin 8, negN (negN x.val) = x.val := by decide +kernel
  exact h ⟨x, hx⟩
theorem add_zeroN {x : Nat} (hx : x < 8) : addN 0 x = 0 := by
  have h : ∀ x : Fin 8, addN 0 x.val = 0 := by decide +kernel
  exact h ⟨x, hx⟩
theorem mul_zeroN {x : Nat} (hx : x < 8) : mulN x 0 = 0 := by
  have h : ∀ x : Fin 8, mulN x.val 0 = 0 := by decide +kernel
  exact h ⟨x, hx⟩
theorem add_two {x : Nat} (hx : x < 8) : addN x 2 = x := by
  have h : ∀ x : Fin 8, addN x.val 2 = x.val := by decide +kernel
  exact h ⟨x, hx⟩
/-- A set is its signs. -/
def orL (l : List Int) : Nat := l.foldl (fun m x => m ||| sg x) 0
theorem orL_lt (l : List Int) : orL l < 8 := by
  have : ∀ (l : List Int) m, m < 8 → l.foldl (fun m x => m ||| sg x) m < 8 := by
    intro l
    induction l with
    | nil => intro m h; exact h
    | cons y r ih => intro m h; exact ih _ (or_lt h (sg_lt _))
  exact this l 0 (by decide)
theorem orL_lst {x : Nat} (hx : x < 8) : orL (lst x) = x := by
  have h : ∀ x : Fin 8, orL (lst x.val) = x.val := by decide +kernel
  exact h ⟨x, hx⟩
theorem lst_up (x : Nat) : (lst x).Pairwise (· < ·) := by
  unfold lst tol
  refine List.Pairwise.filter _ ?_
  decide
/-- A number's sign is among those that its parts make. -/
theorem sg_add (x y : Int) : leqN (sg (x + y)) (addN (sg x) (sg y)) = true := by
  rcases sg_cases x with ⟨h1, e1⟩ | ⟨h1, e1⟩ | ⟨h1, e1⟩ <;> rcases sg_cases y with ⟨h2, e2⟩ | ⟨h2, e2⟩ | ⟨h2, e2⟩ <;> rcases sg_cases (x + y) with ⟨h3, e3⟩ | ⟨h3, e3⟩ | ⟨h3, e3⟩ <;> rw [e1, e2, e3] <;> first | rfl | omega
theorem sg_neg (x : Int) : sg (-x) = negN (sg x) := by
  rcases sg_cases x with ⟨h1, e1⟩ | ⟨h1, e1⟩ | ⟨h1, e1⟩ <;> rcases sg_cases (-x) with ⟨h3, e3⟩ | ⟨h3, e3⟩ | ⟨h3, e3⟩ <;> rw [e1, e3] <;> first | rfl | omega
theorem sg_sub (x y : Int) : leqN (sg (x - y)) (subN (sg x) (sg y)) = true := by
  unfold subN
  rw [← sg_neg, Int.sub_eq_add_neg]
  exact sg_add x (-y)
theorem sg_mul (x y : Int) : leqN (sg (x * y)) (mulN (sg x) (sg y)) = true := by
  rcases sg_cases x with ⟨h1, e1⟩ | ⟨h1, e1⟩ | ⟨h1, e1⟩ <;> rcases sg_cases y with ⟨h2, e2⟩ | ⟨h2, e2⟩ | ⟨h2, e2⟩ <;> rw [e1, e2]
  · have := Int.mul_pos_of_neg_of_neg h1 h2
    rcases sg_cases (x * y) with ⟨h3, e3⟩ | ⟨h3, e3⟩ | ⟨h3, e3⟩ <;> rw [e3] <;> first | rfl | omega
  · subst h2; rw [Int.mul_zero]; rfl
  · have := Int.mul_neg_of_neg_of_pos h1 h2
    rcases sg_cases (x * y) with ⟨h3, e3⟩ | ⟨h3, e3⟩ | ⟨h3, e3⟩ <;> rw [e3] <;> first | rfl | omega
  · subst h1; rw [Int.zero_mul]; rfl
  · subst h1; rw [Int.zero_mul]; rfl
  · subst h1; rw [Int.zero_mul]; rfl
  · have := Int.mul_neg_of_pos_of_neg h1 h2
    rcases sg_cases (x * y) with ⟨h3, e3⟩ | ⟨h3, e3⟩ | ⟨h3, e3⟩ <;> rw [e3] <;> first | rfl | omega
  · subst h2; rw [Int.mul_zero]; rfl
  · have := Int.mul_pos h1 h2
    rcases sg_cases (x * y) with ⟨h3, e3⟩ | ⟨h3, e3⟩ | ⟨h3, e3⟩ <;> rw [e3] <;> first | rfl | omega
end Go.Proofs.YtmcbedlmgffckaaGreatDoor

namespace Go.Proofs.YtmcbedlmgffckaaGreatDoor
open Go Go.RowKit Go.Sort

theorem owns_below {W W' : World} {b : Nat} {e : TypeId} {size n : Nat} {v : Value} {xs : List Value} (h : W.ownsRow b e size v n xs) (hb : Below W.heap.size W W') : W'.ownsRow b e size v n xs :=
  ⟨h.1, h.2.imp id fun ⟨g, cap, cur, a, hg, hc, r⟩ => ⟨g, cap, cur, a, hg, (hb.block g (Array.getElem?_eq_some_iff.1 hc).1).trans hc, r⟩⟩

set_option maxRecDepth 100000 in
set_option maxHeartbeats 2000000 in
theorem hList_any (s : Int) (w : World) :
    Calls Tryz.prog 95 #[.int .i64 s] w fun e w' => ∃ u, e = .returned u ∧ w'.ownsRow w.heap.size 3 1 u (tol (hasN (sS s)) (-1) 3).length ((tol (hasN (sS s)) (-1) 3).map (Value.int .i64)) ∧ Below w.heap.size w w' := by
  obtain ⟨p, hp⟩ : ∃ p, hasN (sS s) = p := ⟨_, rfl⟩
  rw [hp]
  have cP : Hid (∀ (z : Int) (W : World), Calls Tryz.prog 102 #[.int .i64 s, .int .i64 z] W fun e w' => e = .returned (.bool (p z)) ∧ Below W.heap.size W w') := fun z W => by
    rw [← hp]; exact has_any s z W
  clear hp
  obtain ⟨i0, hi, hz0, hz1, hz2⟩ := info_parts info3
  go_enter Tryz.func95, Tryz.ntmps95
  go_wp2_with fail
  go_loopw [3, 4] (fun v i wr => ∃ z : Int, -1 ≤ z ∧ z ≤ 2 ∧ i = .int .i64 z ∧ Hid (wr.ownsRow w.heap.size 3 1 v (tol p (-1) (z - (-1)).toNat).length ((tol p (-1) (z - (-1)).toNat).map (Value.int .i64))) ∧ Hid (Below w.heap.size w wr)) (fun _ i _ => (2 - intOf i).toNat)
  case atStart => exact ⟨-1, by decide, by decide, rfl, World.ownsRow_nil _ _ _ _, Below.refl _ _⟩
  case round =>
    obtain ⟨z, hz1', hz2', rfl, hown, hBw⟩ := hrel
    by_cases hlt : z < 2
    · have cj := Lib.hid (cP.out z)
      obtain ⟨q, hq⟩ : ∃ q : Nat, (z - (-1)).toNat = q := ⟨_, rfl⟩
      have hqs : (z + 1 - (-1)).toNat = q + 1 := by omega
      have hts := tol_succ p (-1) q
      rw [show (-1 : Int) + (q : Int) = z by omega] at hts
      have htl := tol_le p (-1) q
      have hq3 : q ≤ 3 := by omega
      rw [hq] at hown
      have HQS := Lib.hid hqs
      clear hqs
      obtain ⟨pz, hpz⟩ : ∃ pz, p z = pz := ⟨_, rfl⟩
      rw [hpz] at cj hts
      have HTS := Lib.hid hts
      clear hpz hts hq

      cases pz with
      | true =>
        have h63 : (tol p (-1) q).length + 1 ≤ maxLen := by unfold maxLen; omega
        have hby : ((tol p (-1) q).length + 1) * 8 ≤ 140737488355328 := by omega
        go_wp2_with (first
          | (go_at_call 102; refine (cj.out _).mono ?_; rintro e wn ⟨rfl, hbn⟩; have hbx := hBw.out.trans (hbn.mono hBw.out.size); have HWN := Lib.hid hbx; have HSZ := Lib.hid hbn; clear hbn hbx)
          | (at_builtin; refine wpList_append_own _ rfl _ _ 25 rfl w.heap.size 3 i0 (.int .i64 0) 1 8 Tryz.underlying25 hi hz0 hz1 hz2 rfl (by decide) _ _ _ rfl ((owns_below hown.out HSZ.out).alloc _) ⟨_, 0, none⟩ 1 1 [.int .i64 z] rfl rfl (cell_one_new _ _ _) (by simp [Value.oneCell']) h63 hby (by have := HWN.out.size; simp; omega) ?_; intro v' w4 hown' hgrow _; have HO := Lib.hid hown'; have HG := Lib.hid hgrow; clear hown' hgrow))
        go_roundw
        case rel =>
          have e : tol p (-1) (q + 1) = tol p (-1) q ++ [z] := HTS.out
          refine ⟨z + 1, by omega, by omega, rfl, ?_, ?_⟩
          · show w4.ownsRow _ 3 1 _ (tol p (-1) (z + 1 - (-1)).toNat).length ((tol p (-1) (z + 1 - (-1)).toNat).map _)
            rw [HQS.out, e]
            simpa using HO.out
          · exact owns_grown (HWN.out.alloc HWN.out.size _) ((owns_below hown.out HSZ.out).alloc _) HG.out (by have := HWN.out.size; simp; omega)
        case measure => simp [intOf]; omega
      | false =>
        go_wp2_with (go_at_call 102; refine (cj.out _).mono ?_; rintro e wn ⟨rfl, hbn⟩; have hbx := hBw.out.trans (hbn.mono hBw.out.size); have HWN := Lib.hid hbx; have HSZ := Lib.hid hbn; clear hbn hbx)
        go_roundw
        case rel =>
          have e : tol p (-1) (q + 1) = tol p (-1) q ++ [] := HTS.out
          rw [List.append_nil] at e
          refine ⟨z + 1, by omega, by omega, rfl, ?_, HWN⟩
          show wn.ownsRow _ 3 1 _ (tol p (-1) (z + 1 - (-1)).toNat).length ((tol p (-1) (z + 1 - (-1)).toNat).map _)
          rw [HQS.out, e]; exact owns_below hown.out HSZ.out
        case measure => simp [intOf]; omega
    · obtain rfl : z = 2 := by omega
      go_wp2
      go_ret
      exact ⟨_, rfl, hown.out, hBw.out⟩

set_option maxRecDepth 100000 in
set_option maxHeartbeats 2000000 in
theorem some_any (s : Int) (w : World) :
    Calls Tryz.prog 103 #[.int .i64 s] w fun e w' => ∃ u, e = .returned u ∧ w'.ownsRow w.heap.size 3 1 u (tol (hasN (sS s)) (-2) 5).length ((tol (hasN (sS s)) (-2) 5).map (Value.int .i64)) ∧ Below w.heap.size w w' := by
  obtain ⟨p, hp⟩ : ∃ p, hasN (sS s) = p := ⟨_, rfl⟩
  rw [hp]
  have cP : Hid (∀ (z : Int) (W : World), Calls Tryz.prog 102 #[.int .i64 s, .int .i64 z] W fun e w' => e = .returned (.bool (p z)) ∧ Below W.heap.size W w') := fun z W => by
    rw [← hp]; exact has_any s z W
  clear hp
  obtain ⟨i0, hi, hz0, hz1, hz2⟩ := info_parts info3
  go_enter Tryz.func103, Tryz.ntmps103
  go_wp2_with fail
  go_loopw [3, 4] (fun v i wr => ∃ z : Int, -2 ≤ z ∧ z ≤ 3 ∧ i = .int .i64 z ∧ Hid (wr.ownsRow w.heap.size 3 1 v (tol p (-2) (z - (-2)).toNat).length ((tol p (-2) (z - (-2)).toNat).map (Value.int .i64))) ∧ Hid (Below w.heap.size w wr)) (fun _ i _ => (3 - intOf i).toNat)
  case atStart => exact ⟨-2, by decide, by decide, rfl, World.ownsRow_nil _ _ _ _, Below.refl _ _⟩
  case round =>
    obtain ⟨z, hz1', hz2', rfl, hown, hBw⟩ := hrel
    by_cases hlt : z < 3
    · have cj := Lib.hid (cP.out z)
      obtain ⟨q, hq⟩ : ∃ q : Nat, (z - (-2)).toNat = q := ⟨_, rfl⟩
      have hqs : (z + 1 - (-2)).toNat = q + 1 := by omega
      have hts := tol_succ p (-2) q
      rw [show (-2 : Int) + (q : Int) = z by omega] at hts
      have htl := tol_le p (-2) q
      have hq3 : q ≤ 5 := by omega
      rw [hq] at hown
      have HQS := Lib.hid hqs
      clear hqs
      obtain ⟨pz, hpz⟩ : ∃ pz, p z = pz := ⟨_, rfl⟩
      rw [hpz] at cj hts
      have HTS := Lib.hid hts
      clear hpz hts hq

      cases pz with
      | true =>
        have h63 : (tol p (-2) q).length + 1 ≤ maxLen := by unfold maxLen; omega
        have hby : ((tol p (-2) q).length + 1) * 8 ≤ 140737488355328 := by omega
        go_wp2_with (first
          | (go_at_call 102; refine (cj.out _).mono ?_; rintro e wn ⟨rfl, hbn⟩; have hbx := hBw.out.trans (hbn.mono hBw.out.size); have HWN := Lib.hid hbx; have HSZ := Lib.hid hbn; clear hbn hbx)
          | (at_builtin; refine wpList_append_own _ rfl _ _ 25 rfl w.heap.size 3 i0 (.int .i64 0) 1 8 Tryz.underlying25 hi hz0 hz1 hz2 rfl (by decide) _ _ _ rfl ((owns_below hown.out HSZ.out).alloc _) ⟨_, 0, none⟩ 1 1 [.int .i64 z] rfl rfl (cell_one_new _ _ _) (by simp [Value.oneCell']) h63 hby (by have := HWN.out.size; simp; omega) ?_; intro v' w4 hown' hgrow _; have HO := Lib.hid hown'; have HG := Lib.hid hgrow; clear hown' hgrow))
        go_roundw
        case rel =>
          have e : tol p (-2) (q + 1) = tol p (-2) q ++ [z] := HTS.out
          refine ⟨z + 1, by omega, by omega, rfl, ?_, ?_⟩
          · show w4.ownsRow _ 3 1 _ (tol p (-2) (z + 1 - (-2)).toNat).length ((tol p (-2) (z + 1 - (-2)).toNat).map _)
            rw [HQS.out, e]
            simpa using HO.out
          · exact owns_grown (HWN.out.alloc HWN.out.size _) ((owns_below hown.out HSZ.out).alloc _) HG.out (by have := HWN.out.size; simp; omega)
        case measure => simp [intOf]; omega
      | false =>
        go_wp2_with (go_at_call 102; refine (cj.out _).mono ?_; rintro e wn ⟨rfl, hbn⟩; have hbx := hBw.out.trans (hbn.mono hBw.out.size); have HWN := Lib.hid hbx; have HSZ := Lib.hid hbn; clear hbn hbx)
        go_roundw
        case rel =>
          have e : tol p (-2) (q + 1) = tol p (-2) q ++ [] := HTS.out
          rw [List.append_nil] at e
          refine ⟨z + 1, by omega, by omega, rfl, ?_, HWN⟩
          show wn.ownsRow _ 3 1 _ (tol p (-2) (z + 1 - (-2)).toNat).length ((tol p (-2) (z + 1 - (-2)).toNat).map _)
          rw [HQS.out, e]; exact owns_below hown.out HSZ.out
        case measure => simp [intOf]; omega
    · obtain rfl : z = 3 := by omega
      go_wp2
      go_ret
      exact ⟨_, rfl, hown.out, hBw.out⟩

set_option maxRecDepth 100000 in
set_option maxHeartbeats 2000000 in
theorem gList_any (s : Int) (w : World) :
    Calls Tryz.prog 100 #[.int .i64 s] w fun e w' => ∃ u, e = .returned u ∧ w'.ownsRow w.heap.size 3 1 u (tol (hasN (sS s)) (-1) 3).length ((tol (hasN (sS s)) (-1) 3).map (Value.int .i64)) ∧ Below w.heap.size w w' := by
  have HS := Lib.hid (fun W => gsn_any s W)
  have hx := sS_lt s
  generalize sS s = x at *
  obtain ⟨p, hp⟩ : ∃ p, hasN x = p := ⟨_, rfl⟩
  rw [hp]
  have hpz : ∀ z, p z = (bits .and .i64 ((sg z : Nat) : Int) (x : Int) != 0) := fun z => by rw [bits_dna (sg_lt z) hx, ← hp]; rfl
  have HP := Lib.hid hpz
  have cP : Hid (∀ (z : Int) (W : World), Calls Tryz.prog 57 #[.int .i64 z] W fun e w' => e = .returned (.int .i64 (sg z : Nat)) ∧ Below W.heap.size W w') := fun z W => gOf_any z W
  clear hp hpz hx
  obtain ⟨i0, hi, hz0, hz1, hz2⟩ := info_parts info3
  go_enter Tryz.func100, Tryz.ntmps100
  go_wp2_with fail
  refine (HS.out _).mono ?_
  clear HS
  rintro e w1 ⟨rfl, hb⟩
  have HB1 := Lib.hid hb
  clear hb
  go_wp2_with fail
  go_loopw [3, 4] (fun v i wr => ∃ z : Int, -1 ≤ z ∧ z ≤ 2 ∧ i = .int .i64 z ∧ Hid (wr.ownsRow w.heap.size 3 1 v (tol p (-1) (z - (-1)).toNat).length ((tol p (-1) (z - (-1)).toNat).map (Value.int .i64))) ∧ Hid (Below w.heap.size w wr)) (fun _ i _ => (2 - intOf i).toNat)
  case atStart => exact ⟨-1, by decide, by decide, rfl, World.ownsRow_made _ _ _ HB1.out.size (by decide) rfl, HB1.out.alloc HB1.out.size _⟩
  case round =>
    obtain ⟨z, hz1', hz2', rfl, hown, hBw⟩ := hrel
    by_cases hlt : z < 2
    · have cj := Lib.hid (cP.out z)
      obtain ⟨q, hq⟩ : ∃ q : Nat, (z - (-1)).toNat = q := ⟨_, rfl⟩
      have hqs : (z + 1 - (-1)).toNat = q + 1 := by omega
      have hts := tol_succ p (-1) q
      rw [show (-1 : Int) + (q : Int) = z by omega] at hts
      have htl := tol_le p (-1) q
      have hq3 : q ≤ 3 := by omega
      rw [hq] at hown
      have HQS := Lib.hid hqs
      clear hqs
      obtain ⟨pz, hpz⟩ : ∃ pz, p z = pz := ⟨_, rfl⟩
      have hbit := HP.out z
      rw [hpz] at hts hbit
      replace hbit := hbit.symm
      have HTS := Lib.hid hts
      clear hpz hts hq
      generalize sg z = g at *
      cases pz with
      | true =>
        have h63 : (tol p (-1) q).length + 1 ≤ maxLen := by unfold maxLen; omega
        have hby : ((tol p (-1) q).length + 1) * 8 ≤ 140737488355328 := by omega
        go_wp2_with (first
          | (go_at_call 57; refine (cj.out _).mono ?_; rintro e wn ⟨rfl, hbn⟩; have hbx := hBw.out.trans (hbn.mono hBw.out.size); have HWN := Lib.hid hbx; have HSZ := Lib.hid hbn; clear hbn hbx)
          | (at_builtin; refine wpList_append_own _ rfl _ _ 25 rfl w.heap.size 3 i0 (.int .i64 0) 1 8 Tryz.underlying25 hi hz0 hz1 hz2 rfl (by decide) _ _ _ rfl ((owns_below hown.out HSZ.out).alloc _) ⟨_, 0, none⟩ 1 1 [.int .i64 z] rfl rfl (cell_one_new _ _ _) (by simp [Value.oneCell']) h63 hby (by have := HWN.out.size; simp; omega) ?_; intro v' w4 hown' hgrow _; have HO := Lib.hid hown'; have HG := Lib.hid hgrow; clear hown' hgrow))
        go_roundw
        case rel =>
          have e : tol p (-1) (q + 1) = tol p (-1) q ++ [z] := HTS.out
          refine ⟨z + 1, by omega, by omega, rfl, ?_, ?_⟩
          · show w4.ownsRow _ 3 1 _ (tol p (-1) (z + 1 - (-1)).toNat).length ((tol p (-1) (z + 1 - (-1)).toNat).map _)
            rw [HQS.out, e]
            simpa using HO.out
          · exact owns_grown (HWN.out.alloc HWN.out.size _) ((owns_below hown.out HSZ.out).alloc _) HG.out (by have := HWN.out.size; simp; omega)
        case measure => simp [intOf]; omega
      | false =>
        go_wp2_with (go_at_call 57; refine (cj.out _).mono ?_; rintro e wn ⟨rfl, hbn⟩; have hbx := hBw.out.trans (hbn.mono hBw.out.size); have HWN := Lib.hid hbx; have HSZ := Lib.hid hbn; clear hbn hbx)
        go_roundw
        case rel =>
          have e : tol p (-1) (q + 1) = tol p (-1) q ++ [] := HTS.out
          rw [List.append_nil] at e
          refine ⟨z + 1, by omega, by omega, rfl, ?_, HWN⟩
          show wn.ownsRow _ 3 1 _ (tol p (-1) (z + 1 - (-1)).toNat).length ((tol p (-1) (z + 1 - (-1)).toNat).map _)
          rw [HQS.out, e]; exact owns_below hown.out HSZ.out
        case measure => simp [intOf]; omega
    · obtain rfl : z = 2 := by omega
      go_wp2
      go_ret
      exact ⟨_, rfl, hown.out, hBw.out⟩
end Go.Proofs.YtmcbedlmgffckaaGreatDoor

namespace Go.Proofs.YtmcbedlmgffckaaGreatDoor
open Go Go.RowKit Go.Sort

/-- The two tables, as they are laid. -/
structure Tabs (W : World) : Prop where
  s : ∀ j, j < 9 → W.cell? ⟨1, j, none⟩ = some (.int .i64 ((sumsL.getD j 0 : Nat) : Int))
  p : ∀ j, j < 9 → W.cell? ⟨2, j, none⟩ = some (.int .i64 ((prodsL.getD j 0 : Nat) : Int))

theorem Tabs.below {W W' : World} (h : Tabs W) {B : Nat} (hb : Below B W W') (hB : 1 < B ∧ 2 < B) : Tabs W' :=
  ⟨fun j hj => (hb.cell (p := ⟨1, j, none⟩) hB.1).trans (h.s j hj), fun j hj => (hb.cell (p := ⟨2, j, none⟩) hB.2).trans (h.p j hj)⟩
theorem Tabs.lt {W : World} (h : Tabs W) : 1 < W.heap.size ∧ 2 < W.heap.size := ⟨block_lt_of_cell (h.s 0 (by decide)), block_lt_of_cell (h.p 0 (by decide))⟩
theorem Tabs.on {w W : World} (h : Tabs w) (hb : Below w.heap.size w W) : Tabs W := h.below hb h.lt

theorem getD_lt {l : List Nat} (h : ∀ n ∈ l, n < 8) (j : Nat) : l.getD j 0 < 8 := by
  rw [List.getD_eq_getElem?_getD]
  cases e : l[j]? with
  | none => simp
  | some n => exact h n (List.mem_of_getElem? e)
theorem tbl_s (x y : Int) : tbl sumsL x y < 8 := getD_lt (by decide) _
theorem tbl_p (x y : Int) : tbl prodsL x y < 8 := getD_lt (by decide) _
theorem row_lt {f : Int → Int → Nat} (hf : ∀ x y, f x y < 8) (x : Int) (l : List Int) : ∀ m, m < 8 → row f x l m < 8 := by
  induction l with
  | nil => intro m h; exact h
  | cons y r ih => intro m h; exact ih _ (or_lt h (hf x y))
def cmbTo (f : Int → Int → Nat) (k l : List Int) : Nat := k.foldl (fun m x => row f x l m) 0
theorem foldl_lt {f : Int → Int → Nat} (hf : ∀ x y, f x y < 8) (l k : List Int) : ∀ m, m < 8 → k.foldl (fun m x => row f x l m) m < 8 := by
  induction k with
  | nil => intro m h; exact h
  | cons y r ih => intro m h; exact ih _ (row_lt hf y l m h)
theorem cmbTo_lt {f : Int → Int → Nat} (hf : ∀ x y, f x y < 8) (k l : List Int) : cmbTo f k l < 8 := foldl_lt hf l k 0 (by decide)
theorem take_next {l : List Int} {q : Nat} {x : Int} (hq : q < l.length) (hx : l[q]?.getD 0 = x) : l.take (q + 1) = l.take q ++ [x] := by
  rw [List.take_succ_eq_append_getElem hq, ← hx]; simp [hq]
theorem lst_mem {s : Nat} {x : Int} (h : x ∈ lst s) : x = -1 ∨ x = 0 ∨ x = 1 := by
  have := (List.mem_filter.1 h).1
  simpa [List.range_succ] using this
theorem get_mem {l : List Int} {q : Nat} {x : Int} (hq : q < l.length) (hx : l[q]?.getD 0 = x) : x ∈ l := by
  have e : l[q] = x := by simpa [hq] using hx
  exact e ▸ List.getElem_mem hq

set_option maxHeartbeats 2000000 in
theorem gsum_any (x y : Int) (w : World) (hT : Tabs w) (hx : x = -1 ∨ x = 0 ∨ x = 1) (hy : y = -1 ∨ y = 0 ∨ y = 1) :
    Calls Tryz.prog 92 #[.int .i64 x, .int .i64 y] w fun e w' => e = .returned (.int .i64 (tbl sumsL x y : Nat)) ∧ Below w.heap.size w w' := by
  have t0 := hT.s 0 (by decide)
  have t1 := hT.s 1 (by decide)
  have t2 := hT.s 2 (by decide)
  have t3 := hT.s 3 (by decide)
  have t4 := hT.s 4 (by decide)
  have t5 := hT.s 5 (by decide)
  have t6 := hT.s 6 (by decide)
  have t7 := hT.s 7 (by decide)
  have t8 := hT.s 8 (by decide)
  simp only [sumsL, List.getD_cons_zero, List.getD_cons_succ] at t0 t1 t2 t3 t4 t5 t6 t7 t8
  clear hT
  rcases hx with rfl | rfl | rfl <;> rcases hy with rfl | rfl | rfl
  all_goals
    go_enter Tryz.func92, Tryz.ntmps92
    go_wp2
    go_ret
    exact ⟨rfl, Below.refl _ _⟩

set_option maxHeartbeats 2000000 in
theorem gproduct_any (x y : Int) (w : World) (hT : Tabs w) (hx : x = -1 ∨ x = 0 ∨ x = 1) (hy : y = -1 ∨ y = 0 ∨ y = 1) :
    Calls Tryz.prog 93 #[.int .i64 x, .int .i64 y] w fun e w' => e = .returned (.int .i64 (tbl prodsL x y : Nat)) ∧ Below w.heap.size w w' := by
  have t0 := hT.p 0 (by decide)
  have t1 := hT.p 1 (by decide)
  have t2 := hT.p 2 (by decide)
  have t3 := hT.p 3 (by decide)
  have t4 := hT.p 4 (by decide)
  have t5 := hT.p 5 (by decide)
  have t6 := hT.p 6 (by decide)
  have t7 := hT.p 7 (by decide)
  have t8 := hT.p 8 (by decide)
  simp only [prodsL, List.getD_cons_zero, List.getD_cons_succ] at t0 t1 t2 t3 t4 t5 t6 t7 t8
  clear hT
  rcases hx with rfl | rfl | rfl <;> rcases hy with rfl | rfl | rfl
  all_goals
    go_enter Tryz.func93, Tryz.ntmps93
    go_wp2
    go_ret
    exact ⟨rfl, Below.refl _ _⟩

set_option maxRecDepth 100000 in
set_option maxHeartbeats 4000000 in
theorem gcomb_sum (a b : Int) (w : World) (hT : Tabs w) :
    Calls Tryz.prog 91 #[.int .i64 a, .int .i64 b, .func (Fn.func 92) #[] #[]] w fun e w' => e = .returned (.int .i64 (cmb (tbl sumsL) (lst (sS a)) (lst (sS b)) : Nat)) ∧ Below w.heap.size w w' := by
  have HA := Lib.hid (fun W => gList_any a W)
  have HB := Lib.hid (fun W => gList_any b W)
  have HMa : Hid (∀ x ∈ lst (sS a), x = -1 ∨ x = 0 ∨ x = 1) := fun x h => lst_mem h
  have HMb : Hid (∀ x ∈ lst (sS b), x = -1 ∨ x = 0 ∨ x = 1) := fun x h => lst_mem h
  have HLa : Hid ((lst (sS a)).length ≤ 3) := tol_le _ _ _
  have HLb : Hid ((lst (sS b)).length ≤ 3) := tol_le _ _ _
  change Hid (∀ W, Calls Tryz.prog 100 #[.int .i64 a] W fun e w' => ∃ u, e = .returned u ∧ w'.ownsRow W.heap.size 3 1 u (lst (sS a)).length ((lst (sS a)).map (Value.int .i64)) ∧ Below W.heap.size W w') at HA
  change Hid (∀ W, Calls Tryz.prog 100 #[.int .i64 b] W fun e w' => ∃ u, e = .returned u ∧ w'.ownsRow W.heap.size 3 1 u (lst (sS b)).length ((lst (sS b)).map (Value.int .i64)) ∧ Below W.heap.size W w') at HB
  generalize lst (sS a) = k at *
  generalize lst (sS b) = l at *
  have HF : Hid (∀ x y W, Below w.heap.size w W → (x = -1 ∨ x = 0 ∨ x = 1) → (y = -1 ∨ y = 0 ∨ y = 1) → Calls Tryz.prog 92 #[.int .i64 x, .int .i64 y] W fun e w' => e = .returned (.int .i64 (tbl sumsL x y : Nat)) ∧ Below W.heap.size W w') := fun x y W hW hx hy => gsum_any x y W (hT.on hW) hx hy
  have hf : Hid (∀ x y, tbl sumsL x y < 8) := tbl_s
  clear hT
  change Calls Tryz.prog _ _ w fun e w' => e = .returned (.int .i64 (cmbTo (tbl sumsL) k l : Nat)) ∧ _
  generalize tbl sumsL = f at *
  obtain ⟨T, hTl⟩ : ∃ T, k.length = T := ⟨_, rfl⟩
  obtain ⟨U, hUl⟩ : ∃ U, l.length = U := ⟨_, rfl⟩
  rw [hTl] at HA
  rw [hUl] at HB
  have hT3 : T ≤ 3 := by rw [← hTl]; exact HLa.out
  have hU3 : U ≤ 3 := by rw [← hUl]; exact HLb.out
  have HTl := Lib.hid hTl
  have HUl := Lib.hid hUl
  clear hTl hUl HLa HLb
  go_enter Tryz.func91, Tryz.ntmps91
  go_wp2_with fail
  refine (HA.out _).mono ?_
  clear HA
  rintro e w1 ⟨u, rfl, hown, hb⟩
  obtain ⟨a1, c1, rfl, -, hIs⟩ := is_of_ints hown
  have HI1 := Lib.hid hIs
  have HB1 := Lib.hid hb
  clear hown hIs hb
  go_wp2_with fail
  go_loopw [7, 15] (fun m i wr => ∃ q : Nat, q ≤ T ∧ i = .int .i64 q ∧ m = .int .i64 (cmbTo f (k.take q) l : Nat) ∧ Hid (Below w1.heap.size w1 wr)) (fun _ i _ => T - (intOf i).toNat)
  case atStart => exact ⟨0, Nat.zero_le _, rfl, rfl, Below.refl _ _⟩
  case round =>
    obtain ⟨q, hq, rfl, rfl, hBw⟩ := hrel
    by_cases hlt : q < T
    · obtain ⟨b, o, rfl, hbl, hcell⟩ := HI1.out q (by rw [HTl.out]; exact hlt)
      have hcx := (hBw.out.cell (p := ⟨b, o + q, none⟩) hbl).trans hcell
      obtain ⟨x, hx⟩ : ∃ x, k[q]?.getD 0 = x := ⟨_, rfl⟩
      rw [hx] at hcx
      have hqk : q < k.length := by rw [HTl.out]; exact hlt
      have HX := Lib.hid (take_next hqk hx)
      have HXm := Lib.hid (HMa.out x (get_mem hqk hx))
      have HM0 := Lib.hid (cmbTo_lt hf.out (k.take q) l)
      have HE : Hid (cmbTo f (k.take (q + 1)) l = row f x l (cmbTo f (k.take q) l)) := by rw [Hid, HX.out]; simp [cmbTo]
      generalize cmbTo f (k.take q) l = m0 at *
      have hqi : (q : Int) < (T : Int) := by omega
      clear hcell hx hqk
      go_wp2_with fail
      refine (HB.out _).mono ?_
      rintro e w2 ⟨u, rfl, hown, hb⟩
      obtain ⟨a2, c2, rfl, -, hIs⟩ := is_of_ints hown
      have HI2 := Lib.hid hIs
      have HB2 := Lib.hid (hBw.out.trans (hb.mono hBw.out.size))
      clear hown hIs hb hcx
      go_wp2_with fail
      go_loopw [7, 22] (fun m i wr => ∃ r : Nat, r ≤ U ∧ i = .int .i64 r ∧ m = .int .i64 (row f x (l.take r) m0 : Nat) ∧ Hid (Below w2.heap.size w2 wr)) (fun _ i _ => U - (intOf i).toNat)
      case atStart => exact ⟨0, Nat.zero_le _, rfl, rfl, Below.refl _ _⟩
      case round =>
        obtain ⟨r, hr, rfl, rfl, hBr⟩ := hrel
        by_cases hlr : r < U
        · obtain ⟨b2, o2, rfl, hbl2, hcell2⟩ := HI2.out r (by rw [HUl.out]; exact hlr)
          have hcy := (hBr.out.cell (p := ⟨b2, o2 + r, none⟩) hbl2).trans hcell2
          obtain ⟨y, hy⟩ : ∃ y, l[r]?.getD 0 = y := ⟨_, rfl⟩
          rw [hy] at hcy
          have hrk : r < l.length := by rw [HUl.out]; exact hlr
          have HY := Lib.hid (take_next hrk hy)
          have HYm := Lib.hid (HMb.out y (get_mem hrk hy))
          have HM1 := Lib.hid (row_lt hf.out x (l.take r) m0 HM0.out)
          have HE2 : Hid (row f x (l.take (r + 1)) m0 = row f x (l.take r) m0 ||| f x y) := by rw [Hid, HY.out]; simp [row]
          have HC := Lib.hid (HF.out x y wr (HB1.out.trans ((HB2.out.trans (hBr.out.mono HB2.out.size)).mono HB1.out.size)) HXm.out HYm.out)
          have HFL := Lib.hid (hf.out x y)
          generalize row f x (l.take r) m0 = m1 at *
          generalize f x y = fv at *
          have hri : (r : Int) < (U : Int) := by omega
          clear hcell2 hy hrk
          go_wp2_with (go_at_call 92; refine HC.out.mono ?_; rintro e w3 ⟨rfl, hb⟩; have HB3 := Lib.hid (hBr.out.trans (hb.mono hBr.out.size)); clear hb)
          go_roundw
          case rel =>
            refine ⟨r + 1, by omega, by go_num, ?_, HB3⟩
            rw [HE2.out, bits_or HM1.out HFL.out]
          case measure => simp [intOf]; omega
        · obtain rfl : r = U := by omega
          go_wp2_with fail
          go_roundw
          case rel =>
            refine ⟨q + 1, by omega, by go_num, ?_, HB2.out.trans (hBr.out.mono HB2.out.size)⟩
            rw [HE.out, List.take_of_length_le (by rw [HUl.out]; exact Nat.le_refl _)]
          case measure => simp [intOf]; omega
    · obtain rfl : q = T := by omega
      go_wp2_with fail
      go_ret
      refine ⟨ret_int ?_, HB1.out.trans (hBw.out.mono HB1.out.size)⟩
      rw [List.take_of_length_le (by rw [HTl.out]; exact Nat.le_refl _)]

set_option maxRecDepth 100000 in
set_option maxHeartbeats 4000000 in
theorem gcomb_product (a b : Int) (w : World) (hT : Tabs w) :
    Calls Tryz.prog 91 #[.int .i64 a, .int .i64 b, .func (Fn.func 93) #[] #[]] w fun e w' => e = .returned (.int .i64 (cmb (tbl prodsL) (lst (sS a)) (lst (sS b)) : Nat)) ∧ Below w.heap.size w w' := by
  have HA := Lib.hid (fun W => gList_any a W)
  have HB := Lib.hid (fun W => gList_any b W)
  have HMa : Hid (∀ x ∈ lst (sS a), x = -1 ∨ x = 0 ∨ x = 1) := fun x h => lst_mem h
  have HMb : Hid (∀ x ∈ lst (sS b), x = -1 ∨ x = 0 ∨ x = 1) := fun x h => lst_mem h
  have HLa : Hid ((lst (sS a)).length ≤ 3) := tol_le _ _ _
  have HLb : Hid ((lst (sS b)).length ≤ 3) := tol_le _ _ _
  change Hid (∀ W, Calls Tryz.prog 100 #[.int .i64 a] W fun e w' => ∃ u, e = .returned u ∧ w'.ownsRow W.heap.size 3 1 u (lst (sS a)).length ((lst (sS a)).map (Value.int .i64)) ∧ Below W.heap.size W w') at HA
  change Hid (∀ W, Calls Tryz.prog 100 #[.int .i64 b] W fun e w' => ∃ u, e = .returned u ∧ w'.ownsRow W.heap.size 3 1 u (lst (sS b)).length ((lst (sS b)).map (Value.int .i64)) ∧ Below W.heap.size W w') at HB
  generalize lst (sS a) = k at *
  generalize lst (sS b) = l at *
  have HF : Hid (∀ x y W, Below w.heap.size w W → (x = -1 ∨ x = 0 ∨ x = 1) → (y = -1 ∨ y = 0 ∨ y = 1) → Calls Tryz.prog 93 #[.int .i64 x, .int .i64 y] W fun e w' => e = .returned (.int .i64 (tbl prodsL x y : Nat)) ∧ Below W.heap.size W w') := fun x y W hW hx hy => gproduct_any x y W (hT.on hW) hx hy
  have hf : Hid (∀ x y, tbl prodsL x y < 8) := tbl_p
  clear hT
  change Calls Tryz.prog _ _ w fun e w' => e = .returned (.int .i64 (cmbTo (tbl prodsL) k l : Nat)) ∧ _
  generalize tbl prodsL = f at *
  obtain ⟨T, hTl⟩ : ∃ T, k.length = T := ⟨_, rfl⟩
  obtain ⟨U, hUl⟩ : ∃ U, l.length = U := ⟨_, rfl⟩
  rw [hTl] at HA
  rw [hUl] at HB
  have hT3 : T ≤ 3 := by rw [← hTl]; exact HLa.out
  have hU3 : U ≤ 3 := by rw [← hUl]; exact HLb.out
  have HTl := Lib.hid hTl
  have HUl := Lib.hid hUl
  clear hTl hUl HLa HLb
  go_enter Tryz.func91, Tryz.ntmps91
  go_wp2_with fail
  refine (HA.out _).mono ?_
  clear HA
  rintro e w1 ⟨u, rfl, hown, hb⟩
  obtain ⟨a1, c1, rfl, -, hIs⟩ := is_of_ints hown
  have HI1 := Lib.hid hIs
  have HB1 := Lib.hid hb
  clear hown hIs hb
  go_wp2_with fail
  go_loopw [7, 15] (fun m i wr => ∃ q : Nat, q ≤ T ∧ i = .int .i64 q ∧ m = .int .i64 (cmbTo f (k.take q) l : Nat) ∧ Hid (Below w1.heap.size w1 wr)) (fun _ i _ => T - (intOf i).toNat)
  case atStart => exact ⟨0, Nat.zero_le _, rfl, rfl, Below.refl _ _⟩
  case round =>
    obtain ⟨q, hq, rfl, rfl, hBw⟩ := hrel
    by_cases hlt : q < T
    · obtain ⟨b, o, rfl, hbl, hcell⟩ := HI1.out q (by rw [HTl.out]; exact hlt)
      have hcx := (hBw.out.cell (p := ⟨b, o + q, none⟩) hbl).trans hcell
      obtain ⟨x, hx⟩ : ∃ x, k[q]?.getD 0 = x := ⟨_, rfl⟩
      rw [hx] at hcx
      have hqk : q < k.length := by rw [HTl.out]; exact hlt
      have HX := Lib.hid (take_next hqk hx)
      have HXm := Lib.hid (HMa.out x (get_mem hqk hx))
      have HM0 := Lib.hid (cmbTo_lt hf.out (k.take q) l)
      have HE : Hid (cmbTo f (k.take (q + 1)) l = row f x l (cmbTo f (k.take q) l)) := by rw [Hid, HX.out]; simp [cmbTo]
      generalize cmbTo f (k.take q) l = m0 at *
      have hqi : (q : Int) < (T : Int) := by omega
      clear hcell hx hqk
      go_wp2_with fail
      refine (HB.out _).mono ?_
      rintro e w2 ⟨u, rfl, hown, hb⟩
      obtain ⟨a2, c2, rfl, -, hIs⟩ := is_of_ints hown
      have HI2 := Lib.hid hIs
      have HB2 := Lib.hid (hBw.out.trans (hb.mono hBw.out.size))
      clear hown hIs hb hcx
      go_wp2_with fail
      go_loopw [7, 22] (fun m i wr => ∃ r : Nat, r ≤ U ∧ i = .int .i64 r ∧ m = .int .i64 (row f x (l.take r) m0 : Nat) ∧ Hid (Below w2.heap.size w2 wr)) (fun _ i _ => U - (intOf i).toNat)
      case atStart => exact ⟨0, Nat.zero_le _, rfl, rfl, Below.refl _ _⟩
      case round =>
        obtain ⟨r, hr, rfl, rfl, hBr⟩ := hrel
        by_cases hlr : r < U
        · obtain ⟨b2, o2, rfl, hbl2, hcell2⟩ := HI2.out r (by rw [HUl.out]; exact hlr)
          have hcy := (hBr.out.cell (p := ⟨b2, o2 + r, none⟩) hbl2).trans hcell2
          obtain ⟨y, hy⟩ : ∃ y, l[r]?.getD 0 = y := ⟨_, rfl⟩
          rw [hy] at hcy
          have hrk : r < l.length := by rw [HUl.out]; exact hlr
          have HY := Lib.hid (take_next hrk hy)
          have HYm := Lib.hid (HMb.out y (get_mem hrk hy))
          have HM1 := Lib.hid (row_lt hf.out x (l.take r) m0 HM0.out)
          have HE2 : Hid (row f x (l.take (r + 1)) m0 = row f x (l.take r) m0 ||| f x y) := by rw [Hid, HY.out]; simp [row]
          have HC := Lib.hid (HF.out x y wr (HB1.out.trans ((HB2.out.trans (hBr.out.mono HB2.out.size)).mono HB1.out.size)) HXm.out HYm.out)
          have HFL := Lib.hid (hf.out x y)
          generalize row f x (l.take r) m0 = m1 at *
          generalize f x y = fv at *
          have hri : (r : Int) < (U : Int) := by omega
          clear hcell2 hy hrk
          go_wp2_with (go_at_call 93; refine HC.out.mono ?_; rintro e w3 ⟨rfl, hb⟩; have HB3 := Lib.hid (hBr.out.trans (hb.mono hBr.out.size)); clear hb)
          go_roundw
          case rel =>
            refine ⟨r + 1, by omega, by go_num, ?_, HB3⟩
            rw [HE2.out, bits_or HM1.out HFL.out]
          case measure => simp [intOf]; omega
        · obtain rfl : r = U := by omega
          go_wp2_with fail
          go_roundw
          case rel =>
            refine ⟨q + 1, by omega, by go_num, ?_, HB2.out.trans (hBr.out.mono HB2.out.size)⟩
            rw [HE.out, List.take_of_length_le (by rw [HUl.out]; exact Nat.le_refl _)]
          case measure => simp [intOf]; omega
    · obtain rfl : q = T := by omega
      go_wp2_with fail
      go_ret
      refine ⟨ret_int ?_, HB1.out.trans (hBw.out.mono HB1.out.size)⟩
      rw [List.take_of_length_le (by rw [HTl.out]; exact Nat.le_refl _)]

end Go.Proofs.YtmcbedlmgffckaaGreatDoor

namespace Go.Proofs.YtmcbedlmgffckaaGreatDoor
open Go Go.RowKit Go.Sort

set_option maxHeartbeats 1000000 in
theorem gAdd_any (a b : Int) (w : World) (hT : Tabs w) :
    Calls Tryz.prog 59 #[.int .i64 a, .int .i64 b] w fun e w' => e = .returned (.int .i64 (addN (sS a) (sS b) : Nat)) ∧ Below w.heap.size w w' := by
  have HA := Lib.hid (show ∀ W, Below w.heap.size w W → _ from fun W hW => gcomb_sum a b W (hT.on hW))
  have HBN : Hid (Below w.heap.size w w) := Below.refl _ _
  go_enter Tryz.func59, Tryz.ntmps59
  go_wp2_with (go_at_call 91; refine (HA.out _ HBN.out).mono ?_; rintro e wn ⟨rfl, hbn⟩; have hbx := HBN.out.trans (hbn.mono HBN.out.size); clear HBN hbn; have HBN := Lib.hid hbx; clear hbx)
  go_ret
  exact ⟨rfl, HBN.out⟩

set_option maxHeartbeats 1000000 in
theorem gMul_any (a b : Int) (w : World) (hT : Tabs w) :
    Calls Tryz.prog 61 #[.int .i64 a, .int .i64 b] w fun e w' => e = .returned (.int .i64 (mulN (sS a) (sS b) : Nat)) ∧ Below w.heap.size w w' := by
  have HA := Lib.hid (show ∀ W, Below w.heap.size w W → _ from fun W hW => gcomb_product a b W (hT.on hW))
  have HBN : Hid (Below w.heap.size w w) := Below.refl _ _
  go_enter Tryz.func61, Tryz.ntmps61
  go_wp2_with (go_at_call 91; refine (HA.out _ HBN.out).mono ?_; rintro e wn ⟨rfl, hbn⟩; have hbx := HBN.out.trans (hbn.mono HBN.out.size); clear HBN hbn; have HBN := Lib.hid hbx; clear hbx)
  go_ret
  exact ⟨rfl, HBN.out⟩

set_option maxHeartbeats 1000000 in
theorem gNeg_any (a : Int) (w : World) (hT : Tabs w) :
    Calls Tryz.prog 58 #[.int .i64 a] w fun e w' => e = .returned (.int .i64 (negN (sS a) : Nat)) ∧ Below w.heap.size w w' := by
  have HA := Lib.hid (show ∀ W, Below w.heap.size w W → _ from fun W hW => gMul_any 1 a W (hT.on hW))
  have HBN : Hid (Below w.heap.size w w) := Below.refl _ _
  go_enter Tryz.func58, Tryz.ntmps58
  go_wp2_with (go_at_call 61; refine (HA.out _ HBN.out).mono ?_; rintro e wn ⟨rfl, hbn⟩; have hbx := HBN.out.trans (hbn.mono HBN.out.size); clear HBN hbn; have HBN := Lib.hid hbx; clear hbx)
  go_ret
  exact ⟨rfl, HBN.out⟩

set_option maxHeartbeats 1000000 in
theorem gSub_any (a b : Int) (w : World) (hT : Tabs w) :
    Calls Tryz.prog 60 #[.int .i64 a, .int .i64 b] w fun e w' => e = .returned (.int .i64 (subN (sS a) (sS b) : Nat)) ∧ Below w.heap.size w w' := by
  have HA := Lib.hid (show ∀ W, Below w.heap.size w W → _ from fun W hW => gNeg_any b W (hT.on hW))
  have HB : Hid (∀ W, Below w.heap.size w W → Calls Tryz.prog 59 #[.int .i64 a, .int .i64 (negN (sS b) : Nat)] W fun e w' => e = .returned (.int .i64 (subN (sS a) (sS b) : Nat)) ∧ Below W.heap.size W w') := fun W hW => by
    have h := gAdd_any a (negN (sS b) : Nat) W (hT.on hW)
    rw [sS_of (negN_lt (sS_lt b))] at h
    exact h
  have HBN : Hid (Below w.heap.size w w) := Below.refl _ _
  generalize negN (sS b) = z at *
  generalize subN (sS a) (sS b) = r at *
  clear hT
  go_enter Tryz.func60, Tryz.ntmps60
  go_wp2_with (first
    | (go_at_call 58; refine (HA.out _ HBN.out).mono ?_; rintro e wn ⟨rfl, hbn⟩; have hbx := HBN.out.trans (hbn.mono HBN.out.size); clear HBN hbn; have HBN := Lib.hid hbx; clear hbx)
    | (go_at_call 59; refine (HB.out _ HBN.out).mono ?_; rintro e wn ⟨rfl, hbn⟩; have hbx := HBN.out.trans (hbn.mono HBN.out.size); clear HBN hbn; have HBN := Lib.hid hbx; clear hbx))
  go_ret
  exact ⟨rfl, HBN.out⟩





def negL (l : List Int) : Nat := l.foldl (fun m x => m ||| sg (-x)) 0
theorem negL_lt (l : List Int) : negL l < 8 := by
  have : ∀ (l : List Int) m, m < 8 → l.foldl (fun m x => m ||| sg (-x)) m < 8 := by
    intro l
    induction l with
    | nil => intro m h; exact h
    | cons y r ih => intro m h; exact ih _ (or_lt h (sg_lt _))
  exact this l 0 (by decide)
theorem negL_lst {a : Nat} (ha : a < 8) : negL (lst a) = negN a := by
  have h : ∀ x : Fin 8, negL (lst x.val) = negN x.val := by decide
  exact h ⟨a, ha⟩
theorem som_mem {s : Nat} {x : Int} (h : x ∈ som s) : -2 ≤ x ∧ x ≤ 2 := by
  have := (List.mem_filter.1 h).1
  simp [List.range_succ] at this
  omega
theorem som_add {a b : Nat} (ha : a < 8) (hb : b < 8) : cmb (fun x y => sg (x + y)) (som a) (som b) = addN a b := by
  have h : ∀ x y : Fin 8, cmb (fun x y => sg (x + y)) (som x.val) (som y.val) = addN x.val y.val := by decide +kernel
  exact h ⟨a, ha⟩ ⟨b, hb⟩
theorem som_mul {a b : Nat} (ha : a < 8) (hb : b < 8) : cmb (fun x y => sg (x * y)) (som a) (som b) = mulN a b := by
  have h : ∀ x y : Fin 8, cmb (fun x y => sg (x * y)) (som x.val) (som y.val) = mulN x.val y.val := by decide +kernel
  exact h ⟨a, ha⟩ ⟨b, hb⟩
theorem mul_small {x y : Int} (hx : -2 ≤ x ∧ x ≤ 2) (hy : -2 ≤ y ∧ y ≤ 2) : -4 ≤ x * y ∧ x * y ≤ 4 := by
  have h1 : (x * y).natAbs ≤ 2 * 2 := by
    rw [Int.natAbs_mul]
    exact Nat.mul_le_mul (by omega) (by omega)
  omega

set_option maxRecDepth 100000 in
set_option maxHeartbeats 2000000 in
theorem hNeg_any (a : Int) (w : World) :
    Calls Tryz.prog 66 #[.int .i64 a] w fun e w' => e = .returned (.int .i64 (negN (sS a) : Nat)) ∧ Below w.heap.size w w' := by
  rw [← negL_lst (sS_lt a)]
  have HA : Hid (∀ W, Calls Tryz.prog 95 #[.int .i64 a] W fun e w' => ∃ u, e = .returned u ∧ w'.ownsRow W.heap.size 3 1 u (lst (sS a)).length ((lst (sS a)).map (Value.int .i64)) ∧ Below W.heap.size W w') := fun W => hList_any a W
  have HM : Hid (∀ x ∈ lst (sS a), x = -1 ∨ x = 0 ∨ x = 1) := fun x h => lst_mem h
  have HL : Hid ((lst (sS a)).length ≤ 3) := tol_le _ _ _
  generalize lst (sS a) = l at *
  obtain ⟨T, hTl⟩ : ∃ T, l.length = T := ⟨_, rfl⟩
  rw [hTl] at HA
  have hT3 : T ≤ 3 := by rw [← hTl]; exact HL.out
  have HTl := Lib.hid hTl
  clear hTl HL
  go_enter Tryz.func66, Tryz.ntmps66
  go_wp2_with fail
  refine (HA.out _).mono ?_
  clear HA
  rintro e w1 ⟨u, rfl, hown, hb⟩
  obtain ⟨a1, c1, rfl, -, hIs⟩ := is_of_ints hown
  have HI1 := Lib.hid hIs
  have HB1 := Lib.hid hb
  clear hown hIs hb
  go_wp2_with fail
  go_loopw [3, 5] (fun m i wr => ∃ q : Nat, q ≤ T ∧ i = .int .i64 q ∧ m = .int .i64 (negL (l.take q) : Nat) ∧ Hid (Below w1.heap.size w1 wr)) (fun _ i _ => T - (intOf i).toNat)
  case atStart => exact ⟨0, Nat.zero_le _, rfl, rfl, Below.refl _ _⟩
  case round =>
    obtain ⟨q, hq, rfl, rfl, hBw⟩ := hrel
    by_cases hlt : q < T
    · obtain ⟨b, o, rfl, hbl, hcell⟩ := HI1.out q (by rw [HTl.out]; exact hlt)
      have hcx := (hBw.out.cell (p := ⟨b, o + q, none⟩) hbl).trans hcell
      obtain ⟨x, hx⟩ : ∃ x, l[q]?.getD 0 = x := ⟨_, rfl⟩
      rw [hx] at hcx
      have hqk : q < l.length := by rw [HTl.out]; exact hlt
      have HX := Lib.hid (take_next hqk hx)
      have hxm : -1 ≤ x ∧ x ≤ 1 := by rcases HM.out x (get_mem hqk hx) with h | h | h <;> omega
      obtain ⟨hx1, hx2⟩ := hxm
      have HM0 := Lib.hid (negL_lt (l.take q))
      have HE : Hid (negL (l.take (q + 1)) = negL (l.take q) ||| sg (-x)) := by rw [Hid, HX.out]; simp [negL]
      have HC := Lib.hid (fun W => hOf_any (-x) W)
      have HG := Lib.hid (sg_lt (-x))
      generalize negL (l.take q) = m0 at *
      generalize sg (-x) = gv at *
      have hqi : (q : Int) < (T : Int) := by omega
      clear hcell hx hqk
      go_wp2_with (go_at_call 65; refine (HC.out _).mono ?_; rintro e w3 ⟨rfl, hb⟩; have HB3 := Lib.hid (hBw.out.trans (hb.mono hBw.out.size)); clear hb)
      go_roundw
      case rel =>
        refine ⟨q + 1, by omega, by go_num, ?_, HB3⟩
        rw [HE.out, bits_or HM0.out HG.out]
      case measure => simp [intOf]; omega
    · obtain rfl : q = T := by omega
      go_wp2_with fail
      go_ret
      refine ⟨ret_int ?_, HB1.out.trans (hBw.out.mono HB1.out.size)⟩
      rw [List.take_of_length_le (by rw [HTl.out]; exact Nat.le_refl _)]

end Go.Proofs.YtmcbedlmgffckaaGreatDoor
