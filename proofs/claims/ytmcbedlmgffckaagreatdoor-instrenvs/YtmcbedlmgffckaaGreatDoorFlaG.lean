/- FlaG: several texts in one: FlatM FlatA FlatB FlatC FlatD FlatE. -/
import GoSem.Claim
import Derived.Test.YtmcbedlmgffckaaGreatDoorBase
import Derived.Deep.RegionHeld3

namespace Go.Proofs.YtmcbedlmgffckaaGreatDoor
open Go

/-- A value: its kind and its number. -/
structure V where
  k : Int
  c : Int
  deriving DecidableEq

def V.val (v : V) : Value := .agg #[.int .i64 v.k, .int .i64 v.c]

/-- A number of 32 digits. -/
def w32 (n : Int) : Int := (n + 2147483648) % 4294967296 - 2147483648

theorem w32_lo (n : Int) : -2147483648 ≤ w32 n := by unfold w32; omega
theorem w32_hi (n : Int) : w32 n ≤ 2147483647 := by unfold w32; omega
theorem w32_self {n : Int} (h0 : -2147483648 ≤ n) (h1 : n ≤ 2147483647) : w32 n = n := by unfold w32; omega

def V.sane (v : V) : Prop := (v.k = 1 ∧ -2147483648 ≤ v.c ∧ v.c ≤ 2147483647) ∨ ((v.k = 0 ∨ v.k = 2) ∧ v.c = 0)
instance (v : V) : Decidable v.sane := by unfold V.sane; infer_instance

def vbot : V := ⟨0, 0⟩
def vtop : V := ⟨2, 0⟩
def vone (n : Int) : V := ⟨1, w32 n⟩

/-- What a value is taken for. -/
def V.sn (v : V) : V := if v.sane then v else vtop

theorem sn_sane (v : V) : v.sn.sane := by
  unfold V.sn
  split
  · assumption
  · exact .inr ⟨.inr rfl, rfl⟩
theorem sn_of {v : V} (h : v.sane) : v.sn = v := if_pos h
theorem sn_sn (v : V) : v.sn.sn = v.sn := sn_of (sn_sane v)
theorem vone_sane (n : Int) : (vone n).sane := .inl ⟨rfl, w32_lo n, w32_hi n⟩
theorem vbot_sane : vbot.sane := .inr ⟨.inl rfl, rfl⟩
theorem vtop_sane : vtop.sane := .inr ⟨.inr rfl, rfl⟩

/-- The three kinds of values that may be. -/
theorem V.cases {v : V} (h : v.sane) : v = vbot ∨ v = vtop ∨ ∃ n, -2147483648 ≤ n ∧ n ≤ 2147483647 ∧ v = ⟨1, n⟩ := by
  obtain ⟨k, c⟩ := v
  rcases h with ⟨h1, h2, h3⟩ | ⟨h1 | h1, h2⟩
  · simp only at h1; subst h1; exact .inr (.inr ⟨c, h2, h3, rfl⟩)
  · simp only at h1 h2; subst h1 h2; exact .inl rfl
  · simp only at h1 h2; subst h1 h2; exact .inr (.inl rfl)

/-- Below, of two that may be. -/
def leV (a b : V) : Bool := decide (a.k = 0 ∨ b.k = 2 ∨ a = b)
def leq (a b : V) : Bool := leV a.sn b.sn
def join (a b : V) : V := if leq a b then b.sn else if leq b a then a.sn else vtop
def kindZ (k l : Int) : Int := if k = 0 ∨ l = 0 then 0 else max k l
def made (k n : Int) : V := if k = 1 then vone n else ⟨k, 0⟩
def comb (f : Int → Int → Int) (a b : V) : V :=
  if a.sn.k = 0 ∨ b.sn.k = 0 then vbot else if a.sn.k = 2 ∨ b.sn.k = 2 then vtop else vone (f a.sn.c b.sn.c)
def addV := comb (· + ·)
def subV := comb (· - ·)
def mulV := comb (· * ·)
def negV (a : V) : V := subV (vone 0) a
def hgt (v : V) : Int := v.sn.k

theorem comb_sane (f : Int → Int → Int) (a b : V) : (comb f a b).sane := by
  unfold comb
  split
  · exact vbot_sane
  · split
    · exact vtop_sane
    · exact vone_sane _
theorem join_sane (a b : V) : (join a b).sane := by
  unfold join
  split
  · exact sn_sane b
  · split
    · exact sn_sane a
    · exact vtop_sane
theorem sn_k (v : V) : v.sn.k = 0 ∨ v.sn.k = 1 ∨ v.sn.k = 2 := by
  rcases V.cases (sn_sane v) with h | h | ⟨n, _, _, h⟩ <;> rw [h] <;> simp [vbot, vtop]
theorem sn_c (v : V) : -2147483648 ≤ v.sn.c ∧ v.sn.c ≤ 2147483647 := by
  rcases V.cases (sn_sane v) with h | h | ⟨n, h1, h2, h⟩ <;> rw [h] <;> simp [vbot, vtop] <;> omega
theorem sn_one {v : V} (h0 : v.sn.k ≠ 0) (h2 : v.sn.k ≠ 2) : v.sn.k = 1 := by
  rcases sn_k v with h | h | h <;> simp_all
end Go.Proofs.YtmcbedlmgffckaaGreatDoor
namespace Go.Proofs.YtmcbedlmgffckaaGreatDoor
open Go
theorem comb_made (f : Int → Int → Int) (a b : V) : made (kindZ a.sn.k b.sn.k) (f a.sn.c b.sn.c) = comb f a b := by
  unfold made kindZ comb
  rcases sn_k a with h | h | h <;> rcases sn_k b with g | g | g <;> simp [h, g, vbot, vtop, show max (1 : Int) 2 = 2 from rfl, show max (2 : Int) 1 = 2 from rfl]
theorem neg_made (a : V) : made a.sn.k (-a.sn.c) = negV a := by
  have h0 : (vone 0).sn = ⟨1, 0⟩ := by rw [sn_of (vone_sane 0)]; rfl
  unfold made negV subV comb
  rw [h0]
  rcases sn_k a with h | h | h <;> simp [h, vbot, vtop]
end Go.Proofs.YtmcbedlmgffckaaGreatDoor
namespace Go.Proofs.YtmcbedlmgffckaaGreatDoor
open Go
theorem leV_refl (a : V) : leV a a = true := by simp [leV]
theorem leV_trans {a b c : V} (hb : b.sane) (h1 : leV a b = true) (h2 : leV b c = true) : leV a c = true := by
  simp only [leV, decide_eq_true_eq] at *
  rcases h1 with h | h | h
  · exact .inl h
  · rcases h2 with g | g | g
    · rw [h] at g; exact absurd g (by decide)
    · exact .inr (.inl g)
    · exact .inr (.inl (g ▸ h))
  · subst h; exact h2
theorem leq_sn (a b : V) : leq a b = leV a.sn b.sn := rfl
theorem leq_left (a b : V) : leq a (join a b) = true := by
  rw [leq_sn, sn_of (join_sane a b)]
  unfold join
  split
  · rename_i h; exact h
  · split
    · exact leV_refl _
    · simp [leV, vtop]
theorem leq_right (a b : V) : leq b (join a b) = true := by
  rw [leq_sn, sn_of (join_sane a b)]
  unfold join
  split
  · exact leV_refl _
  · split
    · rename_i h; exact h
    · simp [leV, vtop]
/-- With greater ones no less comes. -/
theorem comb_leV (f : Int → Int → Int) {a b z u : V} (h1 : leq a z = true) (h2 : leq b u = true) : leq (comb f a b) (comb f z u) = true := by
  rw [leq_sn, sn_of (comb_sane f a b), sn_of (comb_sane f z u)]
  rw [leq_sn] at h1 h2
  have ka := sn_k a
  have kb := sn_k b
  have kz := sn_k z
  have ku := sn_k u
  unfold comb
  generalize a.sn = A at *
  generalize b.sn = B at *
  generalize z.sn = Z at *
  generalize u.sn = U at *
  obtain ⟨A1, A2⟩ := A
  obtain ⟨B1, B2⟩ := B
  obtain ⟨Z1, Z2⟩ := Z
  obtain ⟨U1, U2⟩ := U
  simp only [leV, decide_eq_true_eq, V.mk.injEq, vbot, vtop, vone] at *
  rcases ka with rfl | rfl | rfl <;> rcases kb with rfl | rfl | rfl <;> rcases kz with rfl | rfl | rfl <;> rcases ku with rfl | rfl | rfl <;> simp_all
theorem comb_rises (f : Int → Int → Int) (a b c d : V) : leq (comb f a b) (comb f (join a c) (join b d)) = true := comb_leV f (leq_left a c) (leq_left b d)
theorem neg_rises (a c : V) : leq (negV a) (negV (join a c)) = true := comb_leV _ (by simp [leq_sn, leV]) (leq_left a c)
end Go.Proofs.YtmcbedlmgffckaaGreatDoor

namespace Go.Proofs.YtmcbedlmgffckaaGreatDoor
open Go Go.RowKit Go.Sort

theorem ret_val {a b : V} (h : a = b) : Ending.returned a.val = .returned b.val := by rw [h]

theorem wrap_i32 (n : Int) : IntKind.i32.wrap n = w32 n := by
  rw [IntKind.wrap_i32]; unfold w32; omega

set_option maxHeartbeats 1000000 in
theorem Sane_any (v : V) (w : World) :
    Calls Tryz.prog 74 #[v.val] w fun e w' => e = .returned (.bool (decide v.sane)) ∧ Below w.heap.size w w' := by
  obtain ⟨k, c⟩ := v
  unfold V.val
  go_enter Tryz.func74, Tryz.ntmps74
  go_wp2
  all_goals
    go_ret
    refine ⟨ret_bool ?_, below1 _ _⟩
    rw [Bool.eq_iff_iff]
    simp only [decide_eq_true_eq]
    unfold V.sane
    simp at *
    omega

set_option maxHeartbeats 1000000 in
theorem rSane_any (v : V) (w : World) :
    Calls Tryz.prog 99 #[v.val] w fun e w' => e = .returned (.bool (decide v.sane)) ∧ Below w.heap.size w w' := by
  obtain ⟨k, c⟩ := v
  unfold V.val
  go_enter Tryz.func99, Tryz.ntmps99
  go_wp2
  all_goals
    go_ret
    refine ⟨ret_bool ?_, below1 _ _⟩
    rw [Bool.eq_iff_iff]
    simp only [decide_eq_true_eq]
    unfold V.sane
    simp at *
    omega





set_option maxHeartbeats 1000000 in
theorem Wrap_any (n : Int) (w : World) :
    Calls Tryz.prog 75 #[.int .i64 n] w fun e w' => e = .returned (.int .i64 (w32 n)) ∧ Below w.heap.size w w' := by
  go_enter Tryz.func75, Tryz.ntmps75
  go_wp2
  go_ret
  refine ⟨ret_int ?_, Below.refl _ _⟩
  unfold wrap64 wrap32 w32
  omega

set_option maxHeartbeats 1000000 in
theorem rWrap_any (n : Int) (w : World) :
    Calls Tryz.prog 85 #[.int .i64 n] w fun e w' => e = .returned (.int .i64 (w32 n)) ∧ Below w.heap.size w w' := by
  go_enter Tryz.func85, Tryz.ntmps85
  go_wp2
  all_goals
    go_ret
    refine ⟨ret_int ?_, Below.refl _ _⟩
    simp only [Int.tmod_eq_emod] at *
    try unfold wrap64 at *
    unfold w32
    (repeat' split at *) <;> omega



set_option maxHeartbeats 1000000 in
theorem kind_any (a b : V) (w : World) :
    Calls Tryz.prog 87 #[a.val, b.val] w fun e w' => e = .returned (.int .i64 (kindZ a.k b.k)) ∧ Below w.heap.size w w' := by
  obtain ⟨k, c⟩ := a
  obtain ⟨l, d⟩ := b
  unfold V.val
  go_enter Tryz.func87, Tryz.ntmps87
  go_wp2
  all_goals
    go_ret
    refine ⟨ret_int ?_, below2 _ _ _⟩
    unfold kindZ
    (try simp only [beq_iff_eq, beq_eq_false_iff_ne] at *)
    split <;> omega

set_option maxHeartbeats 1000000 in
theorem sum_any (x y : Int) (w : World) (hx : -2147483648 ≤ x ∧ x ≤ 2147483647) (hy : -2147483648 ≤ y ∧ y ≤ 2147483647) :
    Calls Tryz.prog 76 #[.int .i64 x, .int .i64 y] w fun e w' => e = .returned (.int .i64 (x + y)) ∧ Below w.heap.size w w' := by
  go_enter Tryz.func76, Tryz.ntmps76
  go_wp2
  go_ret
  refine ⟨ret_int ?_, Below.refl _ _⟩
  first | rfl | (unfold wrap64; omega)
set_option maxHeartbeats 1000000 in
theorem difference_any (x y : Int) (w : World) (hx : -2147483648 ≤ x ∧ x ≤ 2147483647) (hy : -2147483648 ≤ y ∧ y ≤ 2147483647) :
    Calls Tryz.prog 78 #[.int .i64 x, .int .i64 y] w fun e w' => e = .returned (.int .i64 (x - y)) ∧ Below w.heap.size w w' := by
  go_enter Tryz.func78, Tryz.ntmps78
  go_wp2
  go_ret
  refine ⟨ret_int ?_, Below.refl _ _⟩
  first | rfl | (unfold wrap64; omega)

theorem mul_in {x y : Int} (hx : -2147483648 ≤ x ∧ x ≤ 2147483647) (hy : -2147483648 ≤ y ∧ y ≤ 2147483647) : -9223372036854775808 ≤ x * y ∧ x * y ≤ 9223372036854775807 := by
  have h1 : (x * y).natAbs ≤ 2147483648 * 2147483648 := by
    rw [Int.natAbs_mul]
    exact Nat.mul_le_mul (by omega) (by omega)
  omega
set_option maxHeartbeats 1000000 in
theorem product_any (x y : Int) (w : World) (hx : -2147483648 ≤ x ∧ x ≤ 2147483647) (hy : -2147483648 ≤ y ∧ y ≤ 2147483647) :
    Calls Tryz.prog 79 #[.int .i64 x, .int .i64 y] w fun e w' => e = .returned (.int .i64 (x * y)) ∧ Below w.heap.size w w' := by
  have hm := mul_in hx hy
  go_enter Tryz.func79, Tryz.ntmps79
  go_wp2
  go_ret
  refine ⟨ret_int ?_, Below.refl _ _⟩
  first | rfl | exact IntWalk.wrap64_in _ hm

set_option maxHeartbeats 1000000 in
theorem Of_any (n : Int) (w : World) :
    Calls Tryz.prog 38 #[.int .i64 n] w fun e w' => e = .returned (vone n).val ∧ Below w.heap.size w w' := by
  have HC := Lib.hid (fun W => Wrap_any n W)
  have B0 := Box.new w (.int .i64 0) (.int .i64 0) 54
  have hW := below1 w (.cells #[.int .i64 0, .int .i64 0] 54)
  generalize hE : w.alloc (.cells #[.int .i64 0, .int .i64 0] 54) = W at *
  have HW := Lib.hid hW
  clear hW
  go_enter Tryz.func38, Tryz.ntmps38
  go_wp2_with (go_at_call 75; refine (HC.out _).mono ?_; clear HC; rintro e w1 ⟨rfl, hb⟩; have B1 := B0.below hb B0.lt; obtain ⟨d0, d1, g0, g1⟩ := id B1; have HB := Lib.hid (HW.out.trans (hb.mono HW.out.size)); clear hb B0)
  have hb2 := below_put2 HB.out (b := w.heap.size) (Nat.le_refl _) (.int .i64 1) (.int .i64 (w32 n))
  exact bodyPost_ret (v := (vone n).val) (by simp [results, Tryz.results38, go_sem, d0, d1, V.val, vone]) rfl ⟨rfl, hb2⟩
end Go.Proofs.YtmcbedlmgffckaaGreatDoor

namespace Go.Proofs.YtmcbedlmgffckaaGreatDoor
open Go Go.RowKit Go.Sort

set_option maxHeartbeats 2000000 in
theorem sn_any (v : V) (w : World) :
    Calls Tryz.prog 98 #[v.val] w fun e w' => e = .returned v.sn.val ∧ Below w.heap.size w w' := by
  obtain ⟨k, c⟩ := v
  obtain ⟨s, hs⟩ : ∃ s, decide (V.sane ⟨k, c⟩) = s := ⟨_, rfl⟩
  have HC := Lib.hid (fun W => Sane_any ⟨k, c⟩ W)
  rw [hs] at HC
  have hsn : V.sn ⟨k, c⟩ = if s then ⟨k, c⟩ else vtop := by rw [← hs]; unfold V.sn; by_cases h : V.sane ⟨k, c⟩ <;> simp [h]
  rw [hsn]
  clear hsn hs
  unfold V.val at HC ⊢
  have B0 := (Box.new w (.int .i64 k) (.int .i64 c) 54).alloc (.cells #[.int .i64 0, .int .i64 0] 54)
  have R0 := Box.new (w.alloc (.cells #[.int .i64 k, .int .i64 c] 54)) (.int .i64 0) (.int .i64 0) 54
  have hW := below2 w (.cells #[.int .i64 k, .int .i64 c] 54) (.cells #[.int .i64 0, .int .i64 0] 54)
  rw [World.size_alloc] at R0
  generalize hE : (w.alloc (.cells #[.int .i64 k, .int .i64 c] 54)).alloc (.cells #[.int .i64 0, .int .i64 0] 54) = W at *
  have HW := Lib.hid hW
  obtain ⟨c0, c1, -, -⟩ := id B0
  clear hW
  cases s with
  | true =>
    go_enter Tryz.func98, Tryz.ntmps98
    go_wp2_with (go_at_call 74; refine (HC.out _).mono ?_; clear HC c0 c1; rintro e w1 ⟨rfl, hb⟩; obtain ⟨d0, d1, -, -⟩ := B0.below hb B0.lt; obtain ⟨d2, d3, g2, g3⟩ := R0.below hb R0.lt; have HB := Lib.hid (HW.out.trans (hb.mono HW.out.size)); clear hb B0 R0)
    have hb2 := below_put2 HB.out (b := w.heap.size + 1) (by omega) (.int .i64 k) (.int .i64 c)
    exact bodyPost_ret (v := .agg #[.int .i64 k, .int .i64 c]) (by simp [results, Tryz.results98, go_sem, d2, d3]) rfl ⟨rfl, hb2⟩
  | false =>
    go_enter Tryz.func98, Tryz.ntmps98
    go_wp2_with (go_at_call 74; refine (HC.out _).mono ?_; clear HC c0 c1; rintro e w1 ⟨rfl, hb⟩; obtain ⟨d0, d1, -, -⟩ := B0.below hb B0.lt; obtain ⟨d2, d3, g2, g3⟩ := R0.below hb R0.lt; have HB := Lib.hid (HW.out.trans (hb.mono HW.out.size)); clear hb B0 R0)
    have hb2 := below_put2 HB.out (b := w.heap.size + 1) (by omega) (.int .i64 2) (.int .i64 0)
    exact bodyPost_ret (v := .agg #[.int .i64 2, .int .i64 0]) (by simp [results, Tryz.results98, go_sem, d2, d3]) rfl ⟨rfl, hb2⟩

set_option maxHeartbeats 2000000 in
theorem rsn_any (v : V) (w : World) :
    Calls Tryz.prog 84 #[v.val] w fun e w' => e = .returned v.sn.val ∧ Below w.heap.size w w' := by
  obtain ⟨k, c⟩ := v
  obtain ⟨s, hs⟩ : ∃ s, decide (V.sane ⟨k, c⟩) = s := ⟨_, rfl⟩
  have HC := Lib.hid (fun W => rSane_any ⟨k, c⟩ W)
  rw [hs] at HC
  have hsn : V.sn ⟨k, c⟩ = if s then ⟨k, c⟩ else vtop := by rw [← hs]; unfold V.sn; by_cases h : V.sane ⟨k, c⟩ <;> simp [h]
  rw [hsn]
  clear hsn hs
  unfold V.val at HC ⊢
  have B0 := (Box.new w (.int .i64 k) (.int .i64 c) 53).alloc (.cells #[.int .i64 0, .int .i64 0] 53)
  have R0 := Box.new (w.alloc (.cells #[.int .i64 k, .int .i64 c] 53)) (.int .i64 0) (.int .i64 0) 53
  have hW := below2 w (.cells #[.int .i64 k, .int .i64 c] 53) (.cells #[.int .i64 0, .int .i64 0] 53)
  rw [World.size_alloc] at R0
  generalize hE : (w.alloc (.cells #[.int .i64 k, .int .i64 c] 53)).alloc (.cells #[.int .i64 0, .int .i64 0] 53) = W at *
  have HW := Lib.hid hW
  obtain ⟨c0, c1, -, -⟩ := id B0
  clear hW
  cases s with
  | true =>
    go_enter Tryz.func84, Tryz.ntmps84
    go_wp2_with (go_at_call 99; refine (HC.out _).mono ?_; clear HC c0 c1; rintro e w1 ⟨rfl, hb⟩; obtain ⟨d0, d1, -, -⟩ := B0.below hb B0.lt; obtain ⟨d2, d3, g2, g3⟩ := R0.below hb R0.lt; have HB := Lib.hid (HW.out.trans (hb.mono HW.out.size)); clear hb B0 R0)
    have hb2 := below_put2 HB.out (b := w.heap.size + 1) (by omega) (.int .i64 k) (.int .i64 c)
    exact bodyPost_ret (v := .agg #[.int .i64 k, .int .i64 c]) (by simp [results, Tryz.results84, go_sem, d2, d3]) rfl ⟨rfl, hb2⟩
  | false =>
    go_enter Tryz.func84, Tryz.ntmps84
    go_wp2_with (go_at_call 99; refine (HC.out _).mono ?_; clear HC c0 c1; rintro e w1 ⟨rfl, hb⟩; obtain ⟨d0, d1, -, -⟩ := B0.below hb B0.lt; obtain ⟨d2, d3, g2, g3⟩ := R0.below hb R0.lt; have HB := Lib.hid (HW.out.trans (hb.mono HW.out.size)); clear hb B0 R0)
    have hb2 := below_put2 HB.out (b := w.heap.size + 1) (by omega) (.int .i64 2) (.int .i64 0)
    exact bodyPost_ret (v := .agg #[.int .i64 2, .int .i64 0]) (by simp [results, Tryz.results84, go_sem, d2, d3]) rfl ⟨rfl, hb2⟩





set_option maxHeartbeats 1000000 in
theorem rOf_any (n : Int) (w : World) :
    Calls Tryz.prog 49 #[.int .i64 n] w fun e w' => e = .returned (vone n).val ∧ Below w.heap.size w w' := by
  have HC := Lib.hid (fun W => rWrap_any n W)
  have B0 := Box.new w (.int .i64 0) (.int .i64 0) 53
  have hW := below1 w (.cells #[.int .i64 0, .int .i64 0] 53)
  generalize hE : w.alloc (.cells #[.int .i64 0, .int .i64 0] 53) = W at *
  have HW := Lib.hid hW
  clear hW
  go_enter Tryz.func49, Tryz.ntmps49
  go_wp2_with (go_at_call 85; refine (HC.out _).mono ?_; clear HC; rintro e w1 ⟨rfl, hb⟩; have B1 := B0.below hb B0.lt; obtain ⟨d0, d1, g0, g1⟩ := id B1; have HB := Lib.hid (HW.out.trans (hb.mono HW.out.size)); clear hb B0)
  have hb2 := below_put2 HB.out (b := w.heap.size) (Nat.le_refl _) (.int .i64 1) (.int .i64 (w32 n))
  exact bodyPost_ret (v := (vone n).val) (by simp [results, Tryz.results49, go_sem, d0, d1, V.val, vone]) rfl ⟨rfl, hb2⟩

set_option maxHeartbeats 1000000 in
theorem made_any (k n : Int) (w : World) :
    Calls Tryz.prog 86 #[.int .i64 k, .int .i64 n] w fun e w' => e = .returned (made k n).val ∧ Below w.heap.size w w' := by
  have HC := Lib.hid (fun W => rOf_any n W)
  have B0 := Box.new w (.int .i64 0) (.int .i64 0) 53
  have hW := below1 w (.cells #[.int .i64 0, .int .i64 0] 53)
  generalize hE : w.alloc (.cells #[.int .i64 0, .int .i64 0] 53) = W at *
  have HW := Lib.hid hW
  clear hW
  by_cases hk : k = 1
  · rw [show made k n = vone n from if_pos hk]
    unfold V.val vone at *
    go_enter Tryz.func86, Tryz.ntmps86
    go_wp2_with (go_at_call 49; refine (HC.out _).mono ?_; clear HC; rintro e w1 ⟨rfl, hb⟩; have B1 := B0.below hb B0.lt; obtain ⟨d0, d1, g0, g1⟩ := id B1; have HB := Lib.hid (HW.out.trans (hb.mono HW.out.size)); clear hb B0)
    have hb2 := below_put2 HB.out (b := w.heap.size) (Nat.le_refl _) (.int .i64 1) (.int .i64 (w32 n))
    exact bodyPost_ret (v := .agg #[.int .i64 1, .int .i64 (w32 n)]) (by simp [results, Tryz.results86, go_sem, d0, d1]) rfl ⟨rfl, hb2⟩
  · rw [show made k n = ⟨k, 0⟩ from if_neg hk]
    unfold V.val at *
    obtain ⟨d0, d1, g0, g1⟩ := id B0
    clear HC
    go_enter Tryz.func86, Tryz.ntmps86
    go_wp2
    have hb2 := below_put2 HW.out (b := w.heap.size) (Nat.le_refl _) (.int .i64 k) (.int .i64 0)
    exact bodyPost_ret (v := .agg #[.int .i64 k, .int .i64 0]) (by simp [results, Tryz.results86, go_sem, d0, d1]) rfl ⟨rfl, hb2⟩
end Go.Proofs.YtmcbedlmgffckaaGreatDoor

namespace Go.Proofs.YtmcbedlmgffckaaGreatDoor
open Go Go.RowKit Go.Sort



set_option maxHeartbeats 2000000 in
theorem rLeq_any (a b : V) (w : World) :
    Calls Tryz.prog 83 #[a.val, b.val] w fun e w' => e = .returned (.bool (leq a b)) ∧ Below w.heap.size w w' := by
  unfold leq
  have HA := Lib.hid (fun W => rsn_any a W)
  have HB := Lib.hid (fun W => rsn_any b W)
  generalize a.sn = a' at *
  generalize b.sn = b' at *
  obtain ⟨k, c⟩ := a
  obtain ⟨l, d⟩ := b
  obtain ⟨k', c'⟩ := a'
  obtain ⟨l', d'⟩ := b'
  unfold V.val at HA HB ⊢
  have BA := (Box.new w (.int .i64 k) (.int .i64 c) 53).alloc (.cells #[.int .i64 l, .int .i64 d] 53)
  have BB := Box.new (w.alloc (.cells #[.int .i64 k, .int .i64 c] 53)) (.int .i64 l) (.int .i64 d) 53
  have hW := below2 w (.cells #[.int .i64 k, .int .i64 c] 53) (.cells #[.int .i64 l, .int .i64 d] 53)
  rw [World.size_alloc] at BB
  generalize hE : (w.alloc (.cells #[.int .i64 k, .int .i64 c] 53)).alloc (.cells #[.int .i64 l, .int .i64 d] 53) = W at *
  have HW := Lib.hid hW
  obtain ⟨a0, a1, -, -⟩ := id BA
  clear hW
  go_enter Tryz.func83, Tryz.ntmps83
  go_wp2_with (fail)
  refine (HA.out _).mono ?_
  clear HA a0 a1
  rintro e w1 ⟨rfl, hb⟩
  have A1 := BA.below hb BA.lt
  have B1 := BB.below hb BB.lt
  have h1 := below_put2 (HW.out.trans (hb.mono HW.out.size)) (b := w.heap.size) (Nat.le_refl _) (.int .i64 k') (.int .i64 c')
  have A2 := A1.put (.int .i64 k') (.int .i64 c')
  have B2 := B1.other (b' := w.heap.size) (by omega) (.int .i64 k') (.int .i64 c')
  clear BA BB HW hE hb
  obtain ⟨-, -, f0, f1⟩ := id A1
  obtain ⟨x0, x1, -, -⟩ := id A1
  obtain ⟨y0, y1, -, -⟩ := id B1
  have H1 := Lib.hid h1
  clear h1 A1 B1
  have HA2 := Lib.hid A2
  have HB2 := Lib.hid B2
  clear A2 B2
  go_wp2_with fail
  generalize (w1.setCell ⟨w.heap.size, 0, none⟩ (.int .i64 k')).setCell ⟨w.heap.size, 1, none⟩ (.int .i64 c') = w2 at *
  clear x0 x1 y0 y1 f0 f1
  refine (HB.out _).mono ?_
  clear HB
  rintro e w3 ⟨rfl, hb⟩
  have A3 := HA2.out.below hb HA2.out.lt
  have B3 := HB2.out.below hb HB2.out.lt
  have H3 := Lib.hid (H1.out.trans (hb.mono H1.out.size))
  clear HA2 HB2 H1 hb
  obtain ⟨x0, x1, f0, f1⟩ := A3
  obtain ⟨y0, y1, f2, f3⟩ := B3
  go_wp2_with fail
  all_goals
    go_ret
    refine ⟨ret_bool ?_, below_put2 H3.out (b := w.heap.size + 1) (by omega) _ _⟩
    clear x0 x1 y0 y1 f0 f1 f2 f3 H3
    rw [Bool.eq_iff_iff]
    simp [leV] at *
    try omega

end Go.Proofs.YtmcbedlmgffckaaGreatDoor

namespace Go.Proofs.YtmcbedlmgffckaaGreatDoor
open Go Go.RowKit Go.Sort

set_option maxHeartbeats 4000000 in
theorem combA_any (a b : V) (w : World) :
    Calls Tryz.prog 77 #[a.val, b.val, .func (Fn.func 76) #[] #[]] w fun e w' => e = .returned (comb (fun x y => x + y) a b).val ∧ Below w.heap.size w w' := by
  have hca := sn_c a
  have hcb := sn_c b
  have HF := Lib.hid (fun W => sum_any a.sn.c b.sn.c W hca hcb)
  have HO := Lib.hid (fun W => Of_any (a.sn.c + b.sn.c) W)
  have hka := sn_k a
  have hkb := sn_k b
  unfold comb
  have HA := Lib.hid (fun W => sn_any a W)
  have HB := Lib.hid (fun W => sn_any b W)
  clear hca hcb
  generalize a.sn = a' at *
  generalize b.sn = b' at *
  obtain ⟨k, c⟩ := a
  obtain ⟨l, d⟩ := b
  obtain ⟨k', c'⟩ := a'
  obtain ⟨l', d'⟩ := b'
  obtain ⟨q, hq⟩ : ∃ q, (if k' = 0 ∨ l' = 0 then vbot else if k' = 2 ∨ l' = 2 then vtop else vone (c' + d')) = q := ⟨_, rfl⟩
  have HQ := Lib.hid hq
  have HK := Lib.hid (And.intro hka hkb)
  simp only at HF HO
  rw [hq]
  clear hq hka hkb
  unfold V.val at HA HB HO ⊢
  have BA := ((Box.new w (.int .i64 k) (.int .i64 c) 54).alloc (.cells #[.int .i64 l, .int .i64 d] 54)).alloc (.cells #[.int .i64 0, .int .i64 0] 54)
  have BB := (Box.new (w.alloc (.cells #[.int .i64 k, .int .i64 c] 54)) (.int .i64 l) (.int .i64 d) 54).alloc (.cells #[.int .i64 0, .int .i64 0] 54)
  have BR := Box.new ((w.alloc (.cells #[.int .i64 k, .int .i64 c] 54)).alloc (.cells #[.int .i64 l, .int .i64 d] 54)) (.int .i64 0) (.int .i64 0) 54
  have hW := below3 w (.cells #[.int .i64 k, .int .i64 c] 54) (.cells #[.int .i64 l, .int .i64 d] 54) (.cells #[.int .i64 0, .int .i64 0] 54)
  simp only [World.size_alloc] at BB BR
  generalize hE : ((w.alloc (.cells #[.int .i64 k, .int .i64 c] 54)).alloc (.cells #[.int .i64 l, .int .i64 d] 54)).alloc (.cells #[.int .i64 0, .int .i64 0] 54) = W at *
  have BA := BA.drew
  have BB := BB.drew
  have BR := BR.drew
  have HW := Lib.hid hW.drew
  obtain ⟨a0, a1, a2, a3⟩ := id BA
  obtain ⟨b0, b1, b2, b3⟩ := id BB
  clear hW
  go_enter Tryz.func77, Tryz.ntmps77
  go_upto_region 1 with fail
  go_cut [] (fun wx => Box wx w.heap.size (.int .i64 k') (.int .i64 c') ∧ Box wx (w.heap.size + 1) (.int .i64 l') (.int .i64 d') ∧ Box wx (w.heap.size + 1 + 1) (.int .i64 0) (.int .i64 0) ∧ Below w.heap.size w wx)
  case first =>
    clear HF HO HQ HK hE
    have tok1 : True := trivial
    have tok2 : True := trivial
    go_region_with (first
      | (have _t := tok1; go_at_call 98; refine (HA.out _).mono ?_; clear HA _t tok1; rintro e w1 ⟨rfl, hb⟩; have BB1 := BB.below hb BB.lt; have BA1 := BA.below hb BA.lt; have BR1 := BR.below hb BR.lt; obtain ⟨b01, b11, b21, b31⟩ := id BB1; have HBW := Lib.hid (HW.out.trans (hb.mono HW.out.size)); clear hb BA BB BR)
      | (have _t := tok2; go_at_call 98; refine (HB.out _).mono ?_; clear HB _t tok2; rintro e w2 ⟨rfl, hb⟩; have BB2 := BB1.below hb BB1.lt; have BA2 := BA1.below hb BA1.lt; have BR2 := BR1.below hb BR1.lt; obtain ⟨b02, b12, b22, b32⟩ := id BB2; obtain ⟨a02, a12, a22, a32⟩ := id BA2; have HBW2 := Lib.hid (HBW.out.trans (hb.mono HBW.out.size)); clear hb))
    all_goals
      go_wp2_with fail
      go_meet
      have HP := below_put2 (below_put2 HBW2.out (b := w.heap.size) (Nat.le_refl _) (.int .i64 k') (.int .i64 c')) (b := w.heap.size + 1) (by omega) (.int .i64 l') (.int .i64 d')
      exact ⟨(BA2.put _ _).other (by omega) _ _, (BB2.other (by omega) _ _).put _ _, (BR2.other (by omega) _ _).other (by omega) _ _, HP⟩
  case rest =>
    obtain ⟨A, B, R, hB⟩ := hcut
    have HW := Lib.hid hB
    clear hE HA HB BA BB BR a0 a1 a2 a3 b0 b1 b2 b3 hB
    obtain ⟨x0, x1, -, -⟩ := id A
    obtain ⟨y0, y1, -, -⟩ := id B
    by_cases hk0 : k' = 0
    · subst hk0
      obtain rfl : vbot = q := by rw [← HQ.out, if_pos (.inl rfl)]
      obtain ⟨z0, z1, z2, z3⟩ := id R
      clear HF HO HQ HK
      go_wp2_with fail
      exact bodyPost_ret (v := .agg #[.int .i64 0, .int .i64 0]) (by simp [results, Tryz.results77, go_sem, z0, z1]) rfl ⟨rfl, below_put2 HW.out (b := w.heap.size + 1 + 1) (by omega) _ _⟩
    have d0 : (k' == 0) = false := by simpa using hk0
    by_cases hl0 : l' = 0
    · subst hl0
      obtain rfl : vbot = q := by rw [← HQ.out, if_pos (.inr rfl)]
      obtain ⟨z0, z1, z2, z3⟩ := id R
      clear HF HO HQ HK hk0
      go_wp2_with fail
      exact bodyPost_ret (v := .agg #[.int .i64 0, .int .i64 0]) (by simp [results, Tryz.results77, go_sem, z0, z1]) rfl ⟨rfl, below_put2 HW.out (b := w.heap.size + 1 + 1) (by omega) _ _⟩
    have d1 : (l' == 0) = false := by simpa using hl0
    have HQ2 := Lib.hid (HQ.out.symm.trans (if_neg (fun h => h.elim hk0 hl0)))
    by_cases hk2 : k' = 2
    · subst hk2
      obtain rfl : vtop = q := by rw [HQ2.out, if_pos (.inl rfl)]
      obtain ⟨z0, z1, z2, z3⟩ := id R
      clear HF HO HQ HQ2 HK hk0 hl0
      go_wp2_with fail
      exact bodyPost_ret (v := .agg #[.int .i64 2, .int .i64 0]) (by simp [results, Tryz.results77, go_sem, z0, z1]) rfl ⟨rfl, below_put2 HW.out (b := w.heap.size + 1 + 1) (by omega) _ _⟩
    have d2 : (k' == 2) = false := by simpa using hk2
    by_cases hl2 : l' = 2
    · subst hl2
      obtain rfl : vtop = q := by rw [HQ2.out, if_pos (.inr rfl)]
      obtain ⟨z0, z1, z2, z3⟩ := id R
      clear HF HO HQ HQ2 HK hk0 hl0 hk2
      go_wp2_with fail
      exact bodyPost_ret (v := .agg #[.int .i64 2, .int .i64 0]) (by simp [results, Tryz.results77, go_sem, z0, z1]) rfl ⟨rfl, below_put2 HW.out (b := w.heap.size + 1 + 1) (by omega) _ _⟩
    have d3 : (l' == 2) = false := by simpa using hl2
    obtain rfl : vone (c' + d') = q := by rw [HQ2.out, if_neg (fun h => h.elim hk2 hl2)]
    clear HQ HQ2 HK hk0 hl0 hk2 hl2
    go_wp2_with (first
      | (go_at_call 76; refine (HF.out _).mono ?_; clear HF x0 x1 y0 y1; rintro e w1 ⟨rfl, hb⟩; have R1 := R.below hb R.lt; have HX := Lib.hid (HW.out.trans (hb.mono HW.out.size)); clear hb A B R HW)
      | (go_at_call 38; refine (HO.out _).mono ?_; clear HO; rintro e w2 ⟨rfl, hb⟩; obtain ⟨z0, z1, z2, z3⟩ := R1.below hb R1.lt; have HY := Lib.hid (HX.out.trans (hb.mono HX.out.size)); clear hb R1 HX))
    exact bodyPost_ret (v := .agg #[.int .i64 1, .int .i64 (w32 (c' + d'))]) (by simp [results, Tryz.results77, go_sem, z0, z1, vone]) rfl ⟨rfl, below_put2 HY.out (b := w.heap.size + 1 + 1) (by omega) _ _⟩

set_option maxHeartbeats 4000000 in
theorem combS_any (a b : V) (w : World) :
    Calls Tryz.prog 77 #[a.val, b.val, .func (Fn.func 78) #[] #[]] w fun e w' => e = .returned (comb (fun x y => x - y) a b).val ∧ Below w.heap.size w w' := by
  have hca := sn_c a
  have hcb := sn_c b
  have HF := Lib.hid (fun W => difference_any a.sn.c b.sn.c W hca hcb)
  have HO := Lib.hid (fun W => Of_any (a.sn.c - b.sn.c) W)
  have hka := sn_k a
  have hkb := sn_k b
  unfold comb
  have HA := Lib.hid (fun W => sn_any a W)
  have HB := Lib.hid (fun W => sn_any b W)
  clear hca hcb
  generalize a.sn = a' at *
  generalize b.sn = b' at *
  obtain ⟨k, c⟩ := a
  obtain ⟨l, d⟩ := b
  obtain ⟨k', c'⟩ := a'
  obtain ⟨l', d'⟩ := b'
  obtain ⟨q, hq⟩ : ∃ q, (if k' = 0 ∨ l' = 0 then vbot else if k' = 2 ∨ l' = 2 then vtop else vone (c' - d')) = q := ⟨_, rfl⟩
  have HQ := Lib.hid hq
  have HK := Lib.hid (And.intro hka hkb)
  simp only at HF HO
  rw [hq]
  clear hq hka hkb
  unfold V.val at HA HB HO ⊢
  have BA := ((Box.new w (.int .i64 k) (.int .i64 c) 54).alloc (.cells #[.int .i64 l, .int .i64 d] 54)).alloc (.cells #[.int .i64 0, .int .i64 0] 54)
  have BB := (Box.new (w.alloc (.cells #[.int .i64 k, .int .i64 c] 54)) (.int .i64 l) (.int .i64 d) 54).alloc (.cells #[.int .i64 0, .int .i64 0] 54)
  have BR := Box.new ((w.alloc (.cells #[.int .i64 k, .int .i64 c] 54)).alloc (.cells #[.int .i64 l, .int .i64 d] 54)) (.int .i64 0) (.int .i64 0) 54
  have hW := below3 w (.cells #[.int .i64 k, .int .i64 c] 54) (.cells #[.int .i64 l, .int .i64 d] 54) (.cells #[.int .i64 0, .int .i64 0] 54)
  simp only [World.size_alloc] at BB BR
  generalize hE : ((w.alloc (.cells #[.int .i64 k, .int .i64 c] 54)).alloc (.cells #[.int .i64 l, .int .i64 d] 54)).alloc (.cells #[.int .i64 0, .int .i64 0] 54) = W at *
  have BA := BA.drew
  have BB := BB.drew
  have BR := BR.drew
  have HW := Lib.hid hW.drew
  obtain ⟨a0, a1, a2, a3⟩ := id BA
  obtain ⟨b0, b1, b2, b3⟩ := id BB
  clear hW
  go_enter Tryz.func77, Tryz.ntmps77
  go_upto_region 1 with fail
  go_cut [] (fun wx => Box wx w.heap.size (.int .i64 k') (.int .i64 c') ∧ Box wx (w.heap.size + 1) (.int .i64 l') (.int .i64 d') ∧ Box wx (w.heap.size + 1 + 1) (.int .i64 0) (.int .i64 0) ∧ Below w.heap.size w wx)
  case first =>
    clear HF HO HQ HK hE
    have tok1 : True := trivial
    have tok2 : True := trivial
    go_region_with (first
      | (have _t := tok1; go_at_call 98; refine (HA.out _).mono ?_; clear HA _t tok1; rintro e w1 ⟨rfl, hb⟩; have BB1 := BB.below hb BB.lt; have BA1 := BA.below hb BA.lt; have BR1 := BR.below hb BR.lt; obtain ⟨b01, b11, b21, b31⟩ := id BB1; have HBW := Lib.hid (HW.out.trans (hb.mono HW.out.size)); clear hb BA BB BR)
      | (have _t := tok2; go_at_call 98; refine (HB.out _).mono ?_; clear HB _t tok2; rintro e w2 ⟨rfl, hb⟩; have BB2 := BB1.below hb BB1.lt; have BA2 := BA1.below hb BA1.lt; have BR2 := BR1.below hb BR1.lt; obtain ⟨b02, b12, b22, b32⟩ := id BB2; obtain ⟨a02, a12, a22, a32⟩ := id BA2; have HBW2 := Lib.hid (HBW.out.trans (hb.mono HBW.out.size)); clear hb))
    all_goals
      go_wp2_with fail
      go_meet
      have HP := below_put2 (below_put2 HBW2.out (b := w.heap.size) (Nat.le_refl _) (.int .i64 k') (.int .i64 c')) (b := w.heap.size + 1) (by omega) (.int .i64 l') (.int .i64 d')
      exact ⟨(BA2.put _ _).other (by omega) _ _, (BB2.other (by omega) _ _).put _ _, (BR2.other (by omega) _ _).other (by omega) _ _, HP⟩
  case rest =>
    obtain ⟨A, B, R, hB⟩ := hcut
    have HW := Lib.hid hB
    clear hE HA HB BA BB BR a0 a1 a2 a3 b0 b1 b2 b3 hB
    obtain ⟨x0, x1, -, -⟩ := id A
    obtain ⟨y0, y1, -, -⟩ := id B
    by_cases hk0 : k' = 0
    · subst hk0
      obtain rfl : vbot = q := by rw [← HQ.out, if_pos (.inl rfl)]
      obtain ⟨z0, z1, z2, z3⟩ := id R
      clear HF HO HQ HK
      go_wp2_with fail
      exact bodyPost_ret (v := .agg #[.int .i64 0, .int .i64 0]) (by simp [results, Tryz.results77, go_sem, z0, z1]) rfl ⟨rfl, below_put2 HW.out (b := w.heap.size + 1 + 1) (by omega) _ _⟩
    have d0 : (k' == 0) = false := by simpa using hk0
    by_cases hl0 : l' = 0
    · subst hl0
      obtain rfl : vbot = q := by rw [← HQ.out, if_pos (.inr rfl)]
      obtain ⟨z0, z1, z2, z3⟩ := id R
      clear HF HO HQ HK hk0
      go_wp2_with fail
      exact bodyPost_ret (v := .agg #[.int .i64 0, .int .i64 0]) (by simp [results, Tryz.results77, go_sem, z0, z1]) rfl ⟨rfl, below_put2 HW.out (b := w.heap.size + 1 + 1) (by omega) _ _⟩
    have d1 : (l' == 0) = false := by simpa using hl0
    have HQ2 := Lib.hid (HQ.out.symm.trans (if_neg (fun h => h.elim hk0 hl0)))
    by_cases hk2 : k' = 2
    · subst hk2
      obtain rfl : vtop = q := by rw [HQ2.out, if_pos (.inl rfl)]
      obtain ⟨z0, z1, z2, z3⟩ := id R
      clear HF HO HQ HQ2 HK hk0 hl0
      go_wp2_with fail
      exact bodyPost_ret (v := .agg #[.int .i64 2, .int .i64 0]) (by simp [results, Tryz.results77, go_sem, z0, z1]) rfl ⟨rfl, below_put2 HW.out (b := w.heap.size + 1 + 1) (by omega) _ _⟩
    have d2 : (k' == 2) = false := by simpa using hk2
    by_cases hl2 : l' = 2
    · subst hl2
      obtain rfl : vtop = q := by rw [HQ2.out, if_pos (.inr rfl)]
      obtain ⟨z0, z1, z2, z3⟩ := id R
      clear HF HO HQ HQ2 HK hk0 hl0 hk2
      go_wp2_with fail
      exact bodyPost_ret (v := .agg #[.int .i64 2, .int .i64 0]) (by simp [results, Tryz.results77, go_sem, z0, z1]) rfl ⟨rfl, below_put2 HW.out (b := w.heap.size + 1 + 1) (by omega) _ _⟩
    have d3 : (l' == 2) = false := by simpa using hl2
    obtain rfl : vone (c' - d') = q := by rw [HQ2.out, if_neg (fun h => h.elim hk2 hl2)]
    clear HQ HQ2 HK hk0 hl0 hk2 hl2
    go_wp2_with (first
      | (go_at_call 78; refine (HF.out _).mono ?_; clear HF x0 x1 y0 y1; rintro e w1 ⟨rfl, hb⟩; have R1 := R.below hb R.lt; have HX := Lib.hid (HW.out.trans (hb.mono HW.out.size)); clear hb A B R HW)
      | (go_at_call 38; refine (HO.out _).mono ?_; clear HO; rintro e w2 ⟨rfl, hb⟩; obtain ⟨z0, z1, z2, z3⟩ := R1.below hb R1.lt; have HY := Lib.hid (HX.out.trans (hb.mono HX.out.size)); clear hb R1 HX))
    exact bodyPost_ret (v := .agg #[.int .i64 1, .int .i64 (w32 (c' - d'))]) (by simp [results, Tryz.results77, go_sem, z0, z1, vone]) rfl ⟨rfl, below_put2 HY.out (b := w.heap.size + 1 + 1) (by omega) _ _⟩

set_option maxHeartbeats 4000000 in
theorem combM_any (a b : V) (w : World) :
    Calls Tryz.prog 77 #[a.val, b.val, .func (Fn.func 79) #[] #[]] w fun e w' => e = .returned (comb (fun x y => x * y) a b).val ∧ Below w.heap.size w w' := by
  have hca := sn_c a
  have hcb := sn_c b
  have HF := Lib.hid (fun W => product_any a.sn.c b.sn.c W hca hcb)
  have HO := Lib.hid (fun W => Of_any (a.sn.c * b.sn.c) W)
  have hka := sn_k a
  have hkb := sn_k b
  unfold comb
  have HA := Lib.hid (fun W => sn_any a W)
  have HB := Lib.hid (fun W => sn_any b W)
  clear hca hcb
  generalize a.sn = a' at *
  generalize b.sn = b' at *
  obtain ⟨k, c⟩ := a
  obtain ⟨l, d⟩ := b
  obtain ⟨k', c'⟩ := a'
  obtain ⟨l', d'⟩ := b'
  obtain ⟨q, hq⟩ : ∃ q, (if k' = 0 ∨ l' = 0 then vbot else if k' = 2 ∨ l' = 2 then vtop else vone (c' * d')) = q := ⟨_, rfl⟩
  have HQ := Lib.hid hq
  have HK := Lib.hid (And.intro hka hkb)
  simp only at HF HO
  rw [hq]
  clear hq hka hkb
  unfold V.val at HA HB HO ⊢
  have BA := ((Box.new w (.int .i64 k) (.int .i64 c) 54).alloc (.cells #[.int .i64 l, .int .i64 d] 54)).alloc (.cells #[.int .i64 0, .int .i64 0] 54)
  have BB := (Box.new (w.alloc (.cells #[.int .i64 k, .int .i64 c] 54)) (.int .i64 l) (.int .i64 d) 54).alloc (.cells #[.int .i64 0, .int .i64 0] 54)
  have BR := Box.new ((w.alloc (.cells #[.int .i64 k, .int .i64 c] 54)).alloc (.cells #[.int .i64 l, .int .i64 d] 54)) (.int .i64 0) (.int .i64 0) 54
  have hW := below3 w (.cells #[.int .i64 k, .int .i64 c] 54) (.cells #[.int .i64 l, .int .i64 d] 54) (.cells #[.int .i64 0, .int .i64 0] 54)
  simp only [World.size_alloc] at BB BR
  generalize hE : ((w.alloc (.cells #[.int .i64 k, .int .i64 c] 54)).alloc (.cells #[.int .i64 l, .int .i64 d] 54)).alloc (.cells #[.int .i64 0, .int .i64 0] 54) = W at *
  have BA := BA.drew
  have BB := BB.drew
  have BR := BR.drew
  have HW := Lib.hid hW.drew
  obtain ⟨a0, a1, a2, a3⟩ := id BA
  obtain ⟨b0, b1, b2, b3⟩ := id BB
  clear hW
  go_enter Tryz.func77, Tryz.ntmps77
  go_upto_region 1 with fail
  go_cut [] (fun wx => Box wx w.heap.size (.int .i64 k') (.int .i64 c') ∧ Box wx (w.heap.size + 1) (.int .i64 l') (.int .i64 d') ∧ Box wx (w.heap.size + 1 + 1) (.int .i64 0) (.int .i64 0) ∧ Below w.heap.size w wx)
  case first =>
    clear HF HO HQ HK hE
    have tok1 : True := trivial
    have tok2 : True := trivial
    go_region_with (first
      | (have _t := tok1; go_at_call 98; refine (HA.out _).mono ?_; clear HA _t tok1; rintro e w1 ⟨rfl, hb⟩; have BB1 := BB.below hb BB.lt; have BA1 := BA.below hb BA.lt; have BR1 := BR.below hb BR.lt; obtain ⟨b01, b11, b21, b31⟩ := id BB1; have HBW := Lib.hid (HW.out.trans (hb.mono HW.out.size)); clear hb BA BB BR)
      | (have _t := tok2; go_at_call 98; refine (HB.out _).mono ?_; clear HB _t tok2; rintro e w2 ⟨rfl, hb⟩; have BB2 := BB1.below hb BB1.lt; have BA2 := BA1.below hb BA1.lt; have BR2 := BR1.below hb BR1.lt; obtain ⟨b02, b12, b22, b32⟩ := id BB2; obtain ⟨a02, a12, a22, a32⟩ := id BA2; have HBW2 := Lib.hid (HBW.out.trans (hb.mono HBW.out.size)); clear hb))
    all_goals
      go_wp2_with fail
      go_meet
      have HP := below_put2 (below_put2 HBW2.out (b := w.heap.size) (Nat.le_refl _) (.int .i64 k') (.int .i64 c')) (b := w.heap.size + 1) (by omega) (.int .i64 l') (.int .i64 d')
      exact ⟨(BA2.put _ _).other (by omega) _ _, (BB2.other (by omega) _ _).put _ _, (BR2.other (by omega) _ _).other (by omega) _ _, HP⟩
  case rest =>
    obtain ⟨A, B, R, hB⟩ := hcut
    have HW := Lib.hid hB
    clear hE HA HB BA BB BR a0 a1 a2 a3 b0 b1 b2 b3 hB
    obtain ⟨x0, x1, -, -⟩ := id A
    obtain ⟨y0, y1, -, -⟩ := id B
    by_cases hk0 : k' = 0
    · subst hk0
      obtain rfl : vbot = q := by rw [← HQ.out, if_pos (.inl rfl)]
      obtain ⟨z0, z1, z2, z3⟩ := id R
      clear HF HO HQ HK
      go_wp2_with fail
      exact bodyPost_ret (v := .agg #[.int .i64 0, .int .i64 0]) (by simp [results, Tryz.results77, go_sem, z0, z1]) rfl ⟨rfl, below_put2 HW.out (b := w.heap.size + 1 + 1) (by omega) _ _⟩
    have d0 : (k' == 0) = false := by simpa using hk0
    by_cases hl0 : l' = 0
    · subst hl0
      obtain rfl : vbot = q := by rw [← HQ.out, if_pos (.inr rfl)]
      obtain ⟨z0, z1, z2, z3⟩ := id R
      clear HF HO HQ HK hk0
      go_wp2_with fail
      exact bodyPost_ret (v := .agg #[.int .i64 0, .int .i64 0]) (by simp [results, Tryz.results77, go_sem, z0, z1]) rfl ⟨rfl, below_put2 HW.out (b := w.heap.size + 1 + 1) (by omega) _ _⟩
    have d1 : (l' == 0) = false := by simpa using hl0
    have HQ2 := Lib.hid (HQ.out.symm.trans (if_neg (fun h => h.elim hk0 hl0)))
    by_cases hk2 : k' = 2
    · subst hk2
      obtain rfl : vtop = q := by rw [HQ2.out, if_pos (.inl rfl)]
      obtain ⟨z0, z1, z2, z3⟩ := id R
      clear HF HO HQ HQ2 HK hk0 hl0
      go_wp2_with fail
      exact bodyPost_ret (v := .agg #[.int .i64 2, .int .i64 0]) (by simp [results, Tryz.results77, go_sem, z0, z1]) rfl ⟨rfl, below_put2 HW.out (b := w.heap.size + 1 + 1) (by omega) _ _⟩
    have d2 : (k' == 2) = false := by simpa using hk2
    by_cases hl2 : l' = 2
    · subst hl2
      obtain rfl : vtop = q := by rw [HQ2.out, if_pos (.inr rfl)]
      obtain ⟨z0, z1, z2, z3⟩ := id R
      clear HF HO HQ HQ2 HK hk0 hl0 hk2
      go_wp2_with fail
      exact bodyPost_ret (v := .agg #[.int .i64 2, .int .i64 0]) (by simp [results, Tryz.results77, go_sem, z0, z1]) rfl ⟨rfl, below_put2 HW.out (b := w.heap.size + 1 + 1) (by omega) _ _⟩
    have d3 : (l' == 2) = false := by simpa using hl2
    obtain rfl : vone (c' * d') = q := by rw [HQ2.out, if_neg (fun h => h.elim hk2 hl2)]
    clear HQ HQ2 HK hk0 hl0 hk2 hl2
    go_wp2_with (first
      | (go_at_call 79; refine (HF.out _).mono ?_; clear HF x0 x1 y0 y1; rintro e w1 ⟨rfl, hb⟩; have R1 := R.below hb R.lt; have HX := Lib.hid (HW.out.trans (hb.mono HW.out.size)); clear hb A B R HW)
      | (go_at_call 38; refine (HO.out _).mono ?_; clear HO; rintro e w2 ⟨rfl, hb⟩; obtain ⟨z0, z1, z2, z3⟩ := R1.below hb R1.lt; have HY := Lib.hid (HX.out.trans (hb.mono HX.out.size)); clear hb R1 HX))
    exact bodyPost_ret (v := .agg #[.int .i64 1, .int .i64 (w32 (c' * d'))]) (by simp [results, Tryz.results77, go_sem, z0, z1, vone]) rfl ⟨rfl, below_put2 HY.out (b := w.heap.size + 1 + 1) (by omega) _ _⟩
end Go.Proofs.YtmcbedlmgffckaaGreatDoor

namespace Go.Proofs.YtmcbedlmgffckaaGreatDoor
open Go Go.RowKit Go.Sort

set_option maxHeartbeats 2000000 in
theorem Add_any (a b : V) (w : World) :
    Calls Tryz.prog 40 #[a.val, b.val] w fun e w' => e = .returned (addV a b).val ∧ Below w.heap.size w w' := by
  have HC := Lib.hid (fun W => combA_any a b W)
  rw [show comb _ a b = addV a b from rfl] at HC
  generalize addV a b = r at *
  obtain ⟨k, c⟩ := a
  obtain ⟨l, d⟩ := b
  obtain ⟨k', c'⟩ := r
  unfold V.val at HC ⊢
  have BR := Box.new ((w.alloc (.cells #[.int .i64 k, .int .i64 c] 54)).alloc (.cells #[.int .i64 l, .int .i64 d] 54)) (.int .i64 0) (.int .i64 0) 54
  have HW := Lib.hid (below3 w (.cells #[.int .i64 k, .int .i64 c] 54) (.cells #[.int .i64 l, .int .i64 d] 54) (.cells #[.int .i64 0, .int .i64 0] 54))
  simp only [World.size_alloc] at BR
  go_enter Tryz.func40, Tryz.ntmps40
  go_wp2_with (go_at_call 77; refine (HC.out _).mono ?_; clear HC; rintro e w1 ⟨rfl, hb⟩; obtain ⟨z0, z1, z2, z3⟩ := BR.below hb BR.lt; have HX := Lib.hid (HW.out.trans (hb.mono HW.out.size)); clear hb BR HW)
  exact bodyPost_ret (v := .agg #[.int .i64 k', .int .i64 c']) (by simp [results, Tryz.results40, go_sem, z0, z1]) rfl ⟨rfl, below_put2 HX.out (b := w.heap.size + 1 + 1) (by omega) _ _⟩

set_option maxHeartbeats 2000000 in
theorem Sub_any (a b : V) (w : World) :
    Calls Tryz.prog 41 #[a.val, b.val] w fun e w' => e = .returned (subV a b).val ∧ Below w.heap.size w w' := by
  have HC := Lib.hid (fun W => combS_any a b W)
  rw [show comb _ a b = subV a b from rfl] at HC
  generalize subV a b = r at *
  obtain ⟨k, c⟩ := a
  obtain ⟨l, d⟩ := b
  obtain ⟨k', c'⟩ := r
  unfold V.val at HC ⊢
  have BR := Box.new ((w.alloc (.cells #[.int .i64 k, .int .i64 c] 54)).alloc (.cells #[.int .i64 l, .int .i64 d] 54)) (.int .i64 0) (.int .i64 0) 54
  have HW := Lib.hid (below3 w (.cells #[.int .i64 k, .int .i64 c] 54) (.cells #[.int .i64 l, .int .i64 d] 54) (.cells #[.int .i64 0, .int .i64 0] 54))
  simp only [World.size_alloc] at BR
  go_enter Tryz.func41, Tryz.ntmps41
  go_wp2_with (go_at_call 77; refine (HC.out _).mono ?_; clear HC; rintro e w1 ⟨rfl, hb⟩; obtain ⟨z0, z1, z2, z3⟩ := BR.below hb BR.lt; have HX := Lib.hid (HW.out.trans (hb.mono HW.out.size)); clear hb BR HW)
  exact bodyPost_ret (v := .agg #[.int .i64 k', .int .i64 c']) (by simp [results, Tryz.results41, go_sem, z0, z1]) rfl ⟨rfl, below_put2 HX.out (b := w.heap.size + 1 + 1) (by omega) _ _⟩

set_option maxHeartbeats 2000000 in
theorem Mul_any (a b : V) (w : World) :
    Calls Tryz.prog 42 #[a.val, b.val] w fun e w' => e = .returned (mulV a b).val ∧ Below w.heap.size w w' := by
  have HC := Lib.hid (fun W => combM_any a b W)
  rw [show comb _ a b = mulV a b from rfl] at HC
  generalize mulV a b = r at *
  obtain ⟨k, c⟩ := a
  obtain ⟨l, d⟩ := b
  obtain ⟨k', c'⟩ := r
  unfold V.val at HC ⊢
  have BR := Box.new ((w.alloc (.cells #[.int .i64 k, .int .i64 c] 54)).alloc (.cells #[.int .i64 l, .int .i64 d] 54)) (.int .i64 0) (.int .i64 0) 54
  have HW := Lib.hid (below3 w (.cells #[.int .i64 k, .int .i64 c] 54) (.cells #[.int .i64 l, .int .i64 d] 54) (.cells #[.int .i64 0, .int .i64 0] 54))
  simp only [World.size_alloc] at BR
  go_enter Tryz.func42, Tryz.ntmps42
  go_wp2_with (go_at_call 77; refine (HC.out _).mono ?_; clear HC; rintro e w1 ⟨rfl, hb⟩; obtain ⟨z0, z1, z2, z3⟩ := BR.below hb BR.lt; have HX := Lib.hid (HW.out.trans (hb.mono HW.out.size)); clear hb BR HW)
  exact bodyPost_ret (v := .agg #[.int .i64 k', .int .i64 c']) (by simp [results, Tryz.results42, go_sem, z0, z1]) rfl ⟨rfl, below_put2 HX.out (b := w.heap.size + 1 + 1) (by omega) _ _⟩

set_option maxHeartbeats 2000000 in
theorem Neg_any (a : V) (w : World) :
    Calls Tryz.prog 39 #[a.val] w fun e w' => e = .returned (negV a).val ∧ Below w.heap.size w w' := by
  unfold negV
  have HO := Lib.hid (fun W => Of_any 0 W)
  have HC := Lib.hid (fun W => Sub_any (vone 0) a W)
  generalize subV (vone 0) a = r at *
  generalize vone 0 = z at *
  obtain ⟨k, c⟩ := a
  obtain ⟨l, d⟩ := z
  obtain ⟨k', c'⟩ := r
  unfold V.val at HC HO ⊢
  have BA := (Box.new w (.int .i64 k) (.int .i64 c) 54).alloc (.cells #[.int .i64 0, .int .i64 0] 54)
  have BR := Box.new (w.alloc (.cells #[.int .i64 k, .int .i64 c] 54)) (.int .i64 0) (.int .i64 0) 54
  have hW := below2 w (.cells #[.int .i64 k, .int .i64 c] 54) (.cells #[.int .i64 0, .int .i64 0] 54)
  rw [World.size_alloc] at BR
  generalize hE : (w.alloc (.cells #[.int .i64 k, .int .i64 c] 54)).alloc (.cells #[.int .i64 0, .int .i64 0] 54) = W at *
  have BA := BA.drew
  have BR := BR.drew
  have HW := Lib.hid hW.drew
  obtain ⟨a0, a1, -, -⟩ := id BA
  clear hW
  go_enter Tryz.func39, Tryz.ntmps39
  go_upto_region 1 with fail
  clear hE
  go_region_with (first
    | (go_at_call 38; refine (HO.out _).mono ?_; clear HO; rintro e w1 ⟨rfl, hb⟩; have BA1 := BA.below hb BA.lt; have BR1 := BR.below hb BR.lt; obtain ⟨b0, b1, -, -⟩ := id BA1; have HX := Lib.hid (HW.out.trans (hb.mono HW.out.size)); clear hb BA BR)
    | (go_at_call 41; refine (HC.out _).mono ?_; clear HC; rintro e w2 ⟨rfl, hb⟩; obtain ⟨z0, z1, z2, z3⟩ := BR1.below hb BR1.lt; have HY := Lib.hid (HX.out.trans (hb.mono HX.out.size)); clear hb BR1 BA1))
  all_goals
    go_wp2_with fail
    exact bodyPost_ret (v := .agg #[.int .i64 k', .int .i64 c']) (by simp [results, Tryz.results39, go_sem, z0, z1]) rfl ⟨rfl, below_put2 HY.out (b := w.heap.size + 1) (by omega) _ _⟩

set_option maxHeartbeats 2000000 in
theorem rJoin_any (a b : V) (w : World) :
    Calls Tryz.prog 46 #[a.val, b.val] w fun e w' => e = .returned (join a b).val ∧ Below w.heap.size w w' := by
  unfold join
  have HA := Lib.hid (fun W => rsn_any a W)
  have HB := Lib.hid (fun W => rsn_any b W)
  have HL := Lib.hid (fun W => rLeq_any a b W)
  have HM := Lib.hid (fun W => rLeq_any b a W)
  generalize a.sn = a' at *
  generalize b.sn = b' at *
  generalize leq a b = r at *
  generalize leq b a = s at *
  obtain ⟨k, c⟩ := a
  obtain ⟨l, d⟩ := b
  obtain ⟨k', c'⟩ := a'
  obtain ⟨l', d'⟩ := b'
  unfold V.val at HA HB HL HM ⊢
  have BA := ((Box.new w (.int .i64 k) (.int .i64 c) 53).alloc (.cells #[.int .i64 l, .int .i64 d] 53)).alloc (.cells #[.int .i64 0, .int .i64 0] 53)
  have BB := (Box.new (w.alloc (.cells #[.int .i64 k, .int .i64 c] 53)) (.int .i64 l) (.int .i64 d) 53).alloc (.cells #[.int .i64 0, .int .i64 0] 53)
  have BR := Box.new ((w.alloc (.cells #[.int .i64 k, .int .i64 c] 53)).alloc (.cells #[.int .i64 l, .int .i64 d] 53)) (.int .i64 0) (.int .i64 0) 53
  have hW := below3 w (.cells #[.int .i64 k, .int .i64 c] 53) (.cells #[.int .i64 l, .int .i64 d] 53) (.cells #[.int .i64 0, .int .i64 0] 53)
  simp only [World.size_alloc] at BB BR
  generalize hE : ((w.alloc (.cells #[.int .i64 k, .int .i64 c] 53)).alloc (.cells #[.int .i64 l, .int .i64 d] 53)).alloc (.cells #[.int .i64 0, .int .i64 0] 53) = W at *
  have HW := Lib.hid hW
  obtain ⟨x0, x1, -, -⟩ := id BA
  obtain ⟨y0, y1, -, -⟩ := id BB
  clear hW
  have tok1 : True := trivial
  cases r with
  | true =>
    go_enter Tryz.func46, Tryz.ntmps46
    go_wp2_with (first
      | (go_at_call 83; refine (HL.out _).mono ?_; clear HL HM x0 x1 y0 y1; rintro e w1 ⟨rfl, hb⟩; have B1 := BB.below hb BB.lt; have R1 := BR.below hb BR.lt; obtain ⟨y0, y1, -, -⟩ := id B1; have HX := Lib.hid (HW.out.trans (hb.mono HW.out.size)); clear hb BA BB BR HW)
      | (go_at_call 84; refine (HB.out _).mono ?_; clear HB HA y0 y1; rintro e w2 ⟨rfl, hb⟩; obtain ⟨z0, z1, z2, z3⟩ := R1.below hb R1.lt; have HY := Lib.hid (HX.out.trans (hb.mono HX.out.size)); clear hb B1 R1 HX))
    exact bodyPost_ret (v := .agg #[.int .i64 l', .int .i64 d']) (by simp [results, Tryz.results46, go_sem, z0, z1]) rfl ⟨rfl, below_put2 HY.out (b := w.heap.size + 1 + 1) (by omega) _ _⟩
  | false =>
    cases s with
    | true =>
      go_enter Tryz.func46, Tryz.ntmps46
      go_wp2_with (first
        | (have _t := tok1; go_at_call 83; refine (HL.out _).mono ?_; clear HL _t tok1 x0 x1 y0 y1; rintro e w1 ⟨rfl, hb⟩; have A1 := BA.below hb BA.lt; have B1 := BB.below hb BB.lt; have R1 := BR.below hb BR.lt; obtain ⟨x0, x1, -, -⟩ := id A1; obtain ⟨y0, y1, -, -⟩ := id B1; have HX := Lib.hid (HW.out.trans (hb.mono HW.out.size)); clear hb BA BB BR HW)
        | (go_at_call 83; refine (HM.out _).mono ?_; clear HM x0 x1 y0 y1; rintro e w2 ⟨rfl, hb⟩; have A2 := A1.below hb A1.lt; have R2 := R1.below hb R1.lt; obtain ⟨x0, x1, -, -⟩ := id A2; have HY := Lib.hid (HX.out.trans (hb.mono HX.out.size)); clear hb A1 B1 R1 HX)
        | (go_at_call 84; refine (HA.out _).mono ?_; clear HB HA x0 x1; rintro e w3 ⟨rfl, hb⟩; obtain ⟨z0, z1, z2, z3⟩ := R2.below hb R2.lt; have HZ := Lib.hid (HY.out.trans (hb.mono HY.out.size)); clear hb A2 R2 HY))
      exact bodyPost_ret (v := .agg #[.int .i64 k', .int .i64 c']) (by simp [results, Tryz.results46, go_sem, z0, z1]) rfl ⟨rfl, below_put2 HZ.out (b := w.heap.size + 1 + 1) (by omega) _ _⟩
    | false =>
      go_enter Tryz.func46, Tryz.ntmps46
      go_wp2_with (first
        | (have _t := tok1; go_at_call 83; refine (HL.out _).mono ?_; clear HL _t tok1 x0 x1 y0 y1; rintro e w1 ⟨rfl, hb⟩; have A1 := BA.below hb BA.lt; have B1 := BB.below hb BB.lt; have R1 := BR.below hb BR.lt; obtain ⟨x0, x1, -, -⟩ := id A1; obtain ⟨y0, y1, -, -⟩ := id B1; have HX := Lib.hid (HW.out.trans (hb.mono HW.out.size)); clear hb BA BB BR HW)
        | (go_at_call 83; refine (HM.out _).mono ?_; clear HM x0 x1 y0 y1; rintro e w2 ⟨rfl, hb⟩; obtain ⟨z0, z1, z2, z3⟩ := R1.below hb R1.lt; have HY := Lib.hid (HX.out.trans (hb.mono HX.out.size)); clear hb A1 B1 R1 HX))
      exact bodyPost_ret (v := .agg #[.int .i64 2, .int .i64 0]) (by simp [results, Tryz.results46, go_sem, z0, z1]) rfl ⟨rfl, below_put2 HY.out (b := w.heap.size + 1 + 1) (by omega) _ _⟩
end Go.Proofs.YtmcbedlmgffckaaGreatDoor
