/- EnvY: several texts in one: EnvM EnvA EnvB EnvC EnvD EnvE EnvF. -/
import Derived.Test.YtmcbedlmgffckaaGreatDoorFlaG
import Derived.Test.YtmcbedlmgffckaaGreatDoorSiG
import Derived.Deep.AppendLies
import Derived.Test.YtmcbedlmgffckaaGreatDoorInts

namespace Go.Proofs.YtmcbedlmgffckaaGreatDoor
open Go

section
variable {α : Type}
/-- How many variables have a value. -/
def szG (on : Bool) (l : List α) : Nat := if on then l.length else 0
/-- The value at a place, as it stands; d where there is none. -/
def atG (d : α) (on : Bool) (l : List α) (i : Int) : α := if 0 ≤ i ∧ i < (szG on l : Int) then l[i.toNat]?.getD d else d
theorem atG_out {d : α} {on : Bool} {l : List α} {i : Int} (h : ¬ (0 ≤ i ∧ i < (szG on l : Int))) : atG d on l i = d := if_neg h
theorem atG_in {d : α} {l : List α} {k : Nat} (h : k < l.length) : atG d true l (k : Int) = l[k]?.getD d := by
  unfold atG szG; rw [if_pos ⟨by omega, by simpa using h⟩]; simp
/-- A list of n, f of each place. -/
def tabG (f : Nat → α) (n : Nat) : List α := (List.range n).map f
theorem tabG_length (f : Nat → α) (n : Nat) : (tabG f n).length = n := by simp [tabG]
theorem tabG_succ (f : Nat → α) (n : Nat) : tabG f (n + 1) = tabG f n ++ [f n] := by simp [tabG, List.range_succ]
theorem tabG_at (f : Nat → α) {n k : Nat} (h : k < n) (d : α) : (tabG f n)[k]?.getD d = f k := by simp [tabG, h]
/-- The first k of n laid, the rest as it was made. -/
def midG (f : Nat → α) (d : α) (n k : Nat) : List α := tabG f k ++ List.replicate (n - k) d
theorem midG_zero (f : Nat → α) (d : α) (n : Nat) : midG f d n 0 = List.replicate n d := by simp [midG, tabG]
theorem midG_full (f : Nat → α) (d : α) (n : Nat) : midG f d n n = tabG f n := by simp [midG]
theorem midG_length (f : Nat → α) (d : α) {n k : Nat} (h : k ≤ n) : (midG f d n k).length = n := by simp [midG, tabG]; omega
theorem midG_set (f : Nat → α) (d : α) {n k : Nat} (h : k < n) : (midG f d n k).set k (f k) = midG f d n (k + 1) := by
  unfold midG
  rw [tabG_succ, List.set_append_right _ _ (by rw [tabG_length]; exact Nat.le_refl _), tabG_length, Nat.sub_self]
  obtain ⟨m, hm⟩ : ∃ m, n - k = m + 1 := ⟨n - k - 1, by omega⟩
  rw [hm, List.replicate_succ, List.set_cons_zero, show n - (k + 1) = m by omega]
  simp
def joinG (d : α) (jn : α → α → α) (on1 : Bool) (l1 : List α) (on2 : Bool) (l2 : List α) : List α :=
  tabG (fun k => jn (atG d on1 l1 (k : Int)) (atG d on2 l2 (k : Int))) (max (szG on1 l1) (szG on2 l2))
/-- All of the first n places. -/
def allG (p : Nat → Bool) (n : Nat) : Bool := (List.range n).all p
theorem allG_succ (p : Nat → Bool) (n : Nat) : allG p (n + 1) = (allG p n && p n) := by simp [allG, List.range_succ]
theorem allG_false {p : Nat → Bool} {n k : Nat} (hk : k < n) (h : p k = false) : allG p n = false := by
  simp only [allG, List.all_eq_false]; exact ⟨k, List.mem_range.2 hk, by simp [h]⟩
theorem allG_iff {p : Nat → Bool} {n : Nat} : allG p n = true ↔ ∀ k, k < n → p k = true := by simp [allG]
def leqG (d : α) (le : α → α → Bool) (on1 : Bool) (l1 : List α) (on2 : Bool) (l2 : List α) : Bool :=
  (!on1 || on2) && allG (fun k => le (atG d on1 l1 (k : Int)) (atG d on2 l2 (k : Int))) (szG on1 l1)
def putG (l : List α) (i : Int) (v : α) : List α := if 0 ≤ i ∧ i < (l.length : Int) then l.set i.toNat v else l
def setG (sn : α → α) (on : Bool) (l : List α) (i : Int) (v : α) : List α := if on then putG (l.map sn) i (sn v) else []
end
def clG (n : Int) (m : Nat) : Nat := if n < 0 then 0 else if (m : Int) < n then m else n.toNat
theorem clG_le (n : Int) (m : Nat) : clG n m ≤ m := by unfold clG; split <;> (try split) <;> omega
end Go.Proofs.YtmcbedlmgffckaaGreatDoor

namespace Go.Proofs.YtmcbedlmgffckaaGreatDoor
open Go Go.RowKit Go.Sort

/-- A slice's values, read in a world, in blocks below B. -/
def FIs (B : Nat) (W : World) (a : Option Addr) (l : List V) : Prop :=
  ∀ j, j < l.length → ∃ b o, a = some ⟨b, o, none⟩ ∧ b < B ∧ W.cell? ⟨b, o + j * 2, none⟩ = some (.int .i64 (l[j]?.getD vbot).k) ∧ W.cell? ⟨b, o + j * 2 + 1, none⟩ = some (.int .i64 (l[j]?.getD vbot).c)
theorem FIs.below {B : Nat} {W W' : World} {a : Option Addr} {l : List V} (h : FIs B W a l) (hb : Below B W W') : FIs B W' a l :=
  fun j hj => let ⟨b, o, e, hlt, h0, h1⟩ := h j hj; ⟨b, o, e, hlt, (hb.cell (p := ⟨b, o + j * 2, none⟩) hlt).trans h0, (hb.cell (p := ⟨b, o + j * 2 + 1, none⟩) hlt).trans h1⟩
theorem FIs.mono {B B' : Nat} {W : World} {a : Option Addr} {l : List V} (h : FIs B W a l) (hb : B ≤ B') : FIs B' W a l :=
  fun j hj => let ⟨b, o, e, hlt, h0⟩ := h j hj; ⟨b, o, e, Nat.lt_of_lt_of_le hlt hb, h0⟩
theorem FIs.nil (B : Nat) (W : World) (a : Option Addr) : FIs B W a [] := fun _ hj => absurd hj (Nat.not_lt_zero _)
theorem Is.nil (B : Nat) (W : World) (a : Option Addr) : Is B W a [] := fun _ hj => absurd hj (Nat.not_lt_zero _)

theorem szG_eq {α : Type} (on : Bool) (l : List α) : szG on l = if on then l.length else 0 := rfl

set_option maxHeartbeats 1000000 in
theorem fsize_any (on : Bool) (a : Option Addr) (n cap : Nat) (w : World) :
    Calls Tryz.prog 72 #[.agg #[.bool on, .slice a n cap]] w fun e w' => e = .returned (.int .i64 ((if on then n else 0 : Nat) : Int)) ∧ Below w.heap.size w w' := by
  cases on
  all_goals
    go_enter Tryz.func72, Tryz.ntmps72
    go_wp2
    go_ret
    exact ⟨rfl, below1 _ _⟩

set_option maxHeartbeats 2000000 in
theorem fat_any (on : Bool) (a : Option Addr) (l : List V) (cap : Nat) (i : Int) (w : World) (hF : FIs w.heap.size w a l) :
    Calls Tryz.prog 73 #[.agg #[.bool on, .slice a l.length cap], .int .i64 i] w fun e w' => e = .returned (atG vbot on l i).val ∧ Below w.heap.size w w' := by
  have HC := Lib.hid (fun W => fsize_any on a l.length cap W)
  have HF := Lib.hid hF
  have BE := (Box.new w (.bool on) (.slice a l.length cap) 36).alloc (.cells #[.int .i64 0, .int .i64 0] 54)
  have BR := Box.new (w.alloc (.cells #[.bool on, .slice a l.length cap] 36)) (.int .i64 0) (.int .i64 0) 54
  have hW := below2 w (.cells #[.bool on, .slice a l.length cap] 36) (.cells #[.int .i64 0, .int .i64 0] 54)
  rw [World.size_alloc] at BR
  generalize hE : (w.alloc (.cells #[.bool on, .slice a l.length cap] 36)).alloc (.cells #[.int .i64 0, .int .i64 0] 54) = W at *
  have HW := Lib.hid hW
  clear hW hF
  obtain ⟨c0, c1, -, -⟩ := id BE
  by_cases h0 : i < 0
  · rw [atG_out (by omega)]
    have BR' := BR
    clear BR
    obtain ⟨d2, d3, g2, g3⟩ := BR'.alloc (.cells #[.int .i64 0, .int .i64 0] 54)
    have hb2 := below_put2 (HW.out.alloc HW.out.size (.cells #[.int .i64 0, .int .i64 0] 54)) (b := w.heap.size + 1) (by omega) (.int .i64 0) (.int .i64 0)
    have HB2 := Lib.hid hb2
    clear hb2
    go_enter Tryz.func73, Tryz.ntmps73
    go_wp2_with fail
    exact bodyPost_ret (v := vbot.val) (by simp [results, Tryz.results73, go_sem, d2, d3, V.val, vbot]) rfl ⟨rfl, HB2.out⟩
  · by_cases h1 : i < (szG on l : Int)
    · obtain rfl : on = true := by cases on <;> simp_all [szG]; omega
      obtain ⟨k, rfl⟩ : ∃ k : Nat, i = (k : Int) := ⟨i.toNat, by omega⟩
      have hk : k < l.length := by simpa [szG] using h1
      rw [atG_in hk]
      obtain ⟨b, o, rfl, hlt, e0, e1⟩ := HF.out k hk
      generalize l[k]?.getD vbot = v at *
      obtain ⟨x, y⟩ := v
      have H0 := Lib.hid e0
      have H1 := Lib.hid e1
      generalize l.length = n at *
      clear e0 e1 h0 h1 HF
      go_enter Tryz.func73, Tryz.ntmps73
      go_wp2_with (go_at_call 72; refine (HC.out _).mono ?_; clear HC c0 c1; rintro e w1 ⟨rfl, hb⟩; obtain ⟨d0, d1, -, -⟩ := BE.below hb BE.lt; obtain ⟨d2, d3, g2, g3⟩ := BR.below hb BR.lt; have HB := Lib.hid (HW.out.trans (hb.mono HW.out.size)); clear hb BE BR; have x0 := (HB.out.cell (p := ⟨b, o + k * 2, none⟩) hlt).trans H0.out; have x1 := (HB.out.cell (p := ⟨b, o + k * 2 + 1, none⟩) hlt).trans H1.out)
      have hb2 := below_put2 HB.out (b := w.heap.size + 1) (by omega) (.int .i64 x) (.int .i64 y)
      exact bodyPost_ret (v := .agg #[.int .i64 x, .int .i64 y]) (by simp [results, Tryz.results73, go_sem, d2, d3]) rfl ⟨rfl, hb2⟩
    · rw [atG_out (by omega)]
      obtain ⟨m, hm⟩ : ∃ m : Nat, (if on then l.length else 0) = m := ⟨_, rfl⟩
      rw [szG_eq, hm] at h1
      rw [hm] at HC
      generalize l.length = n at *
      have hmi : (m : Int) ≤ i := by omega
      clear HF hm h1
      go_enter Tryz.func73, Tryz.ntmps73
      go_wp2_with (go_at_call 72; refine (HC.out _).mono ?_; clear HC c0 c1; rintro e w1 ⟨rfl, hb⟩; obtain ⟨d0, d1, -, -⟩ := BE.below hb BE.lt; obtain ⟨d2, d3, g2, g3⟩ := (BR.below hb BR.lt).alloc (.cells #[.int .i64 0, .int .i64 0] 54); have HB := Lib.hid (HW.out.trans (hb.mono HW.out.size)); clear hb BE BR)
      have hb2 := below_put2 (HB.out.alloc HB.out.size (.cells #[.int .i64 0, .int .i64 0] 54)) (b := w.heap.size + 1) (by omega) (.int .i64 0) (.int .i64 0)
      exact bodyPost_ret (v := vbot.val) (by simp [results, Tryz.results73, go_sem, d2, d3, V.val, vbot]) rfl ⟨rfl, hb2⟩

set_option maxHeartbeats 1000000 in
theorem ssize_any (on : Bool) (a : Option Addr) (n cap : Nat) (w : World) :
    Calls Tryz.prog 88 #[.agg #[.bool on, .slice a n cap]] w fun e w' => e = .returned (.int .i64 ((if on then n else 0 : Nat) : Int)) ∧ Below w.heap.size w w' := by
  cases on
  all_goals
    go_enter Tryz.func88, Tryz.ntmps88
    go_wp2
    go_ret
    exact ⟨rfl, below1 _ _⟩

set_option maxHeartbeats 2000000 in
theorem sat_any (on : Bool) (a : Option Addr) (l : List Int) (cap : Nat) (i : Int) (w : World) (hF : Is w.heap.size w a l) :
    Calls Tryz.prog 89 #[.agg #[.bool on, .slice a l.length cap], .int .i64 i] w fun e w' => e = .returned (.int .i64 (atG 0 on l i)) ∧ Below w.heap.size w w' := by
  have HC := Lib.hid (fun W => ssize_any on a l.length cap W)
  have HF := Lib.hid hF
  have BE := Box.new w (.bool on) (.slice a l.length cap) 42
  have hW := below1 w (.cells #[.bool on, .slice a l.length cap] 42)
  generalize hE : w.alloc (.cells #[.bool on, .slice a l.length cap] 42) = W at *
  have HW := Lib.hid hW
  clear hW hF
  obtain ⟨c0, c1, -, -⟩ := id BE
  by_cases h0 : i < 0
  · rw [atG_out (by omega)]
    go_enter Tryz.func89, Tryz.ntmps89
    go_wp2_with fail
    go_ret
    exact ⟨rfl, (by first | exact HW.out | exact HW.out.alloc HW.out.size _)⟩
  · by_cases h1 : i < (szG on l : Int)
    · obtain rfl : on = true := by cases on <;> simp_all [szG]; omega
      obtain ⟨k, rfl⟩ : ∃ k : Nat, i = (k : Int) := ⟨i.toNat, by omega⟩
      have hk : k < l.length := by simpa [szG] using h1
      rw [atG_in hk]
      obtain ⟨b, o, rfl, hlt, e0⟩ := HF.out k hk
      generalize l[k]?.getD 0 = x at *
      have H0 := Lib.hid e0
      generalize l.length = n at *
      clear e0 h0 h1 HF
      go_enter Tryz.func89, Tryz.ntmps89
      go_wp2_with (go_at_call 88; refine (HC.out _).mono ?_; clear HC c0 c1; rintro e w1 ⟨rfl, hb⟩; obtain ⟨d0, d1, -, -⟩ := BE.below hb BE.lt; have HB := Lib.hid (HW.out.trans (hb.mono HW.out.size)); clear hb BE; have x0 := (HB.out.cell (p := ⟨b, o + k, none⟩) hlt).trans H0.out)
      go_ret
      exact ⟨rfl, HB.out⟩
    · rw [atG_out (by omega)]
      obtain ⟨m, hm⟩ : ∃ m : Nat, (if on then l.length else 0) = m := ⟨_, rfl⟩
      rw [szG_eq, hm] at h1
      rw [hm] at HC
      generalize l.length = n at *
      have hmi : (m : Int) ≤ i := by omega
      clear HF hm h1
      go_enter Tryz.func89, Tryz.ntmps89
      go_wp2_with (go_at_call 88; refine (HC.out _).mono ?_; clear HC c0 c1; rintro e w1 ⟨rfl, hb⟩; obtain ⟨d0, d1, -, -⟩ := BE.below hb BE.lt; have HB := Lib.hid (HW.out.trans (hb.mono HW.out.size)); clear hb BE)
      go_ret
      exact ⟨rfl, (by first | exact HB.out | exact HB.out.alloc HB.out.size _)⟩

set_option maxHeartbeats 2000000 in
theorem etop_any (v : V) (w : World) :
    Calls Tryz.prog 36 #[v.val] w fun e w' => e = .returned v.sn.val ∧ Below w.heap.size w w' := by
  obtain ⟨k, c⟩ := v
  obtain ⟨s, hs⟩ : ∃ s, decide (V.sane ⟨k, c⟩) = s := ⟨_, rfl⟩
  have HC := Lib.hid (fun W => Sane_any ⟨k, c⟩ W)
  rw [hs] at HC
  have hsn : V.sn ⟨k, c⟩ = if s then ⟨k, c⟩ else vtop := by rw [← hs]; unfold V.sn; by_cases h : V.sane ⟨k, c⟩ <;> simp [h]
  rw [hsn]
  clear hsn hs
  unfold V.val at HC ⊢
  have B0 := (Box.new w (.int .i64 k) (.int .i64 c) 54).alloc (.cells #[.int .i64 0, .int .i64 0] 54)
  have R0 := Box.new (w.alloc (.cells #[.int .i64 k, .int .i64 c] 54)) (.int .i64 0) (.int .i64 0) 54
  have hW := below2 w (.cells #[.int .i64 k, .int .i64 c] 54) (.cells #[.int .i64 0, .int .i64 0] 54)
  rw [World.size_alloc] at R0
  generalize hE : (w.alloc (.cells #[.int .i64 k, .int .i64 c] 54)).alloc (.cells #[.int .i64 0, .int .i64 0] 54) = W at *
  have HW := Lib.hid hW
  obtain ⟨c0, c1, -, -⟩ := id B0
  clear hW
  cases s with
  | true =>
    go_enter Tryz.func36, Tryz.ntmps36
    go_wp2_with (go_at_call 74; refine (HC.out _).mono ?_; clear HC c0 c1; rintro e w1 ⟨rfl, hb⟩; obtain ⟨d0, d1, -, -⟩ := B0.below hb B0.lt; obtain ⟨d2, d3, g2, g3⟩ := R0.below hb R0.lt; have HB := Lib.hid (HW.out.trans (hb.mono HW.out.size)); clear hb B0 R0)
    have hb2 := below_put2 HB.out (b := w.heap.size + 1) (by omega) (.int .i64 k) (.int .i64 c)
    exact bodyPost_ret (v := .agg #[.int .i64 k, .int .i64 c]) (by simp [results, Tryz.results36, go_sem, d2, d3]) rfl ⟨rfl, hb2⟩
  | false =>
    go_enter Tryz.func36, Tryz.ntmps36
    go_wp2_with (go_at_call 74; refine (HC.out _).mono ?_; clear HC c0 c1; rintro e w1 ⟨rfl, hb⟩; obtain ⟨d0, d1, -, -⟩ := B0.below hb B0.lt; obtain ⟨d2, d3, g2, g3⟩ := R0.below hb R0.lt; have HB := Lib.hid (HW.out.trans (hb.mono HW.out.size)); clear hb B0 R0)
    have hb2 := below_put2 HB.out (b := w.heap.size + 1) (by omega) (.int .i64 2) (.int .i64 0)
    exact bodyPost_ret (v := .agg #[.int .i64 2, .int .i64 0]) (by simp [results, Tryz.results36, go_sem, d2, d3]) rfl ⟨rfl, hb2⟩

set_option maxHeartbeats 1000000 in
theorem eall_any (s : Int) (w : World) :
    Calls Tryz.prog 55 #[.int .i64 s] w fun e w' => e = .returned (.int .i64 (sS s : Nat)) ∧ Below w.heap.size w w' := by
  have HC := Lib.hid (fun W => gSane_any s W)
  by_cases h : 0 ≤ s ∧ s ≤ 7
  · rw [decide_eq_true h] at HC
    rw [sS_in h]
    clear h
    go_enter Tryz.func55, Tryz.ntmps55
    go_wp2_with (go_at_call 90; refine (HC.out _).mono ?_; rintro e w1 ⟨rfl, hb⟩)
    go_ret
    exact ⟨rfl, hb⟩
  · rw [decide_eq_false h] at HC
    rw [sS_out h]
    clear h
    go_enter Tryz.func55, Tryz.ntmps55
    go_wp2_with (go_at_call 90; refine (HC.out _).mono ?_; rintro e w1 ⟨rfl, hb⟩)
    go_ret
    exact ⟨rfl, hb⟩





end Go.Proofs.YtmcbedlmgffckaaGreatDoor

namespace Go.Proofs.YtmcbedlmgffckaaGreatDoor
open Go Go.RowKit Go.Sort

/-- Values that the call has just made: they lie at the head of the block g, which lies from n0 on and may be written. -/
def FreshF (t : TypeId) (n0 : Nat) (W : World) (g : Nat) (l : List V) : Prop :=
  n0 ≤ g ∧ ∃ cur : Array Value, W.heap[g]? = some (.cells cur t (0, 0)) ∧ l.length * 2 ≤ cur.size ∧ ∀ j, j < l.length → cur[j * 2]? = some (.int .i64 (l[j]?.getD vbot).k) ∧ cur[j * 2 + 1]? = some (.int .i64 (l[j]?.getD vbot).c)
def FreshS (t : TypeId) (n0 : Nat) (W : World) (g : Nat) (l : List Int) : Prop :=
  n0 ≤ g ∧ ∃ cur : Array Value, W.heap[g]? = some (.cells cur t (0, 0)) ∧ l.length ≤ cur.size ∧ ∀ j, j < l.length → cur[j]? = some (.int .i64 (l[j]?.getD 0))

theorem FreshF.lt {t : TypeId} {n0 : Nat} {W : World} {g : Nat} {l : List V} (h : FreshF t n0 W g l) : g < W.heap.size := let ⟨_, _, hc, _⟩ := h; (Array.getElem?_eq_some_iff.1 hc).1
theorem FreshF.frozenAt {t : TypeId} {n0 : Nat} {W : World} {g : Nat} {l : List V} (h : FreshF t n0 W g l) (j : Nat) : W.frozen? ⟨g, j, none⟩ = false := by
  obtain ⟨_, cur, hc, _⟩ := h
  simp [World.frozen?, hc]
theorem FreshF.block {t : TypeId} {n0 : Nat} {W : World} {g : Nat} {l : List V} {W' : World} (h : FreshF t n0 W g l) (he : W'.heap[g]? = W.heap[g]?) : FreshF t n0 W' g l :=
  let ⟨h1, cur, hc, hl, hx⟩ := h; ⟨h1, cur, he.trans hc, hl, hx⟩
theorem FreshF.below {t : TypeId} {n0 : Nat} {W : World} {g : Nat} {l : List V} {W' : World} {B : Nat} (h : FreshF t n0 W g l) (hb : Below B W W') (hg : g < B) : FreshF t n0 W' g l := h.block (hb.block g hg)
theorem FreshF.base {t : TypeId} {n0 : Nat} {W : World} {g : Nat} {l : List V} {n1 : Nat} (h : FreshF t n0 W g l) (hn : n1 ≤ n0) : FreshF t n1 W g l := ⟨Nat.le_trans hn h.1, h.2⟩
theorem FreshF.drew {t : TypeId} {n0 : Nat} {W : World} {g : Nat} {l : List V} (h : FreshF t n0 W g l) : FreshF t n0 W.drew g l := h.block rfl

theorem FreshS.lt {t : TypeId} {n0 : Nat} {W : World} {g : Nat} {l : List Int} (h : FreshS t n0 W g l) : g < W.heap.size := let ⟨_, _, hc, _⟩ := h; (Array.getElem?_eq_some_iff.1 hc).1
theorem FreshS.frozenAt {t : TypeId} {n0 : Nat} {W : World} {g : Nat} {l : List Int} (h : FreshS t n0 W g l) (j : Nat) : W.frozen? ⟨g, j, none⟩ = false := by
  obtain ⟨_, cur, hc, _⟩ := h
  simp [World.frozen?, hc]
theorem FreshS.block {t : TypeId} {n0 : Nat} {W : World} {g : Nat} {l : List Int} {W' : World} (h : FreshS t n0 W g l) (he : W'.heap[g]? = W.heap[g]?) : FreshS t n0 W' g l :=
  let ⟨h1, cur, hc, hl, hx⟩ := h; ⟨h1, cur, he.trans hc, hl, hx⟩
theorem FreshS.below {t : TypeId} {n0 : Nat} {W : World} {g : Nat} {l : List Int} {W' : World} {B : Nat} (h : FreshS t n0 W g l) (hb : Below B W W') (hg : g < B) : FreshS t n0 W' g l := h.block (hb.block g hg)
theorem FreshS.base {t : TypeId} {n0 : Nat} {W : World} {g : Nat} {l : List Int} {n1 : Nat} (h : FreshS t n0 W g l) (hn : n1 ≤ n0) : FreshS t n1 W g l := ⟨Nat.le_trans hn h.1, h.2⟩
theorem FreshS.drew {t : TypeId} {n0 : Nat} {W : World} {g : Nat} {l : List Int} (h : FreshS t n0 W g l) : FreshS t n0 W.drew g l := h.block rfl

theorem FreshF.cellAt {t : TypeId} {n0 : Nat} {W : World} {g : Nat} {l : List V} (h : FreshF t n0 W g l) {j : Nat} (hj : j < l.length) :
    W.cell? ⟨g, j * 2, none⟩ = some (.int .i64 (l[j]?.getD vbot).k) ∧ W.cell? ⟨g, j * 2 + 1, none⟩ = some (.int .i64 (l[j]?.getD vbot).c) := by
  obtain ⟨_, cur, hc, hl, hx⟩ := h
  obtain ⟨h0, h1⟩ := hx j hj
  exact ⟨by simp [World.cell?, hc, h0], by simp [World.cell?, hc, h1]⟩
theorem FreshS.cellAt {t : TypeId} {n0 : Nat} {W : World} {g : Nat} {l : List Int} (h : FreshS t n0 W g l) {j : Nat} (hj : j < l.length) :
    W.cell? ⟨g, j, none⟩ = some (.int .i64 (l[j]?.getD 0)) := by
  obtain ⟨_, cur, hc, hl, hx⟩ := h
  have h0 := hx j hj
  simp [World.cell?, hc, h0]
theorem FreshF.fis {t : TypeId} {n0 : Nat} {W : World} {g : Nat} {l : List V} (h : FreshF t n0 W g l) : FIs W.heap.size W (some ⟨g, 0, none⟩) l :=
  fun _ hj => ⟨g, 0, rfl, h.lt, by rw [Nat.zero_add]; exact (h.cellAt hj).1, by rw [Nat.zero_add]; exact (h.cellAt hj).2⟩
theorem FreshS.fis {t : TypeId} {n0 : Nat} {W : World} {g : Nat} {l : List Int} (h : FreshS t n0 W g l) : Is W.heap.size W (some ⟨g, 0, none⟩) l :=
  fun _ hj => ⟨g, 0, rfl, h.lt, by rw [Nat.zero_add]; exact h.cellAt hj⟩
theorem heap_setCell_self {W : World} {g j : Nat} {cur : Array Value} {t : TypeId} (x : Value) (hc : W.heap[g]? = some (.cells cur t (0, 0))) : (W.setCell ⟨g, j, none⟩ x).heap[g]? = some (.cells (cur.setIfInBounds j x) t (0, 0)) := by
  obtain ⟨hlt, hk⟩ := Array.getElem?_eq_some_iff.1 hc
  show (W.heap.modify g _)[g]? = _
  rw [Array.getElem?_eq_getElem (by rw [Array.size_modify]; exact hlt), Array.getElem_modify_self, hk]
  rfl
theorem FreshS.set {t : TypeId} {n0 : Nat} {W : World} {g : Nat} {l : List Int} (h : FreshS t n0 W g l) (j : Nat) (x : Int) : FreshS t n0 (W.setCell ⟨g, j, none⟩ (.int .i64 x)) g (l.set j x) := by
  obtain ⟨h1, cur, hc, hl, hx⟩ := h
  refine ⟨h1, cur.setIfInBounds j (.int .i64 x), heap_setCell_self _ hc, by simpa using hl, ?_⟩
  intro i hi
  simp only [List.length_set] at hi
  rw [Array.getElem?_setIfInBounds]
  by_cases hij : j = i
  · subst hij
    have : j < cur.size := by omega
    simp [this, hi]
  · simp [hij, List.getElem?_set_ne hij, hx i hi]
theorem FreshF.set {t : TypeId} {n0 : Nat} {W : World} {g : Nat} {l : List V} (h : FreshF t n0 W g l) (j : Nat) (x y : Int) :
    FreshF t n0 ((W.setCell ⟨g, j * 2, none⟩ (.int .i64 x)).setCell ⟨g, j * 2 + 1, none⟩ (.int .i64 y)) g (l.set j ⟨x, y⟩) := by
  obtain ⟨h1, cur, hc, hl, hx⟩ := h
  refine ⟨h1, (cur.setIfInBounds (j * 2) (.int .i64 x)).setIfInBounds (j * 2 + 1) (.int .i64 y), heap_setCell_self _ (heap_setCell_self _ hc), by simpa using hl, ?_⟩
  intro i hi
  simp only [List.length_set] at hi
  rw [Array.getElem?_setIfInBounds, Array.getElem?_setIfInBounds, Array.getElem?_setIfInBounds, Array.getElem?_setIfInBounds]
  by_cases hij : j = i
  · subst hij
    have h1 : j * 2 < cur.size := by omega
    have h2 : j * 2 + 1 < cur.size := by omega
    simp [h1, h2, hi]
  · have h2 := hx i hi
    have e1 : ¬ j * 2 + 1 = i * 2 := by omega
    have e2 : ¬ j * 2 = i * 2 := by omega
    have e3 : ¬ j * 2 + 1 = i * 2 + 1 := by omega
    have e4 : ¬ j * 2 = i * 2 + 1 := by omega
    simp only [e1, e2, e3, e4, if_false, List.getElem?_set_ne hij]
    exact h2

theorem Box.far {W : World} {b g : Nat} {x y : Value} (h : Box W b x y) (hne : b ≠ g) {i j : Nat} {u v : Value} : Box ((W.setCell ⟨g, i, none⟩ u).setCell ⟨g, j, none⟩ v) b x y := by
  have e : ((W.setCell ⟨g, i, none⟩ u).setCell ⟨g, j, none⟩ v).heap[b]? = W.heap[b]? := by
    rw [Below.heap_setCell _ _ _ _ (by simpa using hne), Below.heap_setCell _ _ _ _ (by simpa using hne)]
  exact ⟨(World.cell?_of_block (w := W) e).trans h.c0, (World.cell?_of_block (w := W) e).trans h.c1, (World.frozen?_of_block (w := W) e).trans h.f0, (World.frozen?_of_block (w := W) e).trans h.f1⟩
theorem Box.far1 {W : World} {b g : Nat} {x y : Value} (h : Box W b x y) (hne : b ≠ g) {i : Nat} {u : Value} : Box (W.setCell ⟨g, i, none⟩ u) b x y := by
  have e : (W.setCell ⟨g, i, none⟩ u).heap[b]? = W.heap[b]? := by
    rw [Below.heap_setCell _ _ _ _ (by simpa using hne)]
  exact ⟨(World.cell?_of_block (w := W) e).trans h.c0, (World.cell?_of_block (w := W) e).trans h.c1, (World.frozen?_of_block (w := W) e).trans h.f0, (World.frozen?_of_block (w := W) e).trans h.f1⟩

def zerosF (k : Nat) : Array Value := Array.replicate (k * 2) (.int .i64 0)
def zerosS (k : Nat) : Array Value := Array.replicate k (.int .i64 0)
theorem infoF : (Tryz.prog.info? 54).map (fun i => (i.zero, i.size, i.bytes)) = some (some (.agg #[.int .i64 0, .int .i64 0]), 2, 16) := by kernel_rfl
theorem infoR : (Tryz.prog.info? 53).map (fun i => (i.zero, i.size, i.bytes)) = some (some (.agg #[.int .i64 0, .int .i64 0]), 2, 16) := by kernel_rfl
theorem made_zerosF (k : Nat) : madeCells (Value.agg #[.int .i64 0, .int .i64 0]).cells (k * 2) = zerosF k := by
  apply Array.ext
  · simp [madeCells, zerosF]
  · intro i h1 h2
    rcases Nat.mod_two_eq_zero_or_one i with h | h <;> simp [madeCells, zerosF, Value.cells, h]
theorem made_zerosS (k : Nat) : madeCells (Value.int .i64 0).cells (k * 1) = zerosS k := by
  apply Array.ext
  · simp [madeCells, zerosS]
  · intro i h1 h2
    simp [madeCells, zerosS, Value.cells, Nat.mod_one]
theorem mk_runF (k : Nat) (hk : k ≤ 1024) (W : World) : (Instr.makeSlice 34 (.int .i64 (k : Int)) (.int .i64 (k : Int))).run Tryz.prog W = .ok (.slice (some ⟨W.heap.size, 0, none⟩) k k) (W.alloc (.cells (zerosF k) 54)) := by
  obtain ⟨i, hi, hz0, hz1, hz2⟩ := info_parts infoF
  have h := run_make (P := Tryz.prog) W 34 54 i (.agg #[.int .i64 0, .int .i64 0]) Tryz.underlying34 hi hz0 .i64 .i64 k k (by omega) (by omega) (by rw [hz2]; omega) (by omega)
  rw [h, hz1]
  simp only [Int.toNat_natCast]
  rw [made_zerosF]
theorem mk_runS (k : Nat) (hk : k ≤ 1024) (W : World) : (Instr.makeSlice 25 (.int .i64 (k : Int)) (.int .i64 (k : Int))).run Tryz.prog W = .ok (.slice (some ⟨W.heap.size, 0, none⟩) k k) (W.alloc (.cells (zerosS k) 3)) := by
  obtain ⟨i, hi, hz0, hz1, hz2⟩ := info_parts info3
  have h := run_make (P := Tryz.prog) W 25 3 i (.int .i64 0) Tryz.underlying25 hi hz0 .i64 .i64 k k (by omega) (by omega) (by rw [hz2]; omega) (by omega)
  rw [h, hz1]
  simp only [Int.toNat_natCast]
  rw [made_zerosS]
theorem freshF_zeros (n0 : Nat) (W : World) (k : Nat) (t : TypeId) (h : n0 ≤ W.heap.size) : FreshF t n0 (W.alloc (.cells (zerosF k) t)) W.heap.size (List.replicate k vbot) := by
  refine ⟨h, zerosF k, heap_alloc_new W _, by simp [zerosF], ?_⟩
  intro j hj
  simp only [List.length_replicate] at hj
  have h1 : j * 2 < k * 2 := by omega
  have h2 : j * 2 + 1 < k * 2 := by omega
  simp [zerosF, hj, h2, vbot]
theorem freshS_zeros (n0 : Nat) (W : World) (k : Nat) (t : TypeId) (h : n0 ≤ W.heap.size) : FreshS t n0 (W.alloc (.cells (zerosS k) t)) W.heap.size (List.replicate k 0) := by
  refine ⟨h, zerosS k, heap_alloc_new W _, by simp [zerosS], ?_⟩
  intro j hj
  simp only [List.length_replicate] at hj
  simp [zerosS, hj]

set_option maxHeartbeats 2000000 in
theorem GetF_any (on : Bool) (a : Option Addr) (l : List V) (cap : Nat) (i : Int) (w : World) (hF : FIs w.heap.size w a l) :
    Calls Tryz.prog 37 #[.agg #[.bool on, .slice a l.length cap], .int .i64 i] w fun e w' => e = .returned (atG vbot on l i).sn.val ∧ Below w.heap.size w w' := by
  have HA := Lib.hid (fun W (h : Below w.heap.size w W) => fat_any on a l cap i W ((hF.below h).mono h.size))
  have HT := Lib.hid (fun W => etop_any (atG vbot on l i) W)
  obtain ⟨u, hu⟩ : ∃ u, (atG vbot on l i).sn = u := ⟨_, rfl⟩
  rw [hu] at HT ⊢
  generalize atG vbot on l i = v at *
  obtain ⟨x, y⟩ := u
  clear hu hF
  obtain ⟨p, q⟩ := v
  generalize l.length = n at *
  unfold V.val at HA HT ⊢
  have BE := (Box.new w (.bool on) (.slice a n cap) 36).alloc (.cells #[.int .i64 0, .int .i64 0] 54)
  have BR := Box.new (w.alloc (.cells #[.bool on, .slice a n cap] 36)) (.int .i64 0) (.int .i64 0) 54
  have hW := below2 w (.cells #[.bool on, .slice a n cap] 36) (.cells #[.int .i64 0, .int .i64 0] 54)
  rw [World.size_alloc] at BR
  generalize hE : (w.alloc (.cells #[.bool on, .slice a n cap] 36)).alloc (.cells #[.int .i64 0, .int .i64 0] 54) = W at *
  have HW := Lib.hid hW
  clear hW
  obtain ⟨c0, c1, -, -⟩ := id BE
  go_enter Tryz.func37, Tryz.ntmps37
  go_wp2_with (first
    | (go_at_call 73; refine (HA.out _ HW.out).mono ?_; clear HA c0 c1; rintro e w1 ⟨rfl, hb⟩; have BR1 := BR.below hb BR.lt; have HB := Lib.hid (HW.out.trans (hb.mono HW.out.size)); clear hb BE BR)
    | (go_at_call 36; refine (HT.out _).mono ?_; clear HT; rintro e w2 ⟨rfl, hb⟩; obtain ⟨d2, d3, g2, g3⟩ := BR1.below hb BR1.lt; have HX := Lib.hid (HB.out.trans (hb.mono HB.out.size)); clear hb BR1))
  have hb2 := below_put2 HX.out (b := w.heap.size + 1) (by omega) (.int .i64 x) (.int .i64 y)
  exact bodyPost_ret (v := .agg #[.int .i64 x, .int .i64 y]) (by simp [results, Tryz.results37, go_sem, d2, d3]) rfl ⟨rfl, hb2⟩

set_option maxHeartbeats 2000000 in
theorem GetS_any (on : Bool) (a : Option Addr) (l : List Int) (cap : Nat) (i : Int) (w : World) (hF : Is w.heap.size w a l) :
    Calls Tryz.prog 56 #[.agg #[.bool on, .slice a l.length cap], .int .i64 i] w fun e w' => e = .returned (.int .i64 (sS (atG 0 on l i) : Nat)) ∧ Below w.heap.size w w' := by
  have HA := Lib.hid (fun W (h : Below w.heap.size w W) => sat_any on a l cap i W ((hF.below h).mono h.size))
  have HT := Lib.hid (fun W => eall_any (atG 0 on l i) W)
  generalize sS (atG 0 on l i) = u at *
  generalize atG 0 on l i = v at *
  clear hF
  generalize l.length = n at *
  have BE := Box.new w (.bool on) (.slice a n cap) 42
  have hW := below1 w (.cells #[.bool on, .slice a n cap] 42)
  generalize hE : w.alloc (.cells #[.bool on, .slice a n cap] 42) = W at *
  have HW := Lib.hid hW
  clear hW
  obtain ⟨c0, c1, -, -⟩ := id BE
  go_enter Tryz.func56, Tryz.ntmps56
  go_wp2_with (first
    | (go_at_call 89; refine (HA.out _ HW.out).mono ?_; clear HA c0 c1; rintro e w1 ⟨rfl, hb⟩; have HB := Lib.hid (HW.out.trans (hb.mono HW.out.size)); clear hb BE)
    | (go_at_call 55; refine (HT.out _).mono ?_; clear HT; rintro e w2 ⟨rfl, hb⟩; have HX := Lib.hid (HB.out.trans (hb.mono HB.out.size)); clear hb))
  go_ret
  exact ⟨rfl, HX.out⟩

end Go.Proofs.YtmcbedlmgffckaaGreatDoor

namespace Go.Proofs.YtmcbedlmgffckaaGreatDoor
open Go Go.RowKit Go.Sort











end Go.Proofs.YtmcbedlmgffckaaGreatDoor

namespace Go.Proofs.YtmcbedlmgffckaaGreatDoor
open Go Go.RowKit Go.Sort









end Go.Proofs.YtmcbedlmgffckaaGreatDoor

namespace Go.Proofs.YtmcbedlmgffckaaGreatDoor
open Go Go.RowKit Go.Sort

theorem changedF_off (a : Option Addr) (n cap : Nat) (i : Int) (x y : Int) (w : World) :
    Calls Tryz.prog 35 #[.agg #[.bool false, .slice a n cap], .int .i64 i, .agg #[.int .i64 x, .int .i64 y], .func (.func 36) #[] #[]] w fun e w' =>
      e = .returned (.agg #[.bool false, .slice none 0 0]) ∧ Below w.heap.size w w' := by
  have HW := Lib.hid (below3 w (.cells #[.bool false, .slice a n cap] 36) (.cells #[.int .i64 x, .int .i64 y] 54) (.cells #[.bool false, .slice none 0 0] 36))
  go_enter Tryz.func35, Tryz.ntmps35
  go_wp2_with fail
  exact bodyPost_ret (v := .agg #[.bool false, .slice none 0 0]) (by simp [results, Tryz.results35, go_sem]) rfl ⟨rfl, HW.out⟩

set_option maxRecDepth 100000 in
set_option maxHeartbeats 8000000 in
theorem changedF_on (a : Option Addr) (l : List V) (cap : Nat) (i : Int) (x y : Int) (w : World) (h1 : FIs w.heap.size w a l) (hl1 : l.length ≤ 200)
    (f : Nat → V) (hf : ∀ j : Nat, (fun v => v.sn) (atG vbot true l (j : Int)) = f j) (n : Nat) (hn : l.length = n) :
    Calls Tryz.prog 35 #[.agg #[.bool true, .slice a l.length cap], .int .i64 i, .agg #[.int .i64 x, .int .i64 y], .func (.func 36) #[] #[]] w fun e w' =>
      ∃ g, e = .returned (.agg #[.bool true, .slice (some ⟨g, 0, none⟩) n n]) ∧ FreshF 54 w.heap.size w' g (putG (tabG f n) i (V.sn ⟨x, y⟩)) ∧ Below w.heap.size w w' := by
  have H1 := Lib.hid (fun W (h : Below w.heap.size w W) (j : Nat) => fat_any true a l cap (j : Int) W ((h1.below h).mono h.size))
  have HS : Hid (∀ W, Calls Tryz.prog 72 #[.agg #[.bool true, .slice a l.length cap]] W fun e w' => e = .returned (.int .i64 (n : Int)) ∧ Below W.heap.size W w') := fun W => by
    have := fsize_any true a l.length cap W
    rw [← hn]; exact this
  have HJ : Hid (∀ (j : Nat) W, Calls Tryz.prog 36 #[(atG vbot true l (j : Int)).val] W fun e w' => e = .returned (f j).val ∧ Below W.heap.size W w') := fun j W => by
    have := etop_any (atG vbot true l (j : Int)) W
    rw [← hf j]; exact this
  have HN : Hid (∀ W, Calls Tryz.prog 36 #[.agg #[.int .i64 x, .int .i64 y]] W fun e w' => e = .returned (V.sn ⟨x, y⟩).val ∧ Below W.heap.size W w') := fun W => etop_any ⟨x, y⟩ W
  rw [hn] at hl1 H1 HS ⊢
  have hmk := fun W => mk_runF n (by omega) W
  clear h1 hf hn
  have BE := ((Box.new w (.bool true) (.slice a n cap) 36).alloc (.cells #[.int .i64 x, .int .i64 y] 54)).alloc (.cells #[.bool false, .slice none 0 0] 36)
  have BV := (Box.new (w.alloc (.cells #[.bool true, .slice a n cap] 36)) (.int .i64 x) (.int .i64 y) 54).alloc (.cells #[.bool false, .slice none 0 0] 36)
  have BR := Box.new ((w.alloc (.cells #[.bool true, .slice a n cap] 36)).alloc (.cells #[.int .i64 x, .int .i64 y] 54)) (.bool false) (.slice none 0 0) 36
  have hW := below3 w (.cells #[.bool true, .slice a n cap] 36) (.cells #[.int .i64 x, .int .i64 y] 54) (.cells #[.bool false, .slice none 0 0] 36)
  have hsz : (((w.alloc (.cells #[.bool true, .slice a n cap] 36)).alloc (.cells #[.int .i64 x, .int .i64 y] 54)).alloc (.cells #[.bool false, .slice none 0 0] 36)).heap.size = w.heap.size + 3 := by simp
  simp only [World.size_alloc] at BV BR
  generalize hE : ((w.alloc (.cells #[.bool true, .slice a n cap] 36)).alloc (.cells #[.int .i64 x, .int .i64 y] 54)).alloc (.cells #[.bool false, .slice none 0 0] 36) = W at *
  have HV := Lib.hid BV
  clear BV
  have HW := Lib.hid hW
  have HZ := Lib.hid hsz
  have HE := Lib.hid BE
  have HR := Lib.hid BR
  obtain ⟨c0, c1, -, -⟩ := id BE
  clear hW hsz BE BR
  go_enter Tryz.func35, Tryz.ntmps35
  go_wp2_with (go_at_call 72; refine (HS.out _).mono ?_; clear HS c0 c1; rintro e w1 ⟨rfl, hb⟩; have HE0 := Lib.hid ((HE.out.below hb HE.out.lt).alloc (.cells (zerosF n) 54)); have HR0 := Lib.hid ((HR.out.below hb HR.out.lt).alloc (.cells (zerosF n) 54)); have HV0 := Lib.hid ((HV.out.below hb HV.out.lt).alloc (.cells (zerosF n) 54)); have HB0 := Lib.hid ((HW.out.trans (hb.mono HW.out.size)).alloc (HW.out.trans (hb.mono HW.out.size)).size (.cells (zerosF n) 54)); have HF0 := Lib.hid (freshF_zeros w.heap.size w1 n 54 (HW.out.trans (hb.mono HW.out.size)).size); have HSZ := Lib.hid hb.size; clear hb HE HR HW HV)
  have hge : w.heap.size + 3 ≤ w1.heap.size := by have := HSZ.out; have := HZ.out; omega
  generalize w1.alloc (.cells (zerosF n) 54) = W1 at *
  generalize w1.heap.size = g at *
  clear hmk hE HZ HSZ
  go_loopw [20] (fun i wr => ∃ j : Nat, j ≤ n ∧ i = .int .i64 j ∧ Hid (FreshF 54 w.heap.size wr g (midG f vbot n j)) ∧ Hid (Box wr w.heap.size (.bool true) (.slice a n cap)) ∧ Hid (Box wr (w.heap.size + 1) (.int .i64 x) (.int .i64 y)) ∧ Hid (Box wr (w.heap.size + 1 + 1) (.bool false) (.slice none 0 0)) ∧ Hid (Below w.heap.size w wr)) (fun i _ => n - (intOf i).toNat)
  case atStart => exact ⟨0, Nat.zero_le _, rfl, by rw [midG_zero]; exact HF0, HE0, HV0, HR0, HB0⟩
  case round =>
    clear HF0 HE0 HR0 HB0 HV0
    obtain ⟨j, hj, rfl, hF, hE, hV, hR, hBw⟩ := hrel
    by_cases hlt : j < n
    · have hji : (j : Int) < (n : Int) := by omega
      have hl : j < (midG f vbot n j).length := by rw [midG_length _ _ hj]; exact hlt
      have HL := Lib.hid hl
      have q1 := Lib.hid (fun W (h : Below wr.heap.size wr W) => H1.out W (hBw.out.trans (h.mono hBw.out.size)) j)
      have q3 := Lib.hid (HJ.out j)
      obtain ⟨fj, hfj⟩ : ∃ fj, f j = fj := ⟨_, rfl⟩
      rw [hfj] at q3
      have HFJ := Lib.hid hfj
      have HBN : Hid (Below wr.heap.size wr wr) := Below.refl _ _
      generalize atG vbot true l (j : Int) = v1 at *
      clear hfj hl H1 HJ HN
      obtain ⟨x1, y1⟩ := v1
      obtain ⟨x', y'⟩ := fj
      unfold V.val at q1 q3
      obtain ⟨c0, c1, -, -⟩ := id hE.out
      go_wp2_with (first
        | (go_at_call 73; refine (q1.out _ HBN.out).mono ?_; clear q1 c0 c1; rintro e wn ⟨rfl, hbn⟩; have hbx := HBN.out.trans (hbn.mono HBN.out.size); clear HBN hbn; have HBN := Lib.hid hbx; clear hbx)
        | (go_at_call 36; refine (q3.out _).mono ?_; clear q3; rintro e wn ⟨rfl, hbn⟩; have hbx := HBN.out.trans (hbn.mono HBN.out.size); clear HBN hbn; have HBN := Lib.hid hbx; clear hbx; have hFn := hF.out.below HBN.out hF.out.lt; obtain ⟨e0, e1⟩ := hFn.cellAt HL.out; have f0 := hFn.frozenAt (j * 2); have f1 := hFn.frozenAt (j * 2 + 1); clear hFn))
      go_roundw
      case rel =>
        have hFn := hF.out.below HBN.out hF.out.lt
        refine ⟨j + 1, by omega, by go_num, ?_, Lib.hid ((hE.out.below HBN.out hE.out.lt).far (by omega)), Lib.hid ((hV.out.below HBN.out hV.out.lt).far (by omega)), Lib.hid ((hR.out.below HBN.out hR.out.lt).far (by omega)), ?_⟩
        · have := hFn.set j x' y'
          have e := midG_set f vbot hlt
          rw [HFJ.out] at e
          rw [e] at this
          exact this
        · have hb := hBw.out.trans (HBN.out.mono hBw.out.size)
          exact (hb.setCell (p := ⟨g, j * 2, none⟩) (by show w.heap.size ≤ g; omega) _).setCell (p := ⟨g, j * 2 + 1, none⟩) (by show w.heap.size ≤ g; omega) _
      case measure => simp [intOf]; omega
    · obtain rfl : j = n := by omega
      rw [midG_full] at hF
      have HP : Hid (putG (tabG f j) i (V.sn ⟨x, y⟩) = if 0 ≤ i ∧ i < (j : Int) then (tabG f j).set i.toNat (V.sn ⟨x, y⟩) else tabG f j) := by
        show _ = _
        unfold putG; rw [tabG_length]
      clear H1 HJ
      by_cases hin : 0 ≤ i ∧ i < (j : Int)
      · have hP := HP.out
        rw [if_pos hin] at hP
        clear HP
        obtain ⟨q, rfl⟩ : ∃ q : Nat, i = (q : Int) := ⟨i.toNat, by omega⟩
        rw [Int.toNat_natCast] at hP
        have hq : q < j := by omega
        have hqi : (q : Int) < (j : Int) := by omega
        have HL : Hid (q < (tabG f j).length) := by show q < _; rw [tabG_length]; exact hq
        obtain ⟨u, hu⟩ : ∃ u, V.sn ⟨x, y⟩ = u := ⟨_, rfl⟩
        rw [hu] at HN
        have HP : Hid (_ = _) := hP
        have HU := Lib.hid hu
        have HBN : Hid (Below wr.heap.size wr wr) := Below.refl _ _
        clear hu hin hP
        obtain ⟨x', y'⟩ := u
        unfold V.val at HN
        obtain ⟨v0, v1, -, -⟩ := id hV.out
        go_wp2_with (go_at_call 36; refine (HN.out _).mono ?_; clear HN v0 v1; rintro e wn ⟨rfl, hbn⟩; have hbx := HBN.out.trans (hbn.mono HBN.out.size); clear HBN hbn; have HBN := Lib.hid hbx; clear hbx; have hFn := hF.out.below HBN.out hF.out.lt; obtain ⟨e0, e1⟩ := hFn.cellAt HL.out; have f0 := hFn.frozenAt (q * 2); have f1 := hFn.frozenAt (q * 2 + 1); clear hFn; obtain ⟨c0, c1, g0, g1⟩ := ((hR.out.below HBN.out hR.out.lt).far (g := g) (by omega) : Box ((wn.setCell ⟨g, q * 2, none⟩ (.int .i64 x')).setCell ⟨g, q * 2 + 1, none⟩ (.int .i64 y')) _ _ _))
        have hb := hBw.out.trans (HBN.out.mono hBw.out.size)
        have hb1 := (hb.setCell (p := ⟨g, q * 2, none⟩) (by show w.heap.size ≤ g; omega) (.int .i64 x')).setCell (p := ⟨g, q * 2 + 1, none⟩) (by show w.heap.size ≤ g; omega) (.int .i64 y')
        have hb2 := below_put2 hb1 (b := w.heap.size + 1 + 1) (by omega) (.bool true) (.slice (some ⟨g, 0, none⟩) j j)
        have hFn := (hF.out.below HBN.out hF.out.lt).set q x' y'
        exact bodyPost_ret (v := .agg #[.bool true, .slice (some ⟨g, 0, none⟩) j j]) (by simp [results, Tryz.results35, go_sem, c0, c1]) rfl ⟨g, rfl, by rw [HP.out, HU.out]; exact hFn.block (heap_put2 _ _ _ _ _ (by omega)), hb2⟩
      · have hP := HP.out
        rw [if_neg hin] at hP
        clear HP
        have HP : Hid (_ = _) := hP
        clear hP
        obtain ⟨c0, c1, f0, f1⟩ := id hR.out
        clear HN
        have hor : i < 0 ∨ (0 ≤ i ∧ (j : Int) ≤ i) := by omega
        have hb2 := Lib.hid (below_put2 hBw.out (b := w.heap.size + 1 + 1) (by omega) (.bool true) (.slice (some ⟨g, 0, none⟩) j j))
        clear hin
        rcases hor with h0 | ⟨h0, h1⟩
        all_goals
          go_wp2_with fail
          exact bodyPost_ret (v := .agg #[.bool true, .slice (some ⟨g, 0, none⟩) j j]) (by simp [results, Tryz.results35, go_sem, c0, c1]) rfl ⟨g, rfl, by rw [HP.out]; exact hF.out.block (heap_put2 _ _ _ _ _ (by omega)), hb2.out⟩

theorem changedS_off (a : Option Addr) (n cap : Nat) (i : Int) (v : Int) (w : World) :
    Calls Tryz.prog 54 #[.agg #[.bool false, .slice a n cap], .int .i64 i, .int .i64 v, .func (.func 55) #[] #[]] w fun e w' =>
      e = .returned (.agg #[.bool false, .slice none 0 0]) ∧ Below w.heap.size w w' := by
  have HW := Lib.hid (below2 w (.cells #[.bool false, .slice a n cap] 42) (.cells #[.bool false, .slice none 0 0] 42))
  go_enter Tryz.func54, Tryz.ntmps54
  go_wp2_with fail
  exact bodyPost_ret (v := .agg #[.bool false, .slice none 0 0]) (by simp [results, Tryz.results54, go_sem]) rfl ⟨rfl, HW.out⟩

set_option maxRecDepth 100000 in
set_option maxHeartbeats 8000000 in
theorem changedS_on (a : Option Addr) (l : List Int) (cap : Nat) (i : Int) (v : Int) (w : World) (h1 : Is w.heap.size w a l) (hl1 : l.length ≤ 200)
    (f : Nat → Int) (hf : ∀ j : Nat, (fun x => ((sS x : Nat) : Int)) (atG 0 true l (j : Int)) = f j) (n : Nat) (hn : l.length = n) :
    Calls Tryz.prog 54 #[.agg #[.bool true, .slice a l.length cap], .int .i64 i, .int .i64 v, .func (.func 55) #[] #[]] w fun e w' =>
      ∃ g, e = .returned (.agg #[.bool true, .slice (some ⟨g, 0, none⟩) n n]) ∧ FreshS 3 w.heap.size w' g (putG (tabG f n) i (((sS v : Nat) : Int))) ∧ Below w.heap.size w w' := by
  have H1 := Lib.hid (fun W (h : Below w.heap.size w W) (j : Nat) => sat_any true a l cap (j : Int) W ((h1.below h).mono h.size))
  have HS : Hid (∀ W, Calls Tryz.prog 88 #[.agg #[.bool true, .slice a l.length cap]] W fun e w' => e = .returned (.int .i64 (n : Int)) ∧ Below W.heap.size W w') := fun W => by
    have := ssize_any true a l.length cap W
    rw [← hn]; exact this
  have HJ : Hid (∀ (j : Nat) W, Calls Tryz.prog 55 #[(.int .i64 (atG 0 true l (j : Int)))] W fun e w' => e = .returned (.int .i64 (f j)) ∧ Below W.heap.size W w') := fun j W => by
    have := eall_any (atG 0 true l (j : Int)) W
    rw [← hf j]; exact this
  have HN : Hid (∀ W, Calls Tryz.prog 55 #[.int .i64 v] W fun e w' => e = .returned (.int .i64 (((sS v : Nat) : Int))) ∧ Below W.heap.size W w') := fun W => eall_any v W
  rw [hn] at hl1 H1 HS ⊢
  have hmk := fun W => mk_runS n (by omega) W
  clear h1 hf hn
  have BE := (Box.new w (.bool true) (.slice a n cap) 42).alloc (.cells #[.bool false, .slice none 0 0] 42)
  have BR := Box.new (w.alloc (.cells #[.bool true, .slice a n cap] 42)) (.bool false) (.slice none 0 0) 42
  have hW := below2 w (.cells #[.bool true, .slice a n cap] 42) (.cells #[.bool false, .slice none 0 0] 42)
  have hsz : ((w.alloc (.cells #[.bool true, .slice a n cap] 42)).alloc (.cells #[.bool false, .slice none 0 0] 42)).heap.size = w.heap.size + 2 := by simp
  simp only [World.size_alloc] at BR
  generalize hE : (w.alloc (.cells #[.bool true, .slice a n cap] 42)).alloc (.cells #[.bool false, .slice none 0 0] 42) = W at *
  have HW := Lib.hid hW
  have HZ := Lib.hid hsz
  have HE := Lib.hid BE
  have HR := Lib.hid BR
  obtain ⟨c0, c1, -, -⟩ := id BE
  clear hW hsz BE BR
  go_enter Tryz.func54, Tryz.ntmps54
  go_wp2_with (go_at_call 88; refine (HS.out _).mono ?_; clear HS c0 c1; rintro e w1 ⟨rfl, hb⟩; have HE0 := Lib.hid ((HE.out.below hb HE.out.lt).alloc (.cells (zerosS n) 3)); have HR0 := Lib.hid ((HR.out.below hb HR.out.lt).alloc (.cells (zerosS n) 3)); have HB0 := Lib.hid ((HW.out.trans (hb.mono HW.out.size)).alloc (HW.out.trans (hb.mono HW.out.size)).size (.cells (zerosS n) 3)); have HF0 := Lib.hid (freshS_zeros w.heap.size w1 n 3 (HW.out.trans (hb.mono HW.out.size)).size); have HSZ := Lib.hid hb.size; clear hb HE HR HW)
  have hge : w.heap.size + 2 ≤ w1.heap.size := by have := HSZ.out; have := HZ.out; omega
  generalize w1.alloc (.cells (zerosS n) 3) = W1 at *
  generalize w1.heap.size = g at *
  clear hmk hE HZ HSZ
  go_loopw [20] (fun i wr => ∃ j : Nat, j ≤ n ∧ i = .int .i64 j ∧ Hid (FreshS 3 w.heap.size wr g (midG f 0 n j)) ∧ Hid (Box wr w.heap.size (.bool true) (.slice a n cap)) ∧ Hid (Box wr (w.heap.size + 1) (.bool false) (.slice none 0 0)) ∧ Hid (Below w.heap.size w wr)) (fun i _ => n - (intOf i).toNat)
  case atStart => exact ⟨0, Nat.zero_le _, rfl, by rw [midG_zero]; exact HF0, HE0, HR0, HB0⟩
  case round =>
    clear HF0 HE0 HR0 HB0
    obtain ⟨j, hj, rfl, hF, hE, hR, hBw⟩ := hrel
    by_cases hlt : j < n
    · have hji : (j : Int) < (n : Int) := by omega
      have hl : j < (midG f 0 n j).length := by rw [midG_length _ _ hj]; exact hlt
      have HL := Lib.hid hl
      have q1 := Lib.hid (fun W (h : Below wr.heap.size wr W) => H1.out W (hBw.out.trans (h.mono hBw.out.size)) j)
      have q3 := Lib.hid (HJ.out j)
      obtain ⟨fj, hfj⟩ : ∃ fj, f j = fj := ⟨_, rfl⟩
      rw [hfj] at q3
      have HFJ := Lib.hid hfj
      have HBN : Hid (Below wr.heap.size wr wr) := Below.refl _ _
      generalize atG 0 true l (j : Int) = v1 at *
      clear hfj hl H1 HJ HN
      have hdes : True := trivial
      obtain ⟨c0, c1, -, -⟩ := id hE.out
      go_wp2_with (first
        | (go_at_call 89; refine (q1.out _ HBN.out).mono ?_; clear q1 c0 c1; rintro e wn ⟨rfl, hbn⟩; have hbx := HBN.out.trans (hbn.mono HBN.out.size); clear HBN hbn; have HBN := Lib.hid hbx; clear hbx)
        | (go_at_call 55; refine (q3.out _).mono ?_; clear q3; rintro e wn ⟨rfl, hbn⟩; have hbx := HBN.out.trans (hbn.mono HBN.out.size); clear HBN hbn; have HBN := Lib.hid hbx; clear hbx; have hFn := hF.out.below HBN.out hF.out.lt; have e0 := hFn.cellAt HL.out; have f0 := hFn.frozenAt j; clear hFn))
      go_roundw
      case rel =>
        have hFn := hF.out.below HBN.out hF.out.lt
        refine ⟨j + 1, by omega, by go_num, ?_, Lib.hid ((hE.out.below HBN.out hE.out.lt).far1 (by omega)), Lib.hid ((hR.out.below HBN.out hR.out.lt).far1 (by omega)), ?_⟩
        · have := hFn.set j fj
          have e := midG_set f 0 hlt
          rw [HFJ.out] at e
          rw [e] at this
          exact this
        · have hb := hBw.out.trans (HBN.out.mono hBw.out.size)
          exact hb.setCell (p := ⟨g, j, none⟩) (by show w.heap.size ≤ g; omega) _
      case measure => simp [intOf]; omega
    · obtain rfl : j = n := by omega
      rw [midG_full] at hF
      have HP : Hid (putG (tabG f j) i (((sS v : Nat) : Int)) = if 0 ≤ i ∧ i < (j : Int) then (tabG f j).set i.toNat (((sS v : Nat) : Int)) else tabG f j) := by
        show _ = _
        unfold putG; rw [tabG_length]
      clear H1 HJ
      by_cases hin : 0 ≤ i ∧ i < (j : Int)
      · have hP := HP.out
        rw [if_pos hin] at hP
        clear HP
        obtain ⟨q, rfl⟩ : ∃ q : Nat, i = (q : Int) := ⟨i.toNat, by omega⟩
        rw [Int.toNat_natCast] at hP
        have hq : q < j := by omega
        have hqi : (q : Int) < (j : Int) := by omega
        have HL : Hid (q < (tabG f j).length) := by show q < _; rw [tabG_length]; exact hq
        obtain ⟨u, hu⟩ : ∃ u, ((sS v : Nat) : Int) = u := ⟨_, rfl⟩
        rw [hu] at HN
        have HP : Hid (_ = _) := hP
        have HU := Lib.hid hu
        have HBN : Hid (Below wr.heap.size wr wr) := Below.refl _ _
        clear hu hin hP



        go_wp2_with (go_at_call 55; refine (HN.out _).mono ?_; clear HN; rintro e wn ⟨rfl, hbn⟩; have hbx := HBN.out.trans (hbn.mono HBN.out.size); clear HBN hbn; have HBN := Lib.hid hbx; clear hbx; have hFn := hF.out.below HBN.out hF.out.lt; have e0 := hFn.cellAt HL.out; have f0 := hFn.frozenAt q; clear hFn; obtain ⟨c0, c1, g0, g1⟩ := ((hR.out.below HBN.out hR.out.lt).far1 (g := g) (by omega) : Box (wn.setCell ⟨g, q, none⟩ (.int .i64 u)) _ _ _))
        have hb := hBw.out.trans (HBN.out.mono hBw.out.size)
        have hb1 := hb.setCell (p := ⟨g, q, none⟩) (by show w.heap.size ≤ g; omega) (.int .i64 u)
        have hb2 := below_put2 hb1 (b := w.heap.size + 1) (by omega) (.bool true) (.slice (some ⟨g, 0, none⟩) j j)
        have hFn := (hF.out.below HBN.out hF.out.lt).set q u
        exact bodyPost_ret (v := .agg #[.bool true, .slice (some ⟨g, 0, none⟩) j j]) (by simp [results, Tryz.results54, go_sem, c0, c1]) rfl ⟨g, rfl, by rw [HP.out, HU.out]; exact hFn.block (heap_put2 _ _ _ _ _ (by omega)), hb2⟩
      · have hP := HP.out
        rw [if_neg hin] at hP
        clear HP
        have HP : Hid (_ = _) := hP
        clear hP
        obtain ⟨c0, c1, f0, f1⟩ := id hR.out
        clear HN
        have hor : i < 0 ∨ (0 ≤ i ∧ (j : Int) ≤ i) := by omega
        have hb2 := Lib.hid (below_put2 hBw.out (b := w.heap.size + 1) (by omega) (.bool true) (.slice (some ⟨g, 0, none⟩) j j))
        clear hin
        rcases hor with h0 | ⟨h0, h1⟩
        all_goals
          go_wp2_with fail
          exact bodyPost_ret (v := .agg #[.bool true, .slice (some ⟨g, 0, none⟩) j j]) (by simp [results, Tryz.results54, go_sem, c0, c1]) rfl ⟨g, rfl, by rw [HP.out]; exact hF.out.block (heap_put2 _ _ _ _ _ (by omega)), hb2.out⟩

end Go.Proofs.YtmcbedlmgffckaaGreatDoor

namespace Go.Proofs.YtmcbedlmgffckaaGreatDoor
open Go Go.RowKit Go.Sort

/-- n values that are read, of numbers; of signs. -/
def FE (W : World) (a : Option Addr) (n : Nat) (l : List V) : Prop := FIs W.heap.size W a l ∧ l.length = n
def SE (W : World) (a : Option Addr) (n : Nat) (l : List Int) : Prop := Is W.heap.size W a l ∧ l.length = n
theorem FE.below {W W' : World} {a : Option Addr} {n : Nat} {l : List V} (h : FE W a n l) (hb : Below W.heap.size W W') : FE W' a n l := ⟨(h.1.below hb).mono hb.size, h.2⟩
theorem SE.below {W W' : World} {a : Option Addr} {n : Nat} {l : List Int} (h : SE W a n l) (hb : Below W.heap.size W W') : SE W' a n l := ⟨(h.1.below hb).mono hb.size, h.2⟩
theorem FE.nil (W : World) (a : Option Addr) : FE W a 0 [] := ⟨FIs.nil _ _ _, rfl⟩
theorem SE.nil (W : World) (a : Option Addr) : SE W a 0 [] := ⟨Is.nil _ _ _, rfl⟩
theorem FreshF.fe {t : TypeId} {n0 : Nat} {W : World} {g : Nat} {l : List V} (h : FreshF t n0 W g l) {n : Nat} (hn : l.length = n) : FE W (some ⟨g, 0, none⟩) n l := ⟨h.fis, hn⟩
theorem FreshS.fe {t : TypeId} {n0 : Nat} {W : World} {g : Nat} {l : List Int} (h : FreshS t n0 W g l) {n : Nat} (hn : l.length = n) : SE W (some ⟨g, 0, none⟩) n l := ⟨h.fis, hn⟩
def joinF (on1 : Bool) (l1 : List V) (on2 : Bool) (l2 : List V) : List V := joinG vbot join on1 l1 on2 l2
def joinS (on1 : Bool) (l1 : List Int) (on2 : Bool) (l2 : List Int) : List Int := joinG 0 (fun x y => ((sS x ||| sS y : Nat) : Int)) on1 l1 on2 l2
def leqF (on1 : Bool) (l1 : List V) (on2 : Bool) (l2 : List V) : Bool := leqG vbot leq on1 l1 on2 l2
def leqS (on1 : Bool) (l1 : List Int) (on2 : Bool) (l2 : List Int) : Bool := leqG 0 (fun x y => leqN (sS x) (sS y)) on1 l1 on2 l2
/-- With another value: laid place by place. -/
def setF (on : Bool) (l : List V) (i : Int) (v : V) : List V := if on then putG (tabG (fun j => (atG vbot true l (j : Int)).sn) l.length) i v.sn else []
def setS (on : Bool) (l : List Int) (i : Int) (v : Int) : List Int := if on then putG (tabG (fun j => ((sS (atG 0 true l (j : Int)) : Nat) : Int)) l.length) i ((sS v : Nat) : Int) else []
theorem putG_length {α : Type} (l : List α) (i : Int) (v : α) : (putG l i v).length = l.length := by unfold putG; split <;> simp
theorem joinG_length {α : Type} (d : α) (jn : α → α → α) (on1 : Bool) (l1 : List α) (on2 : Bool) (l2 : List α) : (joinG d jn on1 l1 on2 l2).length = max (szG on1 l1) (szG on2 l2) := tabG_length _ _

theorem cell_put2 {W : World} {b : Nat} {x y : Value} {p : Addr} (h : p.block ≠ b) : ((W.setCell ⟨b, 0, none⟩ x).setCell ⟨b, 1, none⟩ y).cell? p = W.cell? p := World.cell?_of_block (heap_put2 W b p.block x y h)
theorem FE.put {W : World} {a : Option Addr} {n : Nat} {l : List V} (h : FE W a n l) {b : Nat} (hne : ∀ g o, a = some ⟨g, o, none⟩ → g ≠ b) (x y : Value) : FE ((W.setCell ⟨b, 0, none⟩ x).setCell ⟨b, 1, none⟩ y) a n l :=
  ⟨fun j hj => let ⟨g, o, e, hlt, h0, h1⟩ := h.1 j hj; ⟨g, o, e, by rw [size_put2]; exact hlt, (cell_put2 (hne g o e)).trans h0, (cell_put2 (hne g o e)).trans h1⟩, h.2⟩
theorem SE.put {W : World} {a : Option Addr} {n : Nat} {l : List Int} (h : SE W a n l) {b : Nat} (hne : ∀ g o, a = some ⟨g, o, none⟩ → g ≠ b) (x y : Value) : SE ((W.setCell ⟨b, 0, none⟩ x).setCell ⟨b, 1, none⟩ y) a n l :=
  ⟨fun j hj => let ⟨g, o, e, hlt, h0⟩ := h.1 j hj; ⟨g, o, e, by rw [size_put2]; exact hlt, (cell_put2 (hne g o e)).trans h0⟩, h.2⟩







theorem changedF_any (on1 : Bool) (a1 : Option Addr) (n1 cap1 : Nat) (l1 : List V) (i : Int) (x y : Int) (w : World) (h1 : FE w a1 n1 l1) (hl1 : n1 ≤ 200) :
    Calls Tryz.prog 35 #[.agg #[.bool on1, .slice a1 n1 cap1], .int .i64 i, .agg #[.int .i64 x, .int .i64 y], .func (.func 36) #[] #[]] w fun e w' =>
      ∃ a cap, e = .returned (.agg #[.bool on1, .slice a (szG on1 l1) cap]) ∧ FE w' a (szG on1 l1) (setF on1 l1 i ⟨x, y⟩) ∧ (∀ g, (∃ o : Nat, a = some ⟨g, o, none⟩) → w.heap.size ≤ g) ∧ Below w.heap.size w w' := by
  obtain ⟨hi1, rfl⟩ := h1
  cases on1 with
  | true =>
    refine (changedF_on a1 l1 cap1 i x y w hi1 hl1 _ (fun _ => rfl) _ rfl).mono ?_
    rintro e w' ⟨g, rfl, hF, hb⟩
    exact ⟨_, _, rfl, ⟨hF.fis, by show (putG _ _ _).length = _; rw [putG_length, tabG_length]; rfl⟩, (by rintro _ ⟨o, h⟩; cases h; exact hF.1), hb⟩
  | false =>
    refine (changedF_off a1 l1.length cap1 i x y w).mono ?_
    rintro e w' ⟨rfl, hb⟩
    exact ⟨none, 0, rfl, FE.nil _ _, (by rintro _ ⟨o, h⟩; cases h), hb⟩

set_option maxHeartbeats 2000000 in
theorem SetF_fr (on1 : Bool) (a1 : Option Addr) (n1 cap1 : Nat) (l1 : List V) (i : Int) (x y : Int) (w : World) (h1 : FE w a1 n1 l1) (hl1 : n1 ≤ 200) (l : List V) (n : Nat) (hl : setF on1 l1 i ⟨x, y⟩ = l) (hn : szG on1 l1 = n) :
    Calls Tryz.prog 20 #[.agg #[.bool on1, .slice a1 n1 cap1], .int .i64 i, .agg #[.int .i64 x, .int .i64 y]] w fun e w' => ∃ a cap, e = .returned (.agg #[.bool on1, .slice a n cap]) ∧ FE w' a n l ∧ (∀ g, (∃ o : Nat, a = some ⟨g, o, none⟩) → w.heap.size ≤ g) ∧ Below w.heap.size w w' := by
  have hW := below3 w (.cells #[.bool on1, .slice a1 n1 cap1] 36) (.cells #[.int .i64 x, .int .i64 y] 54) (.cells #[.bool false, .slice none 0 0] 36)
  have HC := Lib.hid (changedF_any on1 a1 n1 cap1 l1 i x y _ (h1.below hW) hl1)
  rw [hl, hn] at HC
  have BR := Box.new ((w.alloc (.cells #[.bool on1, .slice a1 n1 cap1] 36)).alloc (.cells #[.int .i64 x, .int .i64 y] 54)) (.bool false) (.slice none 0 0) 36
  have hsz : (((w.alloc (.cells #[.bool on1, .slice a1 n1 cap1] 36)).alloc (.cells #[.int .i64 x, .int .i64 y] 54)).alloc (.cells #[.bool false, .slice none 0 0] 36)).heap.size = w.heap.size + 3 := by simp
  simp only [World.size_alloc] at BR
  have HW := Lib.hid hW
  have HZ := Lib.hid hsz
  clear h1 hl1 hl hn hW hsz
  go_enter Tryz.func20, Tryz.ntmps20
  go_wp2_with (go_at_call 35; refine HC.out.mono ?_; clear HC; rintro e w1 ⟨a, cap, rfl, hF, hg, hb⟩; obtain ⟨d2, d3, g2, g3⟩ := BR.below hb BR.lt; have HX := Lib.hid (HW.out.trans (hb.mono HW.out.size)); have HF := Lib.hid hF; have HG := Lib.hid hg; clear hb hF hg BR)
  have hb2 := below_put2 HX.out (b := w.heap.size + 1 + 1) (by omega) (.bool on1) (.slice a n cap)
  refine bodyPost_ret (v := .agg #[.bool on1, .slice a n cap]) (by simp [results, Tryz.results20, go_sem, d2, d3]) rfl ⟨a, cap, rfl, ?_, (fun g h => by have := HG.out g h; have := HZ.out; omega), hb2⟩
  exact HF.out.put (fun g o e => by have := HG.out g ⟨o, e⟩; have := HZ.out; omega) _ _
theorem SetF_any (on1 : Bool) (a1 : Option Addr) (n1 cap1 : Nat) (l1 : List V) (i : Int) (x y : Int) (w : World) (h1 : FE w a1 n1 l1) (hl1 : n1 ≤ 200) (l : List V) (n : Nat) (hl : setF on1 l1 i ⟨x, y⟩ = l) (hn : szG on1 l1 = n) :
    Calls Tryz.prog 20 #[.agg #[.bool on1, .slice a1 n1 cap1], .int .i64 i, .agg #[.int .i64 x, .int .i64 y]] w fun e w' => ∃ a cap, e = .returned (.agg #[.bool on1, .slice a n cap]) ∧ FE w' a n l ∧ Below w.heap.size w w' :=
  (SetF_fr on1 a1 n1 cap1 l1 i x y w h1 hl1 l n hl hn).mono fun _ _ ⟨a, cap, h, hF, _, hb⟩ => ⟨a, cap, h, hF, hb⟩







theorem changedS_any (on1 : Bool) (a1 : Option Addr) (n1 cap1 : Nat) (l1 : List Int) (i : Int) (v : Int) (w : World) (h1 : SE w a1 n1 l1) (hl1 : n1 ≤ 200) :
    Calls Tryz.prog 54 #[.agg #[.bool on1, .slice a1 n1 cap1], .int .i64 i, .int .i64 v, .func (.func 55) #[] #[]] w fun e w' =>
      ∃ a cap, e = .returned (.agg #[.bool on1, .slice a (szG on1 l1) cap]) ∧ SE w' a (szG on1 l1) (setS on1 l1 i v) ∧ (∀ g, (∃ o : Nat, a = some ⟨g, o, none⟩) → w.heap.size ≤ g) ∧ Below w.heap.size w w' := by
  obtain ⟨hi1, rfl⟩ := h1
  cases on1 with
  | true =>
    refine (changedS_on a1 l1 cap1 i v w hi1 hl1 _ (fun _ => rfl) _ rfl).mono ?_
    rintro e w' ⟨g, rfl, hF, hb⟩
    exact ⟨_, _, rfl, ⟨hF.fis, by show (putG _ _ _).length = _; rw [putG_length, tabG_length]; rfl⟩, (by rintro _ ⟨o, h⟩; cases h; exact hF.1), hb⟩
  | false =>
    refine (changedS_off a1 l1.length cap1 i v w).mono ?_
    rintro e w' ⟨rfl, hb⟩
    exact ⟨none, 0, rfl, SE.nil _ _, (by rintro _ ⟨o, h⟩; cases h), hb⟩

set_option maxHeartbeats 2000000 in
theorem SetS_fr (on1 : Bool) (a1 : Option Addr) (n1 cap1 : Nat) (l1 : List Int) (i : Int) (v : Int) (w : World) (h1 : SE w a1 n1 l1) (hl1 : n1 ≤ 200) (l : List Int) (n : Nat) (hl : setS on1 l1 i v = l) (hn : szG on1 l1 = n) :
    Calls Tryz.prog 26 #[.agg #[.bool on1, .slice a1 n1 cap1], .int .i64 i, .int .i64 v] w fun e w' => ∃ a cap, e = .returned (.agg #[.bool on1, .slice a n cap]) ∧ SE w' a n l ∧ (∀ g, (∃ o : Nat, a = some ⟨g, o, none⟩) → w.heap.size ≤ g) ∧ Below w.heap.size w w' := by
  have hW := below2 w (.cells #[.bool on1, .slice a1 n1 cap1] 42) (.cells #[.bool false, .slice none 0 0] 42)
  have HC := Lib.hid (changedS_any on1 a1 n1 cap1 l1 i v _ (h1.below hW) hl1)
  rw [hl, hn] at HC
  have BR := Box.new (w.alloc (.cells #[.bool on1, .slice a1 n1 cap1] 42)) (.bool false) (.slice none 0 0) 42
  have hsz : ((w.alloc (.cells #[.bool on1, .slice a1 n1 cap1] 42)).alloc (.cells #[.bool false, .slice none 0 0] 42)).heap.size = w.heap.size + 2 := by simp
  simp only [World.size_alloc] at BR
  have HW := Lib.hid hW
  have HZ := Lib.hid hsz
  clear h1 hl1 hl hn hW hsz
  go_enter Tryz.func26, Tryz.ntmps26
  go_wp2_with (go_at_call 54; refine HC.out.mono ?_; clear HC; rintro e w1 ⟨a, cap, rfl, hF, hg, hb⟩; obtain ⟨d2, d3, g2, g3⟩ := BR.below hb BR.lt; have HX := Lib.hid (HW.out.trans (hb.mono HW.out.size)); have HF := Lib.hid hF; have HG := Lib.hid hg; clear hb hF hg BR)
  have hb2 := below_put2 HX.out (b := w.heap.size + 1) (by omega) (.bool on1) (.slice a n cap)
  refine bodyPost_ret (v := .agg #[.bool on1, .slice a n cap]) (by simp [results, Tryz.results26, go_sem, d2, d3]) rfl ⟨a, cap, rfl, ?_, (fun g h => by have := HG.out g h; have := HZ.out; omega), hb2⟩
  exact HF.out.put (fun g o e => by have := HG.out g ⟨o, e⟩; have := HZ.out; omega) _ _
theorem SetS_any (on1 : Bool) (a1 : Option Addr) (n1 cap1 : Nat) (l1 : List Int) (i : Int) (v : Int) (w : World) (h1 : SE w a1 n1 l1) (hl1 : n1 ≤ 200) (l : List Int) (n : Nat) (hl : setS on1 l1 i v = l) (hn : szG on1 l1 = n) :
    Calls Tryz.prog 26 #[.agg #[.bool on1, .slice a1 n1 cap1], .int .i64 i, .int .i64 v] w fun e w' => ∃ a cap, e = .returned (.agg #[.bool on1, .slice a n cap]) ∧ SE w' a n l ∧ Below w.heap.size w w' :=
  (SetS_fr on1 a1 n1 cap1 l1 i v w h1 hl1 l n hl hn).mono fun _ _ ⟨a, cap, h, hF, _, hb⟩ => ⟨a, cap, h, hF, hb⟩

end Go.Proofs.YtmcbedlmgffckaaGreatDoor
