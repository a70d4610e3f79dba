import Derived.WalkKit
import Derived.WalkLawsBesides
import Derived.WalkSpells
import Derived.Below
import Derived.Outline
import Derived.BigQuiet
import Derived.Lib.QuietBelow
import Derived.Lib.Hide
import Derived.WalkSmall
import Derived.Laws.BitsAllLaws
import Derived.Test.YtjlofjoekpoepaaDoorProg
import Derived.Test.YtjlofjoekpoepaaDoorMath
namespace Go.Proofs.YtjlofjoekpoepaaDoor
open Go Go.RowKit Go.Sort

theorem ret_int {k : IntKind} {a b : Int} (h : a = b) : Ending.returned (.int k a) = .returned (.int k b) := by rw [h]
theorem ret_bool {a b : Bool} (h : a = b) : Ending.returned (.bool a) = .returned (.bool b) := by rw [h]

/-- A slice's words, read in a world, in blocks below B. -/
def Wd (B : Nat) (W : World) (a : Option Addr) (ws : List Nat) : Prop :=
  ∀ j, j < ws.length → ∃ b o, a = some ⟨b, o, none⟩ ∧ b < B ∧ W.cell? ⟨b, o + j, none⟩ = some (.int .u64 ((ws[j]?.getD 0 : Nat) : Int))

theorem Wd.below {B : Nat} {W W' : World} {a : Option Addr} {ws : List Nat} (h : Wd B W a ws) (hb : Below B W W') : Wd B W' a ws :=
  fun j hj => let ⟨b, o, e, hlt, hc⟩ := h j hj; ⟨b, o, e, hlt, (hb.cell (p := ⟨b, o + j, none⟩) hlt).trans hc⟩
theorem Wd.mono {B B' : Nat} {W : World} {a : Option Addr} {ws : List Nat} (h : Wd B W a ws) (hb : B ≤ B') : Wd B' W a ws :=
  fun j hj => let ⟨b, o, e, hlt, hc⟩ := h j hj; ⟨b, o, e, Nat.lt_of_lt_of_le hlt hb, hc⟩
theorem Wd.nil (B : Nat) (W : World) (a : Option Addr) : Wd B W a [] := fun _ hj => absurd hj (Nat.not_lt_zero _)

theorem wrap_pow (k : Nat) (h : k < 64) : IntKind.u64.wrap (2 ^ k) = ((2 ^ k : Nat) : Int) := by
  rw [IntKind.wrap_u64]
  have h1 : 2 ^ k < 2 ^ 64 := Nat.pow_lt_pow_right (by decide) h
  have h2 : ((2 : Int) ^ k) = ((2 ^ k : Nat) : Int) := by simp
  rw [h2]
  exact Int.emod_eq_of_lt (Int.natCast_nonneg _) (by have : ((2 ^ 64 : Nat) : Int) = 18446744073709551616 := rfl; omega)

set_option maxHeartbeats 400000 in
theorem wordsFor_any (n : Int) (w : World) (h0 : 0 ≤ n) (h1 : n ≤ 1024) :
    Calls Tryd.prog 43 #[.int .i64 n] w fun e w' => e = .returned (.int .i64 (wcount n.toNat : Nat)) ∧ w' = w := by
  go_enter Tryd.func43, Tryd.ntmps43
  go_wp2
  go_ret
  exact ⟨ret_int (by unfold wcount; omega), rfl⟩

set_option maxHeartbeats 400000 in
theorem digit_any (n : Int) (w : World) (h0 : 0 ≤ n) (h1 : n < 1024) :
    Calls Tryd.prog 49 #[.int .i64 n] w fun e w' => e = .returned (.int .u64 ((2 ^ (n.toNat % 64) : Nat) : Int)) ∧ w' = w := by
  go_enter Tryd.func49, Tryd.ntmps49
  go_wp2
  go_ret
  refine ⟨ret_int ?_, rfl⟩
  rw [show (n % 64).toNat = n.toNat % 64 by omega]
  exact wrap_pow _ (Nat.mod_lt _ (by decide))

set_option maxHeartbeats 400000 in
theorem fits_any (N i : Int) (a : Option Addr) (len cap : Nat) (w : World) :
    Calls Tryd.prog 48 #[.agg #[.int .i64 N, .slice a len cap], .int .i64 i] w fun e w' => e = .returned (.bool (decide (0 ≤ i ∧ i < N))) ∧ Below w.heap.size w w' := by
  by_cases h0 : 0 ≤ i
  · go_enter Tryd.func48, Tryd.ntmps48
    go_wp2
    go_ret
    exact ⟨ret_bool (by simp [h0]), (Below.refl _ _).alloc (Nat.le_refl _) _⟩
  · have h0' : i < 0 := by omega
    go_enter Tryd.func48, Tryd.ntmps48
    go_wp2
    go_ret
    exact ⟨ret_bool (by simp; omega), (Below.refl _ _).alloc (Nat.le_refl _) _⟩


/-- So many zero words. -/
def zeros (k : Nat) : Array Value := Array.replicate k (.int .u64 0)

theorem Tryd_info52 : (Tryd.prog.info? 52).map (fun i => (i.zero, i.size, i.bytes)) = some (some (.int .u64 0), 1, 8) := by kernel_rfl

theorem made_zeros (k : Nat) : madeCells (Value.int .u64 0).cells (k * 1) = zeros k := by
  apply Array.ext
  · simp [madeCells, zeros]
  · intro i h1 h2
    simp [madeCells, zeros, Value.cells, Nat.mod_one]

theorem mk_run (k : Nat) (hk : k ≤ 1024) (W : World) : (Instr.makeSlice 22 (.int .i64 (k : Int)) (.int .i64 (k : Int))).run Tryd.prog W = .ok (.slice (some ⟨W.heap.size, 0, none⟩) k k) (W.alloc (.cells (zeros k) 52)) := by
  obtain ⟨i, hi, hz0, hz1, hz2⟩ := info_parts Tryd_info52
  have h := run_make (P := Tryd.prog) W 22 52 i (.int .u64 0) Tryd.underlying22 hi hz0 .i64 .i64 k k (by omega) (by omega) (by rw [hz2]; omega) (by omega)
  rw [h, hz1]
  simp only [Int.toNat_natCast]
  rw [made_zeros]

/-- What New makes of a number. -/
def clampN (n : Int) : Nat := if n < 0 then 0 else if 1024 < n then 1024 else n.toNat

theorem clampN_le (n : Int) : clampN n ≤ 1024 := by unfold clampN; split <;> (try split) <;> omega
theorem wcount_le {n : Nat} (h : n ≤ 1024) : wcount n ≤ 16 := by unfold wcount; omega

/-- A set that the call has just made: its words lie at the head of the block g, which lies from n0 on and may be written. -/
def Fresh (n0 : Nat) (W : World) (g : Nat) (ws : List Nat) : Prop :=
  n0 ≤ g ∧ ∃ cur : Array Value, W.heap[g]? = some (.cells cur 52 (0, 0)) ∧ ws.length ≤ cur.size ∧ ∀ j, j < ws.length → cur[j]? = some (.int .u64 ((ws[j]?.getD 0 : Nat) : Int))

theorem Fresh.lt {n0 : Nat} {W : World} {g : Nat} {ws : List Nat} (h : Fresh n0 W g ws) : g < W.heap.size := let ⟨_, _, hc, _⟩ := h; (Array.getElem?_eq_some_iff.1 hc).1
theorem Fresh.cellAt {n0 : Nat} {W : World} {g : Nat} {ws : List Nat} (h : Fresh n0 W g ws) {j : Nat} (hj : j < ws.length) : W.cell? ⟨g, j, none⟩ = some (.int .u64 ((ws[j]?.getD 0 : Nat) : Int)) := by
  obtain ⟨_, cur, hc, hl, hx⟩ := h
  have := hx j hj
  simp [World.cell?, hc, this]
theorem Fresh.frozenAt {n0 : Nat} {W : World} {g : Nat} {ws : List Nat} (h : Fresh n0 W g ws) (j : Nat) : W.frozen? ⟨g, j, none⟩ = false := by
  obtain ⟨_, cur, hc, _⟩ := h
  simp [World.frozen?, hc]
theorem Fresh.wd {n0 : Nat} {W : World} {g : Nat} {ws : List Nat} (h : Fresh n0 W g ws) : Wd W.heap.size W (some ⟨g, 0, none⟩) ws :=
  fun j hj => ⟨g, 0, rfl, h.lt, by rw [Nat.zero_add]; exact h.cellAt hj⟩
theorem Fresh.block {n0 : Nat} {W W' : World} {g : Nat} {ws : List Nat} (h : Fresh n0 W g ws) (he : W'.heap[g]? = W.heap[g]?) : Fresh n0 W' g ws :=
  let ⟨h1, cur, hc, hl, hx⟩ := h; ⟨h1, cur, he.trans hc, hl, hx⟩
theorem Fresh.below {n0 B : Nat} {W W' : World} {g : Nat} {ws : List Nat} (h : Fresh n0 W g ws) (hb : Below B W W') (hg : g < B) : Fresh n0 W' g ws := h.block (hb.block g hg)
theorem Fresh.base {n0 n1 : Nat} {W : World} {g : Nat} {ws : List Nat} (h : Fresh n0 W g ws) (hn : n1 ≤ n0) : Fresh n1 W g ws := ⟨Nat.le_trans hn h.1, h.2⟩
theorem Fresh.set {n0 : Nat} {W : World} {g : Nat} {ws : List Nat} (h : Fresh n0 W g ws) (j x : Nat) : Fresh n0 (W.setCell ⟨g, j, none⟩ (.int .u64 (x : Int))) g (ws.set j x) := by
  obtain ⟨h1, cur, hc, hl, hx⟩ := h
  refine ⟨h1, cur.setIfInBounds j (.int .u64 (x : Int)), ?_, by simpa using hl, ?_⟩
  · obtain ⟨hlt, hk⟩ := Array.getElem?_eq_some_iff.1 hc
    show (W.heap.modify g _)[g]? = _
    rw [Array.getElem?_eq_getElem (by rw [Array.size_modify]; exact hlt), Array.getElem_modify_self, hk]
    rfl
  · intro i hi
    simp only [List.length_set] at hi
    rw [Array.getElem?_setIfInBounds]
    by_cases hij : j = i
    · subst hij
      have : j < cur.size := by omega
      simp [this, hi]
    · simp [hij, List.getElem?_set_ne hij, hx i hi]

theorem wordsFor_at (n : Int) (k : Nat) (w : World) (h0 : 0 ≤ n) (h1 : n ≤ 1024) (hk : Hid (wcount n.toNat = k)) :
    Calls Tryd.prog 43 #[.int .i64 n] w fun e w' => e = .returned (.int .i64 (k : Nat)) ∧ w = w' :=
  (wordsFor_any n w h0 h1).mono fun _ _ ⟨he, hw⟩ => ⟨by rw [he, hk.out], hw.symm⟩

theorem fresh_zeros (w : World) (b : Obj) (k : Nat) : Fresh w.heap.size ((w.alloc b).alloc (.cells (zeros k) 52)) (w.heap.size + 1) (List.replicate k 0) := by
  refine ⟨by omega, zeros k, ?_, by simp [zeros], ?_⟩
  · show ((w.heap.push _).push _)[w.heap.size + 1]? = _
    rw [Array.getElem?_push, if_pos (by simp)]
  · intro j hj
    simp only [List.length_replicate] at hj
    simp [zeros, hj]

set_option maxHeartbeats 1000000 in
theorem new_any (n : Int) (w : World) :
    Calls Tryd.prog 29 #[.int .i64 n] w fun e w' => ∃ g, e = .returned (.agg #[.int .i64 (clampN n : Nat), .slice (some ⟨g, 0, none⟩) (wcount (clampN n)) (wcount (clampN n))]) ∧
      Fresh w.heap.size w' g (List.replicate (wcount (clampN n)) 0) ∧ Below w.heap.size w w' := by
  obtain ⟨c, hc⟩ : ∃ c, clampN n = c := ⟨_, rfl⟩
  obtain ⟨k, hk⟩ : ∃ k, wcount c = k := ⟨_, rfl⟩
  have hcl := clampN_le n
  have hm := fun W => mk_run k (by have := wcount_le (clampN_le n); rw [hc, hk] at this; omega) W
  rw [hc, hk]
  have hHK := Lib.hid hk
  by_cases h0 : n < 0
  · have hc' : c = 0 := by simp [clampN, h0] at hc; omega
    subst hc'
    clear hc hcl hk
    go_enter Tryd.func29, Tryd.ntmps29
    go_wp2_with (go_at_call 43; refine (wordsFor_at _ k _ (by omega) (by omega) (by exact hHK)).mono ?_; rintro e w1 ⟨rfl, rfl⟩)
    exact bodyPost_ret (v := .agg #[.int .i64 0, .slice (some ⟨w.heap.size + 1, 0, none⟩) k k]) (by simp [results, Tryd.results29, go_sem]) rfl
      ⟨_, rfl, fresh_zeros _ _ _, ((Below.refl _ _).alloc (Nat.le_refl _) _).alloc (by simp) _⟩
  · by_cases h1 : 1024 < n
    · have hc' : c = 1024 := by simp [clampN, h0, h1] at hc; omega
      subst hc'
      clear hc hcl hk
      go_enter Tryd.func29, Tryd.ntmps29
      go_wp2_with (go_at_call 43; refine (wordsFor_at _ k _ (by omega) (by omega) (by exact hHK)).mono ?_; rintro e w1 ⟨rfl, rfl⟩)
      exact bodyPost_ret (v := .agg #[.int .i64 1024, .slice (some ⟨w.heap.size + 1, 0, none⟩) k k]) (by simp [results, Tryd.results29, go_sem]) rfl
        ⟨_, rfl, fresh_zeros _ _ _, ((Below.refl _ _).alloc (Nat.le_refl _) _).alloc (by simp) _⟩
    · obtain ⟨m, rfl⟩ := Int.eq_ofNat_of_zero_le (show 0 ≤ n by omega)
      have hc' : m = c := by unfold clampN at hc; rw [if_neg h0, if_neg h1] at hc; simpa using hc
      subst hc'
      clear hc hcl hk
      have h2 : (m : Int) ≤ 1024 := by omega
      have h3 : (0 : Int) ≤ m := by omega
      go_enter Tryd.func29, Tryd.ntmps29
      go_wp2_with (go_at_call 43; refine (wordsFor_at _ k _ (by omega) (by omega) (by exact hHK)).mono ?_; rintro e w1 ⟨rfl, rfl⟩)
      exact bodyPost_ret (v := .agg #[.int .i64 (m : Int), .slice (some ⟨w.heap.size + 1, 0, none⟩) k k]) (by simp [results, Tryd.results29, go_sem]) rfl
        ⟨_, rfl, fresh_zeros _ _ _, ((Below.refl _ _).alloc (Nat.le_refl _) _).alloc (by simp) _⟩

end Go.Proofs.YtjlofjoekpoepaaDoor
