/- BiG1: several texts in one: BiMath BiA BiB BiC BiD BiJ BiK BiL BiMathB BiE BiF BiG BiI BiM BiN BiO BiMathC BiP BiH BiS BiCa BiCb BiCc BiCd BiU BiMathD. -/
import Derived.WalkKit
import Derived.WalkLawsBesides
import Derived.WalkSpells
import Derived.Below
import Derived.Outline
import Derived.BigQuiet
import Derived.Lib.QuietBelow
import Derived.Lib.Hide
import Derived.WalkSmall
import Derived.Laws.BitsAllLaws
import Derived.Test.YtmcbedlmgffckaaDoorProg
import Derived.Deep.RegionWith
import Derived.Deep.DeepCutAuto
import Derived.Lib.TrailingZeros
import Derived.RangeFuncNested
import Derived.RangeFuncBound
import Derived.RangeFuncCalls
import Derived.RangeFuncLeaves
import Derived.RangeFuncBox
import Derived.Shelf.Abstract
import Derived.Shelf.RegionOpen
import Derived.OwnWalkIn
import Derived.TacticsInMore
import Derived.LoopNIn
import Derived.LoopIn
import Derived.RangeFuncFrom
import Derived.Maps.AppendAt
import Derived.Lib.LazyBuf
import Derived.Deep.RegionHeld3
import Derived.Laws.Bits128
import Derived.Deep.LoopGhost
import Derived.RangeFuncWrites
import Derived.RangeFuncOwn

namespace Go.Proofs.YtmcbedlmgffckaaDoor.Bi

/-- 2 to the 64th. -/
def M64 : Nat := 18446744073709551616

/-- Every word is a word. -/
def WB (ws : List Nat) : Prop := ∀ x ∈ ws, x < M64

def wcount (n : Nat) : Nat := (n + 63) / 64

def topClear (n : Nat) (ws : List Nat) : Bool := n % 64 == 0 || (ws[ws.length - 1]?.getD 0) >>> (n % 64) == 0

/-- May a set be? -/
def saneB (n : Int) (ws : List Nat) : Bool := decide (0 ≤ n ∧ n ≤ 1024 ∧ ws.length = wcount n.toNat) && topClear n.toNat ws

def bitAt (ws : List Nat) (i : Nat) : Bool := (ws[i / 64]?.getD 0).testBit (i % 64)

/-- Is a number in a set (that may be)? -/
def hasB (n : Nat) (ws : List Nat) (i : Int) : Bool := decide (0 ≤ i ∧ i < n) && bitAt ws i.toNat

/-- What every call takes of a set: its size .. -/
def nrm (n : Int) (ws : List Nat) : Nat := if saneB n ws then n.toNat else 0
/-- .. and its words. -/
def nrmW (n : Int) (ws : List Nat) : List Nat := if saneB n ws then ws else []

theorem and_pow_ne (x k : Nat) : (x &&& 2 ^ k != 0) = x.testBit k := by
  cases h : x.testBit k with
  | true =>
    rw [bne_iff_ne]
    intro h0
    have : (x &&& 2 ^ k).testBit k = true := by rw [Nat.testBit_and, h, Nat.testBit_two_pow_self]; rfl
    rw [h0] at this
    simp at this
  | false =>
    have : x &&& 2 ^ k = 0 := by
      apply Nat.eq_of_testBit_eq
      intro i
      rw [Nat.testBit_and, Nat.testBit_two_pow]
      by_cases hi : k = i
      · subst hi; simp [h]
      · simp [hi]
    rw [this]; rfl
end Go.Proofs.YtmcbedlmgffckaaDoor.Bi

namespace Go.Proofs.YtmcbedlmgffckaaDoor.Bi
open Go Go.RowKit Go.Sort

theorem ret_int {k : IntKind} {a b : Int} (h : a = b) : Ending.returned (.int k a) = .returned (.int k b) := by rw [h]
theorem ret_bool {a b : Bool} (h : a = b) : Ending.returned (.bool a) = .returned (.bool b) := by rw [h]

/-- A slice's words, read in a world, in blocks below B. -/
def Wd (B : Nat) (W : World) (a : Option Addr) (ws : List Nat) : Prop :=
  ∀ j, j < ws.length → ∃ b o, a = some ⟨b, o, none⟩ ∧ b < B ∧ W.cell? ⟨b, o + j, none⟩ = some (.int .u64 ((ws[j]?.getD 0 : Nat) : Int))

theorem Wd.below {B : Nat} {W W' : World} {a : Option Addr} {ws : List Nat} (h : Wd B W a ws) (hb : Below B W W') : Wd B W' a ws :=
  fun j hj => let ⟨b, o, e, hlt, hc⟩ := h j hj; ⟨b, o, e, hlt, (hb.cell (p := ⟨b, o + j, none⟩) hlt).trans hc⟩
theorem Wd.mono {B B' : Nat} {W : World} {a : Option Addr} {ws : List Nat} (h : Wd B W a ws) (hb : B ≤ B') : Wd B' W a ws :=
  fun j hj => let ⟨b, o, e, hlt, hc⟩ := h j hj; ⟨b, o, e, Nat.lt_of_lt_of_le hlt hb, hc⟩
theorem Wd.nil (B : Nat) (W : World) (a : Option Addr) : Wd B W a [] := fun _ hj => absurd hj (Nat.not_lt_zero _)

theorem wrap_pow (k : Nat) (h : k < 64) : IntKind.u64.wrap (2 ^ k) = ((2 ^ k : Nat) : Int) := by
  rw [IntKind.wrap_u64]
  have h1 : 2 ^ k < 2 ^ 64 := Nat.pow_lt_pow_right (by decide) h
  have h2 : ((2 : Int) ^ k) = ((2 ^ k : Nat) : Int) := by simp
  rw [h2]
  exact Int.emod_eq_of_lt (Int.natCast_nonneg _) (by have : ((2 ^ 64 : Nat) : Int) = 18446744073709551616 := rfl; omega)

set_option maxHeartbeats 400000 in
theorem wordsFor_any (n : Int) (w : World) (h0 : 0 ≤ n) (h1 : n ≤ 1024) :
    Calls Tryd.prog 66 #[.int .i64 n] w fun e w' => e = .returned (.int .i64 (wcount n.toNat : Nat)) ∧ w' = w := by
  go_enter Tryd.func66, Tryd.ntmps66
  go_wp2
  go_ret
  exact ⟨ret_int (by unfold wcount; omega), rfl⟩

set_option maxHeartbeats 400000 in
theorem digit_any (n : Int) (w : World) (h0 : 0 ≤ n) (h1 : n < 1024) :
    Calls Tryd.prog 97 #[.int .i64 n] w fun e w' => e = .returned (.int .u64 ((2 ^ (n.toNat % 64) : Nat) : Int)) ∧ w' = w := by
  go_enter Tryd.func97, Tryd.ntmps97
  go_wp2
  go_ret
  refine ⟨ret_int ?_, rfl⟩
  rw [show (n % 64).toNat = n.toNat % 64 by omega]
  exact wrap_pow _ (Nat.mod_lt _ (by decide))

set_option maxHeartbeats 400000 in
theorem fits_any (N i : Int) (a : Option Addr) (len cap : Nat) (w : World) :
    Calls Tryd.prog 96 #[.agg #[.int .i64 N, .slice a len cap], .int .i64 i] w fun e w' => e = .returned (.bool (decide (0 ≤ i ∧ i < N))) ∧ Below w.heap.size w w' := by
  by_cases h0 : 0 ≤ i
  · go_enter Tryd.func96, Tryd.ntmps96
    go_wp2
    go_ret
    exact ⟨ret_bool (by simp [h0]), (Below.refl _ _).alloc (Nat.le_refl _) _⟩
  · have h0' : i < 0 := by omega
    go_enter Tryd.func96, Tryd.ntmps96
    go_wp2
    go_ret
    exact ⟨ret_bool (by simp; omega), (Below.refl _ _).alloc (Nat.le_refl _) _⟩


/-- So many zero words. -/
def zeros (k : Nat) : Array Value := Array.replicate k (.int .u64 0)

theorem Tryd_info52 : (Tryd.prog.info? 85).map (fun i => (i.zero, i.size, i.bytes)) = some (some (.int .u64 0), 1, 8) := by kernel_rfl

theorem made_zeros (k : Nat) : madeCells (Value.int .u64 0).cells (k * 1) = zeros k := by
  apply Array.ext
  · simp [madeCells, zeros]
  · intro i h1 h2
    simp [madeCells, zeros, Value.cells, Nat.mod_one]

theorem mk_run (k : Nat) (hk : k ≤ 1024) (W : World) : (Instr.makeSlice 33 (.int .i64 (k : Int)) (.int .i64 (k : Int))).run Tryd.prog W = .ok (.slice (some ⟨W.heap.size, 0, none⟩) k k) (W.alloc (.cells (zeros k) 85)) := by
  obtain ⟨i, hi, hz0, hz1, hz2⟩ := info_parts Tryd_info52
  have h := run_make (P := Tryd.prog) W 33 85 i (.int .u64 0) Tryd.underlying33 hi hz0 .i64 .i64 k k (by omega) (by omega) (by rw [hz2]; omega) (by omega)
  rw [h, hz1]
  simp only [Int.toNat_natCast]
  rw [made_zeros]

/-- What New makes of a number. -/
def clampN (n : Int) : Nat := if n < 0 then 0 else if 1024 < n then 1024 else n.toNat

theorem clampN_le (n : Int) : clampN n ≤ 1024 := by unfold clampN; split <;> (try split) <;> omega
theorem wcount_le {n : Nat} (h : n ≤ 1024) : wcount n ≤ 16 := by unfold wcount; omega

/-- A set that the call has just made: its words lie at the head of the block g, which lies from n0 on and may be written. -/
def Fresh (n0 : Nat) (W : World) (g : Nat) (ws : List Nat) : Prop :=
  n0 ≤ g ∧ ∃ cur : Array Value, W.heap[g]? = some (.cells cur 85 (0, 0)) ∧ ws.length ≤ cur.size ∧ ∀ j, j < ws.length → cur[j]? = some (.int .u64 ((ws[j]?.getD 0 : Nat) : Int))

theorem Fresh.lt {n0 : Nat} {W : World} {g : Nat} {ws : List Nat} (h : Fresh n0 W g ws) : g < W.heap.size := let ⟨_, _, hc, _⟩ := h; (Array.getElem?_eq_some_iff.1 hc).1
theorem Fresh.cellAt {n0 : Nat} {W : World} {g : Nat} {ws : List Nat} (h : Fresh n0 W g ws) {j : Nat} (hj : j < ws.length) : W.cell? ⟨g, j, none⟩ = some (.int .u64 ((ws[j]?.getD 0 : Nat) : Int)) := by
  obtain ⟨_, cur, hc, hl, hx⟩ := h
  have := hx j hj
  simp [World.cell?, hc, this]
theorem Fresh.frozenAt {n0 : Nat} {W : World} {g : Nat} {ws : List Nat} (h : Fresh n0 W g ws) (j : Nat) : W.frozen? ⟨g, j, none⟩ = false := by
  obtain ⟨_, cur, hc, _⟩ := h
  simp [World.frozen?, hc]
theorem Fresh.wd {n0 : Nat} {W : World} {g : Nat} {ws : List Nat} (h : Fresh n0 W g ws) : Wd W.heap.size W (some ⟨g, 0, none⟩) ws :=
  fun j hj => ⟨g, 0, rfl, h.lt, by rw [Nat.zero_add]; exact h.cellAt hj⟩
theorem Fresh.block {n0 : Nat} {W W' : World} {g : Nat} {ws : List Nat} (h : Fresh n0 W g ws) (he : W'.heap[g]? = W.heap[g]?) : Fresh n0 W' g ws :=
  let ⟨h1, cur, hc, hl, hx⟩ := h; ⟨h1, cur, he.trans hc, hl, hx⟩
theorem Fresh.below {n0 B : Nat} {W W' : World} {g : Nat} {ws : List Nat} (h : Fresh n0 W g ws) (hb : Below B W W') (hg : g < B) : Fresh n0 W' g ws := h.block (hb.block g hg)
theorem Fresh.base {n0 n1 : Nat} {W : World} {g : Nat} {ws : List Nat} (h : Fresh n0 W g ws) (hn : n1 ≤ n0) : Fresh n1 W g ws := ⟨Nat.le_trans hn h.1, h.2⟩
theorem Fresh.set {n0 : Nat} {W : World} {g : Nat} {ws : List Nat} (h : Fresh n0 W g ws) (j x : Nat) : Fresh n0 (W.setCell ⟨g, j, none⟩ (.int .u64 (x : Int))) g (ws.set j x) := by
  obtain ⟨h1, cur, hc, hl, hx⟩ := h
  refine ⟨h1, cur.setIfInBounds j (.int .u64 (x : Int)), ?_, by simpa using hl, ?_⟩
  · obtain ⟨hlt, hk⟩ := Array.getElem?_eq_some_iff.1 hc
    show (W.heap.modify g _)[g]? = _
    rw [Array.getElem?_eq_getElem (by rw [Array.size_modify]; exact hlt), Array.getElem_modify_self, hk]
    rfl
  · intro i hi
    simp only [List.length_set] at hi
    rw [Array.getElem?_setIfInBounds]
    by_cases hij : j = i
    · subst hij
      have : j < cur.size := by omega
      simp [this, hi]
    · simp [hij, List.getElem?_set_ne hij, hx i hi]

theorem wordsFor_at (n : Int) (k : Nat) (w : World) (h0 : 0 ≤ n) (h1 : n ≤ 1024) (hk : Hid (wcount n.toNat = k)) :
    Calls Tryd.prog 66 #[.int .i64 n] w fun e w' => e = .returned (.int .i64 (k : Nat)) ∧ w = w' :=
  (wordsFor_any n w h0 h1).mono fun _ _ ⟨he, hw⟩ => ⟨by rw [he, hk.out], hw.symm⟩

theorem fresh_zeros (w : World) (b : Obj) (k : Nat) : Fresh w.heap.size ((w.alloc b).alloc (.cells (zeros k) 85)) (w.heap.size + 1) (List.replicate k 0) := by
  refine ⟨by omega, zeros k, ?_, by simp [zeros], ?_⟩
  · show ((w.heap.push _).push _)[w.heap.size + 1]? = _
    rw [Array.getElem?_push, if_pos (by simp)]
  · intro j hj
    simp only [List.length_replicate] at hj
    simp [zeros, hj]

set_option maxHeartbeats 1000000 in
theorem new_any (n : Int) (w : World) :
    Calls Tryd.prog 29 #[.int .i64 n] w fun e w' => ∃ g, e = .returned (.agg #[.int .i64 (clampN n : Nat), .slice (some ⟨g, 0, none⟩) (wcount (clampN n)) (wcount (clampN n))]) ∧
      Fresh w.heap.size w' g (List.replicate (wcount (clampN n)) 0) ∧ Below w.heap.size w w' := by
  obtain ⟨c, hc⟩ : ∃ c, clampN n = c := ⟨_, rfl⟩
  obtain ⟨k, hk⟩ : ∃ k, wcount c = k := ⟨_, rfl⟩
  have hcl := clampN_le n
  have hm := fun W => mk_run k (by have := wcount_le (clampN_le n); rw [hc, hk] at this; omega) W
  rw [hc, hk]
  have hHK := Lib.hid hk
  by_cases h0 : n < 0
  · have hc' : c = 0 := by simp [clampN, h0] at hc; omega
    subst hc'
    clear hc hcl hk
    go_enter Tryd.func29, Tryd.ntmps29
    go_wp2_with (go_at_call 66; refine (wordsFor_at _ k _ (by omega) (by omega) (by exact hHK)).mono ?_; rintro e w1 ⟨rfl, rfl⟩)
    exact bodyPost_ret (v := .agg #[.int .i64 0, .slice (some ⟨w.heap.size + 1, 0, none⟩) k k]) (by simp [results, Tryd.results29, go_sem]) rfl
      ⟨_, rfl, fresh_zeros _ _ _, ((Below.refl _ _).alloc (Nat.le_refl _) _).alloc (by simp) _⟩
  · by_cases h1 : 1024 < n
    · have hc' : c = 1024 := by simp [clampN, h0, h1] at hc; omega
      subst hc'
      clear hc hcl hk
      go_enter Tryd.func29, Tryd.ntmps29
      go_wp2_with (go_at_call 66; refine (wordsFor_at _ k _ (by omega) (by omega) (by exact hHK)).mono ?_; rintro e w1 ⟨rfl, rfl⟩)
      exact bodyPost_ret (v := .agg #[.int .i64 1024, .slice (some ⟨w.heap.size + 1, 0, none⟩) k k]) (by simp [results, Tryd.results29, go_sem]) rfl
        ⟨_, rfl, fresh_zeros _ _ _, ((Below.refl _ _).alloc (Nat.le_refl _) _).alloc (by simp) _⟩
    · obtain ⟨m, rfl⟩ := Int.eq_ofNat_of_zero_le (show 0 ≤ n by omega)
      have hc' : m = c := by unfold clampN at hc; rw [if_neg h0, if_neg h1] at hc; simpa using hc
      subst hc'
      clear hc hcl hk
      have h2 : (m : Int) ≤ 1024 := by omega
      have h3 : (0 : Int) ≤ m := by omega
      go_enter Tryd.func29, Tryd.ntmps29
      go_wp2_with (go_at_call 66; refine (wordsFor_at _ k _ (by omega) (by omega) (by exact hHK)).mono ?_; rintro e w1 ⟨rfl, rfl⟩)
      exact bodyPost_ret (v := .agg #[.int .i64 (m : Int), .slice (some ⟨w.heap.size + 1, 0, none⟩) k k]) (by simp [results, Tryd.results29, go_sem]) rfl
        ⟨_, rfl, fresh_zeros _ _ _, ((Below.refl _ _).alloc (Nat.le_refl _) _).alloc (by simp) _⟩

end Go.Proofs.YtmcbedlmgffckaaDoor.Bi

namespace Go.Proofs.YtmcbedlmgffckaaDoor.Bi
open Go Go.RowKit Go.Sort

theorem Wd.last {B : Nat} {W : World} {a : Option Addr} {ws : List Nat} (h : Wd B W a ws) (h0 : 0 < ws.length) :
    ∃ b o, a = some ⟨b, o, none⟩ ∧ b < B ∧ W.cell? ⟨b, o + (ws.length - 1), none⟩ = some (.int .u64 ((ws[ws.length - 1]?.getD 0 : Nat) : Int)) := h _ (by omega)

set_option maxHeartbeats 1000000 in
theorem sane_any (n : Int) (a : Option Addr) (ws : List Nat) (cap : Nat) (w : World) (hWd : Wd w.heap.size w a ws) (hl : ws.length ≤ 30) :
    Calls Tryd.prog 42 #[.agg #[.int .i64 n, .slice a ws.length cap]] w fun e w' => e = .returned (.bool (saneB n ws)) ∧ Below w.heap.size w w' := by
  by_cases h0 : n < 0
  · have hf : saneB n ws = false := by simp [saneB]; omega
    rw [hf]
    clear hf hWd
    go_enter Tryd.func42, Tryd.ntmps42
    go_wp2
    go_quiet (fail)
    go_wp2
    go_ret
    exact ⟨rfl, below_drewN ((Below.refl _ _).alloc (Nat.le_refl _) _) _⟩
  · by_cases h1 : 1024 < n
    · have hf : saneB n ws = false := by simp [saneB]; omega
      rw [hf]
      clear hf hWd
      go_enter Tryd.func42, Tryd.ntmps42
      go_wp2
      go_quiet (fail)
      go_wp2
      go_ret
      exact ⟨rfl, below_drewN ((Below.refl _ _).alloc (Nat.le_refl _) _) _⟩
    · obtain ⟨m, rfl⟩ := Int.eq_ofNat_of_zero_le (show 0 ≤ n by omega)
      obtain ⟨k, hk⟩ : ∃ k, wcount m = k := ⟨_, rfl⟩
      have hk' : Hid (wcount (m : Int).toNat = k) := hk
      have h2 : (m : Int) ≤ 1024 := by omega
      have h3 : (0 : Int) ≤ m := by omega
      have hkl : k ≤ 16 := by have := wcount_le (show m ≤ 1024 by omega); omega
      have hwq : ∀ (W : World) (q : Nat), Calls Tryd.prog 66 #[.int .i64 (m : Int)] (W.drewN q) fun e w' => e = .returned (.int .i64 (k : Nat)) ∧ ∃ r, w' = W.drewN r := fun W q =>
        (wordsFor_at _ k _ h3 h2 hk').mono fun _ _ ⟨he, hw⟩ => ⟨he, q, hw.symm⟩
      have hd1 : decide ((m : Int) < 0) = false := by simp
      have hd2 : decide (1024 < (m : Int)) = false := by simp; omega
      by_cases hlen : ws.length = k
      · have hs : saneB m ws = topClear m ws := by simp [saneB, hlen, hk, h2]
        rw [hs]
        have hb1 : ((ws.length : Int) != (k : Int)) = false := by simp [hlen]
        by_cases hr : m % 64 = 0
        · have ht : topClear m ws = true := by simp [topClear, hr]
          have hb2 : ((m : Int) % 64 == 0) = true := by simp; omega
          rw [ht]
          have HL := Lib.hid hlen
          clear hs ht hlen hk hr hWd
          go_enter Tryd.func42, Tryd.ntmps42
          go_wp2
          go_quiet ((go_at_call 66; exact hwq _ _))
          go_wp2
          go_ret
          exact ⟨rfl, below_drewN ((Below.refl _ _).alloc (Nat.le_refl _) _) _⟩
        · have hpos : 0 < ws.length := by rw [hlen, ← hk]; unfold wcount; omega
          obtain ⟨b, o, rfl, hbl, hcell⟩ := hWd.last hpos
          have hb2 : ((m : Int) % 64 == 0) = false := by simp; omega
          have HR := Lib.hid hr
          have HL := Lib.hid hlen
          have HS := Lib.hid hs
          obtain ⟨L, hL⟩ : ∃ L, ws.length = L + 1 := ⟨ws.length - 1, by omega⟩
          rw [hL] at hcell hb1 hl ⊢
          simp only [Nat.add_sub_cancel, Int.natCast_add, Int.natCast_one] at hcell hb1
          have HLL := Lib.hid hL
          clear hs hlen hk hr hWd hpos hL
          go_enter Tryd.func42, Tryd.ntmps42
          go_wp2
          go_quiet ((go_at_call 66; exact hwq _ _))
          go_wp2
          go_ret
          refine ⟨ret_bool ?_, below_drewN ((Below.refl _ _).alloc (Nat.le_refl _) _) _⟩
          unfold topClear
          rw [HLL.out]
          simp only [Nat.add_sub_cancel]
          have hr1 : (m % 64 == 0) = false := by have := HR.out; simpa using this
          rw [hr1, Bool.false_or, Nat.shiftRight_eq_div_pow, Bool.eq_iff_iff]
          simp only [beq_iff_eq]
          have e1 : ((ws[L]?.getD 0 : Nat) : Int) / 2 ^ (m % 64) = (((ws[L]?.getD 0) / 2 ^ (m % 64) : Nat) : Int) := by simp
          rw [e1]
          exact Int.natCast_eq_zero
      · have hs : saneB m ws = false := by simp [saneB, hk, hlen]
        rw [hs]
        have hb1 : ((ws.length : Int) != (k : Int)) = true := by simp; omega
        have HL := Lib.hid hlen
        clear hs hlen hk hWd
        go_enter Tryd.func42, Tryd.ntmps42
        go_wp2
        go_quiet ((go_at_call 66; exact hwq _ _))
        go_wp2
        go_ret
        exact ⟨rfl, below_drewN ((Below.refl _ _).alloc (Nat.le_refl _) _) _⟩
end Go.Proofs.YtmcbedlmgffckaaDoor.Bi

namespace Go.Proofs.YtmcbedlmgffckaaDoor.Bi
open Go Go.RowKit Go.Sort

theorem and_word (x k : Nat) (hx : x < M64) (hk : k < 64) : (bits .and .u64 (x : Int) ((2 ^ k : Nat) : Int) != 0) = x.testBit k := by
  have h2 : 2 ^ k < 2 ^ 64 := Nat.pow_lt_pow_right (by decide) hk
  have h3 : (2 : Nat) ^ 64 = 18446744073709551616 := rfl
  rw [u64_and_nat x (2 ^ k) hx (by omega), ← and_pow_ne x k]
  rw [Bool.eq_iff_iff]
  simp only [bne_iff_ne, ne_eq]
  omega

theorem WB.at {ws : List Nat} (h : WB ws) (j : Nat) : ws[j]?.getD 0 < M64 := by
  by_cases hj : j < ws.length
  · simp [hj]; exact h _ (List.getElem_mem hj)
  · simp [List.getElem?_eq_none (Nat.le_of_not_lt hj), M64]

set_option maxHeartbeats 1000000 in
/-- has, of a set that may be. -/
theorem has_any (n : Nat) (a : Option Addr) (ws : List Nat) (cap : Nat) (i : Int) (w : World) (hWd : Wd w.heap.size w a ws) (hB : WB ws) (hn : n ≤ 1024) (hl : ws.length = wcount n) :
    Calls Tryd.prog 73 #[.agg #[.int .i64 (n : Int), .slice a ws.length cap], .int .i64 i] w fun e w' => e = .returned (.bool (hasB n ws i)) ∧ Below w.heap.size w w' := by
  have hW1 : Below w.heap.size w (w.alloc (.cells #[.int .i64 (n : Int), .slice a ws.length cap] 38)) := (Below.refl _ _).alloc (Nat.le_refl _) _
  by_cases hin : 0 ≤ i ∧ i < n
  · obtain ⟨j, rfl⟩ := Int.eq_ofNat_of_zero_le hin.1
    have hjn : j < n := by omega
    have hq : j / 64 < ws.length := by rw [hl]; unfold wcount; omega
    obtain ⟨b, o, rfl, hbl, hcell⟩ := hWd _ hq
    have hres : hasB n ws j = (ws[j / 64]?.getD 0).testBit (j % 64) := by simp [hasB, bitAt, hjn]
    rw [hres]
    have hx := hB.at (j / 64)
    have hlen : ws.length ≤ 16 := by rw [hl]; exact wcount_le hn
    have h64 : j % 64 < 64 := Nat.mod_lt _ (by decide)
    obtain ⟨x, hxx⟩ : ∃ x, ws[j / 64]?.getD 0 = x := ⟨_, rfl⟩
    rw [hxx] at hcell hx ⊢
    obtain ⟨L, hL⟩ : ∃ L, ws.length = L := ⟨_, rfl⟩
    rw [hL] at hq hlen hW1 ⊢
    have hword := and_word x (j % 64) hx h64
    generalize hW : w.alloc (.cells #[.int .i64 (n : Int), .slice (some ⟨b, o, none⟩) L cap] 38) = W1 at *
    have c0 : W1.cell? ⟨w.heap.size, 0, none⟩ = some (.int .i64 (n : Int)) := by rw [← hW]; simp
    have c1 : W1.cell? ⟨w.heap.size, 1, none⟩ = some (.slice (some ⟨b, o, none⟩) L cap) := by rw [← hW]; simp
    have cw : W1.cell? ⟨b, o + j / 64, none⟩ = some (.int .u64 (x : Int)) := (hW1.cell (p := ⟨b, o + j / 64, none⟩) hbl).trans hcell
    have k0 := cell_regrown c0
    have k1 := cell_regrown c1
    have kw := cell_regrown cw
    have cF : ∀ d os, Calls Tryd.prog 96 #[.agg #[.int .i64 (n : Int), .slice (some ⟨b, o, none⟩) L cap], .int .i64 (j : Int)] (grow (redrawn W1 d) os) fun e w'' => e = .returned (.bool true) ∧ ∃ p : Regrown, w'' = grow (redrawn W1 p.d) p.os :=
      fun d os => Calls.regrown_of ((fits_any _ _ _ _ _ _).mono fun _ _ ⟨he, hb⟩ => ⟨by rw [he]; simp [hjn], hb⟩)
    have cD : ∀ d os, Calls Tryd.prog 97 #[.int .i64 (j : Int)] (grow (redrawn W1 d) os) fun e w'' => e = .returned (.int .u64 ((2 ^ (j % 64) : Nat) : Int)) ∧ ∃ p : Regrown, w'' = grow (redrawn W1 p.d) p.os :=
      fun d os => Calls.regrown_of ((digit_any _ _ (by omega) (by omega)).mono fun _ _ ⟨he, hb⟩ => ⟨by rw [he]; simp, by rw [hb]; exact Below.refl _ _⟩)
    have g1 : (0 : Int) ≤ (j : Int) / 64 := by omega
    have g2 : (j : Int) / 64 < (L : Int) := by omega
    have g3 : ((j : Int) / 64).toNat = j / 64 := by omega
    have HWORD := Lib.hid hword
    have HXX := Lib.hid hxx
    have HL := Lib.hid hL
    have HH := Lib.hid hW
    have HW1 := Lib.hid hW1
    obtain ⟨D, hD⟩ : ∃ D : Nat, 2 ^ (j % 64) = D := ⟨_, rfl⟩
    rw [hD] at cD
    have HD := Lib.hid hD
    clear hword hxx hL hl hWd hres hn hB hcell c0 c1 cw hin hD
    go_enter Tryd.func73, Tryd.ntmps73
    go_wp2
    clear hW
    refine wp_region_quiet_below (by kernel_rfl) (by kernel_rfl) ?_
    repeat (first | go_big_quiet_step (first | exact cF _ _ | exact cD _ _) | quiet_step (first | exact cF _ _ | exact cD _ _))
    refine wpQuiet_nil ?_
    intro _ hw'
    obtain ⟨⟨dq, osq⟩, hw''⟩ := hw'
    subst hw''
    go_wp2
    go_ret
    refine ⟨ret_bool ?_, HW1.out.trans ((below_regrown W1 dq osq).mono HW1.out.size)⟩
    rw [← HWORD.out, HD.out]
  · have hres : hasB n ws i = false := by simp [hasB]; omega
    rw [hres]
    generalize hL : ws.length = L at *
    have HL := Lib.hid hL
    have HIN := Lib.hid hin
    clear hL hl hin hWd hres
    generalize hW : w.alloc (.cells #[.int .i64 (n : Int), .slice a L cap] 38) = W1 at *
    have c0 : W1.cell? ⟨w.heap.size, 0, none⟩ = some (.int .i64 (n : Int)) := by rw [← hW]; simp
    have c1 : W1.cell? ⟨w.heap.size, 1, none⟩ = some (.slice a L cap) := by rw [← hW]; simp
    have k0 := cell_regrown c0
    have k1 := cell_regrown c1
    have cF : ∀ d os, Calls Tryd.prog 96 #[.agg #[.int .i64 (n : Int), .slice a L cap], .int .i64 i] (grow (redrawn W1 d) os) fun e w'' => e = .returned (.bool false) ∧ ∃ p : Regrown, w'' = grow (redrawn W1 p.d) p.os :=
      fun d os => Calls.regrown_of ((fits_any _ _ _ _ _ _).mono fun _ _ ⟨he, hb⟩ => ⟨by rw [he]; simp [HIN.out], hb⟩)
    have HW1 := Lib.hid hW1
    clear c0 c1
    go_enter Tryd.func73, Tryd.ntmps73
    go_wp2
    clear hW
    refine wp_region_quiet_below (by kernel_rfl) (by kernel_rfl) ?_
    repeat (first | go_big_quiet_step (exact cF _ _) | quiet_step (exact cF _ _))
    refine wpQuiet_nil ?_
    intro _ hw'
    obtain ⟨⟨dq, osq⟩, hw''⟩ := hw'
    subst hw''
    go_wp2
    go_ret
    exact ⟨rfl, HW1.out.trans ((below_regrown W1 dq osq).mono HW1.out.size)⟩
end Go.Proofs.YtmcbedlmgffckaaDoor.Bi

namespace Go.Proofs.YtmcbedlmgffckaaDoor.Bi
open Go Go.RowKit Go.Sort

/-- A set as a value: its size, and a slice whose words are read in the world, in blocks below B. -/
def SVB (B : Nat) (W : World) (v : Value) (n : Int) (ws : List Nat) : Prop := ∃ a cap, v = .agg #[.int .i64 n, .slice a ws.length cap] ∧ Wd B W a ws
def SV (W : World) (v : Value) (n : Int) (ws : List Nat) : Prop := SVB W.heap.size W v n ws

theorem SVB.below {B : Nat} {W W' : World} {v : Value} {n : Int} {ws : List Nat} (h : SVB B W v n ws) (hb : Below B W W') : SVB B W' v n ws :=
  let ⟨a, cap, e, hw⟩ := h; ⟨a, cap, e, hw.below hb⟩
theorem SVB.sv {B : Nat} {W : World} {v : Value} {n : Int} {ws : List Nat} (h : SVB B W v n ws) (hb : B ≤ W.heap.size) : SV W v n ws :=
  let ⟨a, cap, e, hw⟩ := h; ⟨a, cap, e, hw.mono hb⟩

theorem SV.below {W W' : World} {v : Value} {n : Int} {ws : List Nat} (h : SV W v n ws) (hb : Below W.heap.size W W') : SV W' v n ws :=
  (SVB.below h hb).sv hb.size

/-- A set that may be. -/
structure Ok (n : Nat) (ws : List Nat) : Prop where
  le : n ≤ 1024
  len : ws.length = wcount n
  top : topClear n ws = true
  wb : WB ws

theorem Ok.len16 {n : Nat} {ws : List Nat} (h : Ok n ws) : ws.length ≤ 16 := by rw [h.len]; exact wcount_le h.le

theorem ok_of_sane {n : Int} {ws : List Nat} (hb : WB ws) (h : saneB n ws = true) : Ok n.toNat ws ∧ ((n.toNat : Nat) : Int) = n := by
  simp only [saneB, Bool.and_eq_true, decide_eq_true_eq] at h
  exact ⟨⟨by omega, h.1.2.2, h.2, hb⟩, by omega⟩

theorem ok_zero : Ok 0 [] := ⟨by decide, rfl, rfl, fun _ h => by cases h⟩

theorem nrm_ok {n : Int} {ws : List Nat} (hb : WB ws) : Ok (nrm n ws) (nrmW n ws) := by
  unfold nrm nrmW
  split
  · exact (ok_of_sane hb (by assumption)).1
  · exact ok_zero

theorem saneB_ok {n : Nat} {ws : List Nat} (h : Ok n ws) : saneB n ws = true := by
  have := h.le
  simp [saneB, h.len, h.top]; omega

theorem nrm_of_ok {n : Nat} {ws : List Nat} (h : Ok n ws) : nrm n ws = n ∧ nrmW n ws = ws := by
  simp [nrm, nrmW, saneB_ok h]

/-- A box of two cells that may be written. -/
structure Box (W : World) (b : Nat) (x y : Value) : Prop where
  c0 : W.cell? ⟨b, 0, none⟩ = some x
  c1 : W.cell? ⟨b, 1, none⟩ = some y
  f0 : W.frozen? ⟨b, 0, none⟩ = false
  f1 : W.frozen? ⟨b, 1, none⟩ = false

theorem Box.below {B : Nat} {W W' : World} {b : Nat} {x y : Value} (h : Box W b x y) (hb : Below B W W') (hlt : b < B) : Box W' b x y :=
  ⟨(hb.cell (p := ⟨b, 0, none⟩) hlt).trans h.c0, (hb.cell (p := ⟨b, 1, none⟩) hlt).trans h.c1, (hb.frozen (p := ⟨b, 0, none⟩) hlt).trans h.f0, (hb.frozen (p := ⟨b, 1, none⟩) hlt).trans h.f1⟩
theorem Box.new (w : World) (x y : Value) (t : TypeId) : Box (w.alloc (.cells #[x, y] t)) w.heap.size x y := ⟨by simp, by simp, by simp, by simp⟩
theorem Box.lt {W : World} {b : Nat} {x y : Value} (h : Box W b x y) : b < W.heap.size := block_lt_of_cell h.c0
theorem Box.alloc {W : World} {b : Nat} {x y : Value} (h : Box W b x y) (o : Obj) : Box (W.alloc o) b x y := h.below ((Below.refl W.heap.size W).alloc (Nat.le_refl _) o) h.lt

set_option maxHeartbeats 1000000 in
theorem saneOrEmpty_any (B : Nat) (v : Value) (n : Int) (ws : List Nat) (w : World) (hv : SVB B w v n ws) (hBw : B ≤ w.heap.size) (hl : ws.length ≤ 30) :
    Calls Tryd.prog 71 #[v] w fun e w' => ∃ u, e = .returned u ∧ SVB B w' u (nrm n ws : Nat) (nrmW n ws) ∧ Below w.heap.size w w' := by
  obtain ⟨a, cap, rfl, hWd⟩ := hv
  have hW1 : Below w.heap.size w (w.alloc (.cells #[.int .i64 n, .slice a ws.length cap] 38)) := (Below.refl _ _).alloc (Nat.le_refl _) _
  have hW2 := hW1.alloc (by simp) (.cells #[.int .i64 0, .slice none 0 0] 38)
  have hsane := sane_any n a ws cap _ (((hWd.mono hBw).below hW2).mono hW2.size) hl
  have B1 := (Box.new w (.int .i64 n) (.slice a ws.length cap) 38).alloc (.cells #[.int .i64 0, .slice none 0 0] 38)
  have B2 := Box.new (w.alloc (.cells #[.int .i64 n, .slice a ws.length cap] 38)) (.int .i64 0) (.slice none 0 0) 38
  rw [World.size_alloc] at B2
  have z2 : ((w.alloc (.cells #[.int .i64 n, .slice a ws.length cap] 38)).alloc (.cells #[.int .i64 0, .slice none 0 0] 38)).heap.size = w.heap.size + 2 := by simp
  generalize hW : (w.alloc (.cells #[.int .i64 n, .slice a ws.length cap] 38)).alloc (.cells #[.int .i64 0, .slice none 0 0] 38) = W2 at *
  have HW2 := Lib.hid hW2
  have Z2 := Lib.hid z2
  cases hsn : saneB n ws with
  | true =>
    have hnn := hsn
    rw [hsn] at hsane
    simp only [nrm, nrmW, hsn, if_true]
    have HN : Hid (((n.toNat : Nat) : Int) = n) := by
      simp only [saneB, Bool.and_eq_true, decide_eq_true_eq] at hnn
      exact show ((n.toNat : Nat) : Int) = n by omega
    rw [HN.out]
    have HC := Lib.hid hsane
    have HWD := Lib.hid hWd
    have C1 := B1.c0
    have C2 := B1.c1
    clear hnn hsn hWd hsane hW1 hW2 z2
    go_enter Tryd.func71, Tryd.ntmps71
    go_wp2_with (go_at_call 42; refine HC.out.mono ?_; clear HC C1 C2; rintro e w1 ⟨rfl, hb⟩; have zz := Z2.out; obtain ⟨d0, d1, g0, g1⟩ := B1.below hb (by omega); obtain ⟨d2, d3, g2, g3⟩ := B2.below hb (by omega); have HB := Lib.hid hb; clear hb zz g0 g1)
    have hb : Below w.heap.size w w1 := HW2.out.trans (HB.out.mono HW2.out.size)
    have hb3 := (hb.setCell (p := ⟨w.heap.size + 1, 0, none⟩) (by simp) (.int .i64 n)).setCell (p := ⟨w.heap.size + 1, 1, none⟩) (by simp) (.slice a ws.length cap)
    exact bodyPost_ret (v := .agg #[.int .i64 n, .slice a ws.length cap]) (by simp [results, Tryd.results71, go_sem, d2, d3]) rfl
      ⟨_, rfl, ⟨a, cap, rfl, HWD.out.below (hb3.mono hBw)⟩, hb3⟩
  | false =>
    rw [hsn] at hsane
    have h1 : nrm n ws = 0 := by simp [nrm, hsn]
    have h2 : nrmW n ws = [] := by simp [nrmW, hsn]
    rw [h1, h2]
    have HC := Lib.hid hsane
    have C1 := B1.c0
    have C2 := B1.c1
    clear hsn hWd hsane hW1 hW2 z2 h1 h2
    go_enter Tryd.func71, Tryd.ntmps71
    go_wp2_with (go_at_call 42; refine HC.out.mono ?_; clear HC C1 C2; rintro e w1 ⟨rfl, hb⟩; have HB := Lib.hid hb; clear hb)
    refine (new_any 0 w1).mono ?_
    rintro e w2 ⟨g, rfl, hfr, hb2⟩
    have hb1 : Below w.heap.size w w1 := HW2.out.trans (HB.out.mono HW2.out.size)
    have hb : Below w.heap.size w w2 := hb1.trans (hb2.mono hb1.size)
    obtain ⟨d2, d3, g2, g3⟩ := (B2.below HB.out B2.lt).below hb2 (Nat.lt_of_lt_of_le B2.lt HB.out.size)
    have HBB := Lib.hid hb
    clear hb hb1 hb2 hfr
    go_wp2
    have hb3 := (HBB.out.setCell (p := ⟨w.heap.size + 1, 0, none⟩) (by simp) (.int .i64 0)).setCell (p := ⟨w.heap.size + 1, 1, none⟩) (by simp) (.slice (some ⟨g, 0, none⟩) 0 0)
    exact bodyPost_ret (v := .agg #[.int .i64 0, .slice (some ⟨g, 0, none⟩) 0 0]) (by simp [results, Tryd.results71, go_sem, d2, d3, clampN, wcount]) rfl
      ⟨_, rfl, ⟨_, _, rfl, Wd.nil _ _ _⟩, hb3⟩

set_option maxHeartbeats 1000000 in
theorem Has_any (v : Value) (n : Int) (ws : List Nat) (i : Int) (w : World) (hv : SV w v n ws) (hl : ws.length ≤ 30) (hB : WB ws) :
    Calls Tryd.prog 41 #[v, .int .i64 i] w fun e w' => e = .returned (.bool (hasB (nrm n ws) (nrmW n ws) i)) ∧ Below w.heap.size w w' := by
  have hv0 := hv
  obtain ⟨a, cap, rfl, hWd⟩ := hv
  have hW1 : Below w.heap.size w (w.alloc (.cells #[.int .i64 n, .slice a ws.length cap] 38)) := (Below.refl _ _).alloc (Nat.le_refl _) _
  have HS := Lib.hid (saneOrEmpty_any _ _ n ws _ (hv0.below hW1) (Nat.le_refl _) hl)
  have HO := Lib.hid (nrm_ok (n := n) hB)
  have HW1 := Lib.hid hW1
  clear hv0 hWd hW1
  go_enter Tryd.func41, Tryd.ntmps41
  go_wp2_with (go_at_call 71; refine HS.out.mono ?_; clear HS; rintro e w1 ⟨u, rfl, hsv, hb⟩)
  have ho := HO.out
  have hsv := hsv.sv hb.size
  obtain ⟨a', cap', rfl, hWd'⟩ := hsv
  have HB := Lib.hid hb
  have HH := Lib.hid (has_any (nrm n ws) a' (nrmW n ws) cap' i w1 hWd' ho.wb ho.le ho.len)
  clear hb hWd' ho
  go_wp2_with (go_at_call 73; refine HH.out.mono ?_; clear HH; rintro e w2 ⟨rfl, hb2⟩)
  have HB2 := Lib.hid hb2
  clear hb2
  go_wp2
  go_ret
  have hb1 := HW1.out.trans (HB.out.mono HW1.out.size)
  exact ⟨rfl, hb1.trans (HB2.out.mono hb1.size)⟩
end Go.Proofs.YtmcbedlmgffckaaDoor.Bi

namespace Go.Proofs.YtmcbedlmgffckaaDoor.Bi
open Go Go.RowKit Go.Sort

set_option maxHeartbeats 1000000 in
theorem Equal_any (a1 a2 : Option Addr) (w1 w2 : List Nat) (c1 c2 : Nat) (w : World) (h1 : Wd w.heap.size w a1 w1) (h2 : Wd w.heap.size w a2 w2) (hl1 : w1.length ≤ 16) :
    Calls Tryd.prog 85 #[.slice a1 w1.length c1, .slice a2 w2.length c2] w fun e w' => e = .returned (.bool (decide (w1 = w2))) ∧ Below w.heap.size w w' := by
  by_cases hl : w1.length = w2.length
  · have H1 := Lib.hid h1
    have H2 := Lib.hid h2
    obtain ⟨L, hL⟩ : ∃ L, w1.length = L := ⟨_, rfl⟩
    have hL2 : w2.length = L := by omega
    rw [hL] at hl1
    rw [hL, hL2]
    have HL := Lib.hid hL
    have HL2 := Lib.hid hL2
    have hb0 : ((L : Int) != (L : Int)) = false := by simp
    clear h1 h2 hl hL hL2
    go_enter Tryd.func85, Tryd.ntmps85
    go_wp2
    go_loopw [13] (fun i wr => ∃ k : Nat, k ≤ L ∧ i = .int .i64 k ∧ Hid (w1.take k = w2.take k) ∧ Below w.heap.size w wr) (fun i _ => L - (intOf i).toNat)
    case atStart => exact ⟨0, Nat.zero_le _, rfl, Lib.hid rfl, Below.refl _ _⟩
    case round =>
      obtain ⟨k, hk, rfl, hpre, hnx⟩ := hrel
      by_cases hlt : k < L
      · obtain ⟨b1, o1, rfl, hb1, e1⟩ := H1.out k (by rw [HL.out]; exact hlt)
        obtain ⟨b2, o2, rfl, hb2, e2⟩ := H2.out k (by rw [HL2.out]; exact hlt)
        have g1 := (hnx.cell (p := ⟨b1, o1 + k, none⟩) hb1).trans e1
        have g2 := (hnx.cell (p := ⟨b2, o2 + k, none⟩) hb2).trans e2
        obtain ⟨x, hx⟩ : ∃ x, w1[k]?.getD 0 = x := ⟨_, rfl⟩
        obtain ⟨y, hy⟩ : ∃ y, w2[k]?.getD 0 = y := ⟨_, rfl⟩
        rw [hx] at g1
        rw [hy] at g2
        have HX := Lib.hid hx
        have HY := Lib.hid hy
        have hki : (k : Int) < (L : Int) := by omega
        clear e1 e2 hx hy
        by_cases hxy : x = y
        · subst hxy
          have hbb : ((x : Int) != (x : Int)) = false := by simp
          go_wp2
          go_quiet (fail)
          go_wp2
          go_roundw
          case rel =>
            refine ⟨k + 1, by omega, by go_num, ?_, below_drewN hnx _⟩
            have i1 : k < w1.length := by rw [HL.out]; exact hlt
            have i2 : k < w2.length := by rw [HL2.out]; exact hlt
            have e1 := HX.out
            have e2 := HY.out
            simp only [i1, i2, List.getElem?_eq_getElem, Option.getD_some] at e1 e2
            show w1.take (k + 1) = w2.take (k + 1)
            rw [List.take_succ_eq_append_getElem i1, List.take_succ_eq_append_getElem i2, hpre.out, e1, e2]
          case measure => simp [intOf]; omega
        · have hbb : ((x : Int) != (y : Int)) = true := by rw [bne_iff_ne]; omega
          have HXY := Lib.hid hxy
          clear hxy
          go_wp2
          go_quiet (fail)
          go_wp2
          go_ret
          refine ⟨ret_bool ?_, below_drewN hnx _⟩
          rw [eq_comm, decide_eq_false_iff_not]
          intro he
          apply HXY.out
          rw [← HX.out, ← HY.out, he]
      · obtain rfl : k = L := by omega
        go_wp2
        go_ret
        refine ⟨ret_bool ?_, hnx⟩
        have := hpre.out
        rw [List.take_of_length_le (by rw [HL.out]; exact Nat.le_refl _), List.take_of_length_le (by rw [HL2.out]; exact Nat.le_refl _)] at this
        simp [this]
  · have hne : ¬ w1 = w2 := fun e => hl (by rw [e])
    have hb0 : ((w1.length : Int) != (w2.length : Int)) = true := by rw [bne_iff_ne]; omega
    have hd : decide (w1 = w2) = false := by simp [hne]
    rw [hd]
    clear h1 h2 hl hne hd
    go_enter Tryd.func85, Tryd.ntmps85
    go_wp2
    go_ret
    exact ⟨rfl, Below.refl _ _⟩

theorem Box.drew {W : World} {b : Nat} {x y : Value} (h : Box W b x y) : Box W.drew b x y := ⟨h.c0, h.c1, h.f0, h.f1⟩

theorem Box.put {W : World} {b : Nat} {x y : Value} (h : Box W b x y) (x' y' : Value) : Box ((W.setCell ⟨b, 0, none⟩ x').setCell ⟨b, 1, none⟩ y') b x' y' := by
  obtain ⟨c0, c1, f0, f1⟩ := h
  have k0 : (W.setCell ⟨b, 0, none⟩ x').cell? ⟨b, 0, none⟩ = some x' := World.cell?_setCell_same' _ _ _ (by rw [c0]; rfl)
  have k1 : (W.setCell ⟨b, 0, none⟩ x').cell? ⟨b, 1, none⟩ = some y := by rw [World.cell?_setCell_other _ _ _ _ (by simp)]; exact c1
  refine ⟨?_, World.cell?_setCell_same' _ _ _ (by rw [k1]; rfl), by rw [World.frozen?_setCell, World.frozen?_setCell]; exact f0, by rw [World.frozen?_setCell, World.frozen?_setCell]; exact f1⟩
  rw [World.cell?_setCell_other _ _ _ _ (by simp)]; exact k0

theorem Wd.back {B : Nat} {W W' : World} {a : Option Addr} {ws : List Nat} (h : Wd B W' a ws) (hb : Below B W W') : Wd B W a ws :=
  fun j hj => let ⟨b, o, e, hlt, hc⟩ := h j hj; ⟨b, o, e, hlt, (hb.cell (p := ⟨b, o + j, none⟩) hlt).symm.trans hc⟩

theorem heap_put2 (W : World) (b k : Nat) (x y : Value) (h : k ≠ b) : ((W.setCell ⟨b, 0, none⟩ x).setCell ⟨b, 1, none⟩ y).heap[k]? = W.heap[k]? := by
  rw [Below.heap_setCell _ _ _ _ (by simpa using h), Below.heap_setCell _ _ _ _ (by simpa using h)]

theorem below_put2 {B : Nat} {w W : World} (h : Below B w W) {b : Nat} (hb : B ≤ b) (x y : Value) : Below B w ((W.setCell ⟨b, 0, none⟩ x).setCell ⟨b, 1, none⟩ y) :=
  (h.setCell (p := ⟨b, 0, none⟩) hb x).setCell (p := ⟨b, 1, none⟩) hb y

theorem size_put2 (W : World) (b : Nat) (x y : Value) : ((W.setCell ⟨b, 0, none⟩ x).setCell ⟨b, 1, none⟩ y).heap.size = W.heap.size := by simp [World.setCell]

theorem Box.other {W : World} {b : Nat} {x y : Value} (h : Box W b x y) {b' : Nat} (hne : b ≠ b') (x' y' : Value) : Box ((W.setCell ⟨b', 0, none⟩ x').setCell ⟨b', 1, none⟩ y') b x y := by
  have e := heap_put2 W b' b x' y' hne
  exact ⟨(World.cell?_of_block (w := W) e).trans h.c0, (World.cell?_of_block (w := W) e).trans h.c1, (World.frozen?_of_block (w := W) e).trans h.f0, (World.frozen?_of_block (w := W) e).trans h.f1⟩

set_option maxHeartbeats 2000000 in
theorem Same_any (va vb : Value) (na nb : Int) (wa wb : List Nat) (w : World) (hva : SV w va na wa) (hvb : SV w vb nb wb) (hla : wa.length ≤ 30) (hlb : wb.length ≤ 30) (hBa : WB wa) (hBb : WB wb) :
    Calls Tryd.prog 43 #[va, vb] w fun e w' => e = .returned (.bool (decide (nrm na wa = nrm nb wb ∧ nrmW na wa = nrmW nb wb))) ∧ Below w.heap.size w w' := by
  have hva0 := hva
  have hvb0 := hvb
  obtain ⟨aa, capa, rfl, hWda⟩ := hva
  obtain ⟨ab, capb, rfl, hWdb⟩ := hvb
  have hW2 : Below w.heap.size w ((w.alloc (.cells #[.int .i64 na, .slice aa wa.length capa] 38)).alloc (.cells #[.int .i64 nb, .slice ab wb.length capb] 38)) := ((Below.refl _ _).alloc (Nat.le_refl _) _).alloc (by simp) _
  have HSb := Lib.hid (fun W (hW : Below w.heap.size w W) => saneOrEmpty_any w.heap.size _ nb wb W (SVB.below hvb0 hW) hW.size hlb)
  have HSa := Lib.hid (fun W (hW : Below w.heap.size w W) => saneOrEmpty_any w.heap.size _ na wa W (SVB.below hva0 hW) hW.size hla)
  have HOa := Lib.hid (nrm_ok (n := na) hBa)
  have HOb := Lib.hid (nrm_ok (n := nb) hBb)
  have BA := ((Box.new w (.int .i64 na) (.slice aa wa.length capa) 38).alloc (.cells #[.int .i64 nb, .slice ab wb.length capb] 38)).drew
  have BB := (Box.new (w.alloc (.cells #[.int .i64 na, .slice aa wa.length capa] 38)) (.int .i64 nb) (.slice ab wb.length capb) 38).drew
  have hz2 : ((w.alloc (.cells #[.int .i64 na, .slice aa wa.length capa] 38)).alloc (.cells #[.int .i64 nb, .slice ab wb.length capb] 38)).heap.size = w.heap.size + 2 := by simp
  simp only [World.size_alloc] at BB
  have HW2 := Lib.hid hW2.drew
  generalize hW : (w.alloc (.cells #[.int .i64 na, .slice aa wa.length capa] 38)).alloc (.cells #[.int .i64 nb, .slice ab wb.length capb] 38) = W2 at *
  clear hva0 hvb0 hWda hWdb hW2
  generalize nrm na wa = na' at *
  generalize nrmW na wa = wa' at *
  generalize nrm nb wb = nb' at *
  generalize nrmW nb wb = wb' at *
  obtain ⟨a0, a1, a2, a3⟩ := id BA
  obtain ⟨b0, b1, b2, b3⟩ := id BB
  go_enter Tryd.func43, Tryd.ntmps43
  go_upto_region 1 with fail
  go_cut [] (fun wx => ∃ aa' capa' ab' capb', Box wx w.heap.size (.int .i64 (na' : Int)) (.slice aa' wa'.length capa') ∧ Box wx (w.heap.size + 1) (.int .i64 (nb' : Int)) (.slice ab' wb'.length capb') ∧ Wd w.heap.size wx aa' wa' ∧ Wd w.heap.size wx ab' wb' ∧ Below w.heap.size w wx)
  case first =>
    go_region_with (first
      | (go_at_call_of 71 (Value.slice aa wa.length capa); refine (HSa.out _ HW2.out).mono ?_; clear HSa; rintro e w1 ⟨u, rfl, hsv, hb⟩; obtain ⟨aa', capa', rfl, hWda'⟩ := hsv; have hb1 := HW2.out.trans (hb.mono HW2.out.size); have BB1 := BB.below hb BB.lt; have BA1 := BA.below hb BA.lt; obtain ⟨b01, b11, b21, b31⟩ := id BB1; have HBW := Lib.hid hb1; clear hb hb1)
      | (go_at_call_of 71 (Value.slice ab wb.length capb); refine (HSb.out _ HBW.out).mono ?_; clear HSb; rintro e w2 ⟨u, rfl, hsv, hb⟩; obtain ⟨ab', capb', rfl, hWdb'⟩ := hsv; have hb2 := HBW.out.trans (hb.mono HBW.out.size); have BB2 := BB1.below hb BB1.lt; have BA2 := BA1.below hb BA1.lt; have hWda2 := hWda'.below (hb.mono HBW.out.size); obtain ⟨b02, b12, b22, b32⟩ := id BB2; obtain ⟨a02, a12, a22, a32⟩ := id BA2; have HBW2 := Lib.hid hb2; clear hb hb2))
    all_goals
      go_wp2_with fail
      go_meet
      have HP := (below_put2 (below_put2 (Below.refl w.heap.size w2) (b := w.heap.size) (Nat.le_refl _) (.int .i64 (na' : Int)) (.slice aa' wa'.length capa')) (b := w.heap.size + 1) (by omega) (.int .i64 (nb' : Int)) (.slice ab' wb'.length capb'))
      exact ⟨aa', capa', ab', capb', (BA2.put _ _).other (by omega) _ _, (BB2.other (by omega) _ _).put _ _, hWda2.below HP, hWdb'.below HP, HBW2.out.trans HP⟩
  case rest =>
    obtain ⟨aa', capa', ab', capb', ⟨x0, x1, _, _⟩, ⟨y0, y1, _, _⟩, hwa, hwb, hB⟩ := hcut
    have hEq := Lib.hid (Equal_any aa' ab' wa' wb' capa' capb' wc (hwa.mono hB.size) (hwb.mono hB.size) HOa.out.len16)
    have HB := Lib.hid hB
    clear hwa hwb hB BA BB hW HW2 HSa HSb a0 a1 a2 a3 b0 b1 b2 b3
    by_cases hn : na' = nb'
    · have hbb : ((na' : Int) == (nb' : Int)) = true := by rw [beq_iff_eq]; omega
      have HN := Lib.hid hn
      clear hn
      go_wp2_with fail
      refine hEq.out.mono ?_
      rintro e w3 ⟨rfl, hb3⟩
      have HB3 := Lib.hid hb3
      clear hb3
      go_wp2
      go_ret
      exact ⟨ret_bool (by simp [HN.out]), HB.out.trans (HB3.out.mono HB.out.size)⟩
    · have hbb : ((na' : Int) == (nb' : Int)) = false := by rw [beq_eq_false_iff_ne]; omega
      have HN := Lib.hid hn
      clear hn
      go_wp2
      go_ret
      exact ⟨ret_bool (by have := HN.out; simp [this]), HB.out⟩
end Go.Proofs.YtmcbedlmgffckaaDoor.Bi

namespace Go.Proofs.YtmcbedlmgffckaaDoor.Bi
open Go Go.RowKit Go.Sort

/-- Words with one number more. -/
def putW (n : Nat) (ws : List Nat) (i : Int) : List Nat :=
  if 0 ≤ i ∧ i < n then ws.set (i.toNat / 64) ((ws[i.toNat / 64]?.getD 0) ||| 2 ^ (i.toNat % 64)) else ws

theorem putW_length (n : Nat) (ws : List Nat) (i : Int) : (putW n ws i).length = ws.length := by unfold putW; split <;> simp

theorem or_lt_M64 {x y : Nat} (hx : x < M64) (hy : y < M64) : x ||| y < M64 := by
  have e : M64 = 2 ^ 64 := rfl
  rw [e] at *
  exact Nat.or_lt_two_pow hx hy

theorem or_word (x k : Nat) (hx : x < M64) (hk : k < 64) : bits .or .u64 (x : Int) ((2 ^ k : Nat) : Int) = ((x ||| 2 ^ k : Nat) : Int) := by
  have h2 : 2 ^ k < 2 ^ 64 := Nat.pow_lt_pow_right (by decide) hk
  have h3 : (2 : Nat) ^ 64 = 18446744073709551616 := rfl
  rw [u64_or_nat x (2 ^ k) hx (by omega)]


theorem digit_at (n : Int) (D : Nat) (w : World) (h0 : 0 ≤ n) (h1 : n < 1024) (hD : Hid (2 ^ (n.toNat % 64) = D)) :
    Calls Tryd.prog 97 #[.int .i64 n] w fun e w' => e = .returned (.int .u64 (D : Int)) ∧ w = w' :=
  (digit_any n w h0 h1).mono fun _ _ ⟨he, hw⟩ => ⟨by rw [he, hD.out], hw.symm⟩

theorem grownBy_set {w w1 : World} (h : Below w.heap.size w w1) (g j : Nat) (v : Value) : w.grownBy (w1.setCell ⟨g, j, none⟩ v).drew (some g) :=
  ⟨h.os, h.tape, h.output, by have := h.size; simpa [World.setCell, World.drew] using this, fun k hk hne => (Below.heap_setCell w1 ⟨g, j, none⟩ v k (fun e => hne (by rw [e]))).trans (h.block k hk)⟩

theorem grownBy_of_below {w w1 : World} (h : Below w.heap.size w w1) (row : Option Nat) : w.grownBy w1 row :=
  ⟨h.os, h.tape, h.output, h.size, fun k hk _ => h.block k hk⟩

set_option maxRecDepth 100000 in
set_option maxHeartbeats 1000000 in
/-- put writes into words of its own. -/
theorem put_any (n0 n g cap : Nat) (ws : List Nat) (i : Int) (w : World) (hF : Fresh n0 w g ws) (hn : n ≤ 1024) (hl : ws.length = wcount n) (hB : WB ws) :
    Calls Tryd.prog 84 #[.agg #[.int .i64 (n : Int), .slice (some ⟨g, 0, none⟩) ws.length cap], .int .i64 i] w fun e w' => (∃ v, e = .returned v) ∧ Fresh n0 w' g (putW n ws i) ∧ w.grownBy w' (some g) := by
  obtain ⟨L, hL⟩ : ∃ L, ws.length = L := ⟨_, rfl⟩
  rw [hL]
  have hW1 : Below w.heap.size w (w.alloc (.cells #[.int .i64 (n : Int), .slice (some ⟨g, 0, none⟩) L cap] 38)) := (Below.refl _ _).alloc (Nat.le_refl _) _
  have BX := Box.new w (.int .i64 (n : Int)) (.slice (some ⟨g, 0, none⟩) L cap) 38
  generalize hW : w.alloc (.cells #[.int .i64 (n : Int), .slice (some ⟨g, 0, none⟩) L cap] 38) = W1 at *
  have HFi := Lib.hid (fits_any (n : Int) i (some ⟨g, 0, none⟩) L cap W1)
  obtain ⟨x0, x1, _, _⟩ := id BX
  by_cases hin : 0 ≤ i ∧ i < n
  · obtain ⟨j, rfl⟩ := Int.eq_ofNat_of_zero_le hin.1
    have hjn : j < n := by omega
    have hq : j / 64 < L := by rw [← hL, hl]; unfold wcount; omega
    have hres : putW n ws j = ws.set (j / 64) ((ws[j / 64]?.getD 0) ||| 2 ^ (j % 64)) := by simp [putW, hjn]
    rw [hres]
    have hx := hB.at (j / 64)
    have hcell := hF.cellAt (j := j / 64) (by rw [hL]; exact hq)
    have hfr := hF.frozenAt (j / 64)
    have hg := hF.lt
    obtain ⟨x, hxx⟩ : ∃ x, ws[j / 64]?.getD 0 = x := ⟨_, rfl⟩
    rw [hxx] at hcell hx ⊢
    have hor := or_word x (j % 64) hx (Nat.mod_lt _ (by decide))
    obtain ⟨D, hD⟩ : ∃ D : Nat, 2 ^ (j % 64) = D := ⟨_, rfl⟩
    rw [hD] at hor ⊢
    obtain ⟨z, hz⟩ : ∃ z, x ||| D = z := ⟨_, rfl⟩
    rw [hz] at hor ⊢
    have hD' : Hid (2 ^ (Int.toNat (j : Int) % 64) = D) := hD
    have hdec : decide (0 ≤ (j : Int) ∧ (j : Int) < (n : Int)) = true := by simp; omega
    rw [hdec] at HFi
    have HF := Lib.hid hF
    have HW1 := Lib.hid hW1
    have g1 : (0 : Int) ≤ (j : Int) / 64 := by omega
    have g2 : (j : Int) / 64 < (L : Int) := by omega
    have g3 : ((j : Int) / 64).toNat = j / 64 := by omega
    have g4 : (0 : Int) ≤ (j : Int) := by omega
    have g5 : (j : Int) < 1024 := by omega
    have hLl : L ≤ 16 := by rw [← hL, hl]; exact wcount_le hn
    clear hF hL hl hB hin hres hxx hD hz hdec hjn hq hx hn
    go_enter Tryd.func84, Tryd.ntmps84
    go_wp2_with fail
    refine HFi.out.mono ?_
    clear HFi
    rintro e w1 ⟨rfl, hb⟩
    have hc1 := (hb.cell (p := ⟨g, j / 64, none⟩) (Nat.lt_of_lt_of_le hg HW1.out.size)).trans ((HW1.out.cell (p := ⟨g, j / 64, none⟩) hg).trans hcell)
    have hf1 := (hb.frozen (p := ⟨g, j / 64, none⟩) (Nat.lt_of_lt_of_le hg HW1.out.size)).trans ((HW1.out.frozen (p := ⟨g, j / 64, none⟩) hg).trans hfr)
    obtain ⟨y0, y1, _, _⟩ := BX.below hb BX.lt
    have HB := Lib.hid hb
    clear hb hcell hfr x0 x1 hW hW1 BX
    go_wp2_with fail
    have q1 : IntKind.i64.wrap ((j : Int) / 64) = (j : Int) / 64 := by rw [IntKind.wrap_i64]; omega
    go_region_with (go_at_call 97; refine (digit_at _ D _ g4 g5 hD').mono ?_; rintro e w' ⟨rfl, rfl⟩)
    all_goals
      go_wp2_with fail
      go_end0
      have hb1 : Below w.heap.size w w1 := HW1.out.trans (HB.out.mono HW1.out.size)
      exact ⟨⟨_, rfl⟩, (HF.out.below hb1 hg).set _ _, grownBy_set hb1 g _ _⟩
  · have hres : putW n ws i = ws := by simp [putW, hin]
    rw [hres]
    have hdec : decide (0 ≤ i ∧ i < (n : Int)) = false := by simp [hin]
    rw [hdec] at HFi
    have HF := Lib.hid hF
    have HW1 := Lib.hid hW1
    clear hF hL hl hB hin hres hdec
    go_enter Tryd.func84, Tryd.ntmps84
    go_wp2_with fail
    refine HFi.out.mono ?_
    clear HFi
    rintro e w1 ⟨rfl, hb⟩
    have HB := Lib.hid hb
    clear hb
    go_wp2
    go_end0
    have hb1 : Below w.heap.size w w1 := HW1.out.trans (HB.out.mono HW1.out.size)
    exact ⟨⟨_, rfl⟩, HF.out.below hb1 HF.out.lt, grownBy_of_below hb1 _⟩
end Go.Proofs.YtmcbedlmgffckaaDoor.Bi

namespace Go.Proofs.YtmcbedlmgffckaaDoor.Bi
open Go Go.RowKit Go.Sort

/-- A slice's numbers, read in a world, in blocks below B. -/
def Is (B : Nat) (W : World) (a : Option Addr) (l : List Int) : Prop :=
  ∀ j, j < l.length → ∃ b o, a = some ⟨b, o, none⟩ ∧ b < B ∧ W.cell? ⟨b, o + j, none⟩ = some (.int .i64 (l[j]?.getD 0))

theorem Is.below {B : Nat} {W W' : World} {a : Option Addr} {l : List Int} (h : Is B W a l) (hb : Below B W W') : Is B W' a l :=
  fun j hj => let ⟨b, o, e, hlt, hc⟩ := h j hj; ⟨b, o, e, hlt, (hb.cell (p := ⟨b, o + j, none⟩) hlt).trans hc⟩
theorem Is.mono {B B' : Nat} {W : World} {a : Option Addr} {l : List Int} (h : Is B W a l) (hb : B ≤ B') : Is B' W a l :=
  fun j hj => let ⟨b, o, e, hlt, hc⟩ := h j hj; ⟨b, o, e, Nat.lt_of_lt_of_le hlt hb, hc⟩

/-- The words of a set of c with each of l that may be. -/
def ofW (c : Nat) (l : List Int) : List Nat := l.foldl (putW c) (List.replicate (wcount c) 0)

theorem ofW_snoc (c : Nat) (l : List Int) (i : Int) : ofW c (l ++ [i]) = putW c (ofW c l) i := by simp [ofW]

theorem putW_wb {n : Nat} {ws : List Nat} (h : WB ws) (i : Int) : WB (putW n ws i) := by
  unfold putW
  split
  · intro x hx
    rcases List.mem_or_eq_of_mem_set hx with hx | rfl
    · exact h x hx
    · refine or_lt_M64 (h.at _) ?_
      have h1 : 2 ^ (i.toNat % 64) < 2 ^ 64 := Nat.pow_lt_pow_right (by decide) (Nat.mod_lt _ (by decide))
      exact h1
  · exact h

theorem foldl_put_length (c : Nat) (l : List Int) : ∀ ws, (l.foldl (putW c) ws).length = ws.length := by
  induction l with
  | nil => intro ws; rfl
  | cons i r ih => intro ws; rw [List.foldl_cons, ih, putW_length]
theorem foldl_put_wb (c : Nat) (l : List Int) : ∀ ws, WB ws → WB (l.foldl (putW c) ws) := by
  induction l with
  | nil => intro ws h; exact h
  | cons i r ih => intro ws h; exact ih _ (putW_wb h i)
theorem ofW_length (c : Nat) (l : List Int) : (ofW c l).length = wcount c := by unfold ofW; rw [foldl_put_length]; simp
theorem ofW_wb (c : Nat) (l : List Int) : WB (ofW c l) := foldl_put_wb c l _ (fun x hx => by rw [List.eq_of_mem_replicate hx]; decide)

theorem Box.grown {W W' : World} {b : Nat} {x y : Value} {row : Option Nat} (h : Box W b x y) (hg : W.grownBy W' row) (hne : some b ≠ row) : Box W' b x y := by
  have e := hg.block b h.lt hne
  exact ⟨(World.cell?_of_block (w := W) e).trans h.c0, (World.cell?_of_block (w := W) e).trans h.c1, (World.frozen?_of_block (w := W) e).trans h.f0, (World.frozen?_of_block (w := W) e).trans h.f1⟩

theorem Below.grownBy {B g : Nat} {w W W' : World} (h : Below B w W) (hg : W.grownBy W' (some g)) (hB : B ≤ W.heap.size) (hge : B ≤ g) : Below B w W' :=
  h.grown hg hB (fun k e => by cases e; exact hge)

set_option maxRecDepth 100000 in
set_option maxHeartbeats 2000000 in
theorem Of_any (n : Int) (a : Option Addr) (l : List Int) (cap : Nat) (w : World) (hIs : Is w.heap.size w a l) (hl : l.length ≤ 2000) :
    Calls Tryd.prog 40 #[.int .i64 n, .slice a l.length cap] w fun e w' => ∃ g, e = .returned (.agg #[.int .i64 (clampN n : Nat), .slice (some ⟨g, 0, none⟩) (wcount (clampN n)) (wcount (clampN n))]) ∧
      Fresh w.heap.size w' g (ofW (clampN n) l) ∧ Below w.heap.size w w' := by
  have hW1 : Below w.heap.size w (w.alloc (.cells #[.int .i64 0, .slice none 0 0] 38)) := (Below.refl _ _).alloc (Nat.le_refl _) _
  have BR := Box.new w (.int .i64 0) (.slice none 0 0) 38
  have hs1 : (w.alloc (.cells #[.int .i64 0, .slice none 0 0] 38)).heap.size = w.heap.size + 1 := by simp
  generalize hW : w.alloc (.cells #[.int .i64 0, .slice none 0 0] 38) = W1 at *
  have HN := Lib.hid (new_any n W1)
  have hcl := clampN_le n
  generalize clampN n = c at *
  obtain ⟨k, hk⟩ : ∃ k, wcount c = k := ⟨_, rfl⟩
  rw [hk] at HN ⊢
  have HK := Lib.hid hk
  have HIs := Lib.hid hIs
  obtain ⟨L, hL⟩ : ∃ L, l.length = L := ⟨_, rfl⟩
  rw [hL] at hl ⊢
  have HL := Lib.hid hL
  have HW1 := Lib.hid hW1
  clear hIs hL hk hW1
  go_enter Tryd.func40, Tryd.ntmps40
  go_wp2_with fail
  refine HN.out.mono ?_
  clear HN
  rintro e w1 ⟨g, rfl, hF, hb⟩
  have BR1 := BR.below hb BR.lt
  have hgl := hF.lt
  have hg1 := hF.1
  have HF := Lib.hid hF
  have HB := Lib.hid hb
  clear hF hb hW BR
  go_wp2_with fail
  have hb1 : Below w.heap.size w w1 := HW1.out.trans (HB.out.mono HW1.out.size)
  have BX := Box.new w1 (.int .i64 (c : Int)) (.slice (some ⟨g, 0, none⟩) k k) 38
  have BR2 := BR1.alloc (.cells #[.int .i64 (c : Int), .slice (some ⟨g, 0, none⟩) k k] 38)
  have hb2 := hb1.alloc hb1.size (.cells #[.int .i64 (c : Int), .slice (some ⟨g, 0, none⟩) k k] 38)
  have hF2 : Fresh w.heap.size (w1.alloc (.cells #[.int .i64 (c : Int), .slice (some ⟨g, 0, none⟩) k k] 38)) g (ofW c []) := by
    have h1 := HF.out.below ((Below.refl w1.heap.size w1).alloc (Nat.le_refl _) (.cells #[.int .i64 (c : Int), .slice (some ⟨g, 0, none⟩) k k] 38)) hgl
    have e : ofW c [] = List.replicate k 0 := by simp [ofW, HK.out]
    rw [e]
    exact h1.base (by omega)
  obtain ⟨b5, hb5⟩ : ∃ b5, w1.heap.size = b5 := ⟨_, rfl⟩
  rw [hb5] at BX ⊢
  rw [hb5] at hgl
  have HB5 := Lib.hid hb5
  clear hb5 BR1 hb1
  generalize w1.alloc (.cells #[.int .i64 (c : Int), .slice (some ⟨g, 0, none⟩) k k] 38) = W2 at *
  go_loopw [12] (fun i wr => ∃ q : Nat, q ≤ L ∧ i = .int .i64 q ∧ Hid (Fresh w.heap.size wr g (ofW c (l.take q))) ∧ Hid (Box wr b5 (.int .i64 (c : Int)) (.slice (some ⟨g, 0, none⟩) k k)) ∧ Hid (Box wr w.heap.size (.int .i64 0) (.slice none 0 0)) ∧ Hid (Below w.heap.size w wr)) (fun i _ => L - (intOf i).toNat)
  case atStart => exact ⟨0, Nat.zero_le _, rfl, hF2, BX, BR2, hb2⟩
  case round =>
    clear hF2 BX BR2 hb2
    obtain ⟨q, hq, rfl, hF, hBX, hBR, hB⟩ := hrel
    by_cases hlt : q < L
    · obtain ⟨b, o, rfl, hbl, hcell⟩ := HIs.out q (by rw [HL.out]; exact hlt)
      have hcx := (hB.out.cell (p := ⟨b, o + q, none⟩) hbl).trans hcell
      obtain ⟨x, hx⟩ : ∃ x, l[q]?.getD 0 = x := ⟨_, rfl⟩
      rw [hx] at hcx
      have HX : Hid (l.take (q + 1) = l.take q ++ [x]) := by
        have hi : q < l.length := by rw [HL.out]; exact hlt
        have e : l.take (q + 1) = l.take q ++ [l[q]] := List.take_succ_eq_append_getElem hi
        rw [Hid, e, ← hx]
        simp [hi]
      have hlw : (ofW c (l.take q)).length = k := by rw [ofW_length]; exact HK.out
      have HP := Lib.hid (put_any w.heap.size c g k (ofW c (l.take q)) x wr hF.out hcl (ofW_length _ _) (ofW_wb _ _))
      rw [hlw] at HP
      obtain ⟨x0, x1, _, _⟩ := hBX.out
      have hqi : (q : Int) < (L : Int) := by omega
      clear hcell hx hlw
      go_wp2_with fail
      refine HP.out.mono ?_
      clear HP
      rintro e w3 ⟨⟨v, rfl⟩, hF3, hg3⟩
      have hBX3 := hBX.out.grown hg3 (by simp; omega)
      have hBR3 := hBR.out.grown hg3 (by simp; omega)
      have hB3 := Below.grownBy hB.out hg3 hB.out.size hF.out.1
      have H3 := Lib.hid hF3
      have H4 := Lib.hid hBX3
      have H5 := Lib.hid hBR3
      have H6 := Lib.hid hB3
      clear hF3 hBX3 hBR3 hB3 hg3 x0 x1 hcx
      go_wp2
      go_roundw
      case rel => exact ⟨q + 1, by omega, by go_num, by rw [HX.out, ofW_snoc]; exact H3, H4, H5, H6⟩
      case measure => simp [intOf]; omega
    · obtain rfl : q = L := by omega
      have hF' := hF.out
      rw [List.take_of_length_le (by rw [HL.out]; exact Nat.le_refl _)] at hF'
      have HF' := Lib.hid hF'
      obtain ⟨x0, x1, _, _⟩ := hBX.out
      obtain ⟨y0, y1, f0, f1⟩ := hBR.out
      clear hF hF'
      go_wp2
      have hput := below_put2 hB.out (b := w.heap.size) (Nat.le_refl _) (.int .i64 (c : Int)) (.slice (some ⟨g, 0, none⟩) k k)
      refine bodyPost_ret (v := .agg #[.int .i64 (c : Int), .slice (some ⟨g, 0, none⟩) k k]) (by simp [results, Tryd.results40, go_sem, y0, y1]) rfl ⟨g, rfl, HF'.out.block (heap_put2 _ _ _ _ _ (by omega)), hput⟩
end Go.Proofs.YtmcbedlmgffckaaDoor.Bi

namespace Go.Proofs.YtmcbedlmgffckaaDoor.Bi

theorem M64_pow : M64 = 2 ^ 64 := rfl

theorem ctz_lt {x : Nat} (h0 : x ≠ 0) (hx : x < M64) : Lib.ctz 64 x < 64 := (Lib.lowest_bit 64 x h0 (by rw [← M64_pow]; exact hx)).2

/-- x = 2^c (2m + 1), c the number of trailing zeros. -/
theorem ctz_form {x : Nat} (h0 : x ≠ 0) (hx : x < M64) : ∃ m, x = 2 ^ Lib.ctz 64 x * (2 * m + 1) := by
  obtain ⟨m, hm, _⟩ := Lib.ctzFrom_spec 64 x (by omega) (by rw [← M64_pow]; exact hx)
  have e : Lib.ctz 64 x = Lib.ctzFrom 64 x := by simp [Lib.ctz, h0]
  exact ⟨m, by rw [e]; exact hm⟩

theorem ctz_set {x : Nat} (h0 : x ≠ 0) (hx : x < M64) : x.testBit (Lib.ctz 64 x) = true := by
  obtain ⟨m, hm⟩ := ctz_form h0 hx
  generalize Lib.ctz 64 x = c at hm
  subst hm
  rw [Nat.mul_comm, Nat.testBit_mul_two_pow]
  simp [Nat.testBit_zero]

theorem ctz_below {x : Nat} (h0 : x ≠ 0) (hx : x < M64) {i : Nat} (hi : i < Lib.ctz 64 x) : x.testBit i = false := by
  obtain ⟨m, hm⟩ := ctz_form h0 hx
  generalize Lib.ctz 64 x = c at hm hi
  subst hm
  rw [Nat.mul_comm, Nat.testBit_mul_two_pow]
  simp; omega

/-- x & (x - 1) is x without its lowest digit. -/
theorem and_pred {x : Nat} (h0 : x ≠ 0) (hx : x < M64) : x &&& (x - 1) = x - 2 ^ Lib.ctz 64 x := by
  obtain ⟨m, hm⟩ := ctz_form h0 hx
  generalize Lib.ctz 64 x = c at hm
  have hp : 0 < 2 ^ c := Nat.two_pow_pos c
  have e0 : x = 2 ^ (c + 1) * m + 2 ^ c := by rw [hm, Nat.pow_succ, Nat.mul_add, Nat.mul_one, Nat.mul_assoc]
  have e1 : x - 1 = 2 ^ (c + 1) * m + (2 ^ c - 1) := by omega
  have e2 : x - 2 ^ c = 2 ^ (c + 1) * m := by omega
  rw [e2, e1]
  conv => lhs; arg 1; rw [e0]
  apply Nat.eq_of_testBit_eq
  intro i
  have l1 : 2 ^ c < 2 ^ (c + 1) := Nat.pow_lt_pow_right (by decide) (by omega)
  rw [Nat.testBit_and, Nat.testBit_two_pow_mul_add m l1, Nat.testBit_two_pow_mul_add m (by omega : 2 ^ c - 1 < 2 ^ (c + 1)), Nat.testBit_two_pow_mul]
  by_cases hi : i < c + 1
  · simp only [hi, if_true]
    rw [Nat.testBit_two_pow, Nat.testBit_two_pow_sub_one]
    by_cases h : c = i
    · subst h; simp; omega
    · have : ¬ (i ≥ c + 1) := by omega
      simp [h, this]
  · have : i ≥ c + 1 := by omega
    simp [hi, this]

theorem and_pred_lt {x : Nat} (h0 : x ≠ 0) : x &&& (x - 1) < x := by
  have := Nat.and_le_right (n := x) (m := x - 1)
  omega

theorem testBit_and_pred {x : Nat} (h0 : x ≠ 0) (hx : x < M64) (i : Nat) : (x &&& (x - 1)).testBit i = (x.testBit i && decide (i ≠ Lib.ctz 64 x)) := by
  have hset := ctz_set h0 hx
  rw [and_pred h0 hx]
  obtain ⟨m, hm⟩ := ctz_form h0 hx
  generalize Lib.ctz 64 x = c at hm hset
  have hp : 0 < 2 ^ c := Nat.two_pow_pos c
  have e0 : x = 2 ^ (c + 1) * m + 2 ^ c := by rw [hm, Nat.pow_succ, Nat.mul_add, Nat.mul_one, Nat.mul_assoc]
  have e2 : x - 2 ^ c = 2 ^ (c + 1) * m := by omega
  have l1 : 2 ^ c < 2 ^ (c + 1) := Nat.pow_lt_pow_right (by decide) (by omega)
  rw [e2]
  conv => rhs; rw [e0]
  rw [Nat.testBit_two_pow_mul_add m l1, Nat.testBit_two_pow_mul]
  by_cases hi : i < c + 1
  · have : ¬ (i ≥ c + 1) := by omega
    simp only [hi, if_true, this]
    rw [Nat.testBit_two_pow]
    by_cases h : c = i
    · simp [h]
    · simp [h]
  · have : i ≥ c + 1 := by omega
    have h2 : i ≠ c := by omega
    simp [hi, this, h2]

/-- The numbers in a word, rising. -/
def wnums (x : Nat) : List Nat := (List.range 64).filter (fun i => x.testBit i)

theorem wnums_zero : wnums 0 = [] := by simp [wnums]

theorem range_split {c n : Nat} (h : c < n) : List.range n = List.range c ++ c :: (List.range (n - c - 1)).map (· + (c + 1)) := by
  apply List.ext_getElem
  · simp; omega
  · intro i h1 h2
    simp at h1
    simp only [List.getElem_range, List.getElem_append, List.length_range, List.getElem_cons, List.getElem_map]
    split
    · rfl
    · split <;> omega

theorem wnums_step {x : Nat} (h0 : x ≠ 0) (hx : x < M64) : wnums x = Lib.ctz 64 x :: wnums (x &&& (x - 1)) := by
  have hc := ctz_lt h0 hx
  have hset := ctz_set h0 hx
  have hbel : ∀ i, i < Lib.ctz 64 x → x.testBit i = false := fun i hi => ctz_below h0 hx hi
  have htb := testBit_and_pred h0 hx
  generalize Lib.ctz 64 x = c at *
  unfold wnums
  rw [range_split hc, List.filter_append, List.filter_append, List.filter_cons, List.filter_cons]
  have f1 : (List.range c).filter (fun i => x.testBit i) = [] := by
    rw [List.filter_eq_nil_iff]; intro i hi; simp [hbel i (List.mem_range.1 hi)]
  have f2 : (List.range c).filter (fun i => (x &&& (x - 1)).testBit i) = [] := by
    rw [List.filter_eq_nil_iff]; intro i hi; simp [htb, hbel i (List.mem_range.1 hi)]
  have f3 : (x &&& (x - 1)).testBit c = false := by simp [htb]
  rw [f1, f2, hset, f3]
  simp only [if_true, Bool.false_eq_true, if_false, List.nil_append]
  congr 1
  apply List.filter_congr
  intro i hi
  obtain ⟨j, _, rfl⟩ := List.mem_map.1 hi
  rw [htb]
  have : j + (c + 1) ≠ c := by omega
  simp [this]

/-- The numbers in words, the first of which is the word number k. -/
def numsFrom : Nat → List Nat → List Nat
  | _, [] => []
  | k, x :: r => (wnums x).map (fun i => k * 64 + i) ++ numsFrom (k + 1) r

/-- The numbers of a set. -/
def nums (ws : List Nat) : List Nat := numsFrom 0 ws

theorem numsFrom_drop {ws : List Nat} {k : Nat} (h : k < ws.length) : numsFrom k (ws.drop k) = (wnums (ws[k]?.getD 0)).map (fun i => k * 64 + i) ++ numsFrom (k + 1) (ws.drop (k + 1)) := by
  rw [List.drop_eq_getElem_cons h]
  simp [numsFrom, h]

end Go.Proofs.YtmcbedlmgffckaaDoor.Bi

namespace Go.Proofs.YtmcbedlmgffckaaDoor.Bi
open Go Go.RowKit Go.Sort

/-- The table that TrailingZeros64 reads lies where it was laid. -/
def Tab (W : World) : Prop := 1 < W.heap.size ∧ ∀ j, j < 64 → W.cell? ⟨1, j, none⟩ = some (.int .u8 ((Lib.deBruijn64tab.getD j 0 : Nat) : Int))

theorem Tab.below {W W' : World} (h : Tab W) (hb : Below W.heap.size W W') : Tab W' :=
  ⟨Nat.lt_of_lt_of_le h.1 hb.size, fun j hj => (hb.cell (p := ⟨1, j, none⟩) h.1).trans (h.2 j hj)⟩

theorem tz_core (X n1 a1 p1 i1 : Nat) (r : Nat) (w : World) (h0 : ((X : Int) == 0) = false)
    (e1 : IntKind.u64.wrap (-(X : Int)) = (n1 : Int)) (e2 : bits .and .u64 (X : Int) (n1 : Int) = (a1 : Int)) (e3 : IntKind.u64.wrap ((a1 : Int) * 285870213051353865) = (p1 : Int)) (e4 : (p1 : Int) / 288230376151711744 = (i1 : Int)) (hi : i1 < 64)
    (hc : w.cell? ⟨1, i1, none⟩ = some (.int .u8 (r : Int))) (hr : r < 64) :
    Calls Tryd.prog 106 #[.int .u64 (X : Int)] w fun e w' => e = .returned (.int .i64 (r : Int)) ∧ w = w' := by
  go_enter Tryd.func106, Tryd.ntmps106
  go_wp2
  go_ret
  exact ⟨rfl, rfl⟩

theorem tz_any (x : Nat) (w : World) (h0 : x ≠ 0) (hx : x < M64) (hT : Tab w) :
    Calls Tryd.prog 106 #[.int .u64 (x : Int)] w fun e w' => e = .returned (.int .i64 (Lib.ctz 64 x : Nat)) ∧ w = w' := by
  have hx' : x < 18446744073709551616 := hx
  obtain ⟨hl, hc⟩ := Lib.lowest_bit 64 x h0 hx
  obtain ⟨ht1, ht2⟩ := Lib.deBruijn64_at (Lib.ctz 64 x) hc
  have hp : 2 ^ Lib.ctz 64 x < 18446744073709551616 := Nat.pow_lt_pow_right (by decide) hc
  refine tz_core x (18446744073709551616 - x) (2 ^ Lib.ctz 64 x) (2 ^ Lib.ctz 64 x * 285870213051353865 % 18446744073709551616) _ _ w ?_ ?_ ?_ ?_ rfl ht1 ?_ hc
  · simpa using h0
  · rw [IntKind.wrap_u64]; omega
  · rw [u64_and_nat x _ hx' (by omega)]
    have : (2 : Nat) ^ 64 = 18446744073709551616 := rfl
    rw [this] at hl
    rw [hl]
  · rw [IntKind.wrap_u64]
    generalize 2 ^ Lib.ctz 64 x = P
    omega
  · have := hT.2 _ ht1
    rw [ht2] at this
    exact this
end Go.Proofs.YtmcbedlmgffckaaDoor.Bi

namespace Go.Proofs.YtmcbedlmgffckaaDoor.Bi
open Go Go.RowKit Go.Sort Go.Shelf

attribute [local go_sem] Oper.semAt_some

/-- What has been told, and what is left: the word y of the word number k, and the words behind it. -/
def Left (ws : List Nat) (k y : Nat) (pre : List Nat) : Prop := nums ws = pre ++ ((wnums y).map (fun i => k * 64 + i) ++ numsFrom (k + 1) (ws.drop (k + 1)))

theorem Left.next {ws : List Nat} {k y : Nat} {pre : List Nat} (h : Left ws k y pre) (h0 : y ≠ 0) (hy : y < M64) : Left ws k (y &&& (y - 1)) (pre ++ [k * 64 + Lib.ctz 64 y]) := by
  unfold Left at *
  rw [h, wnums_step h0 hy]
  simp

theorem Left.lt {ws : List Nat} {k y : Nat} {pre : List Nat} (h : Left ws k y pre) (h0 : y ≠ 0) (hy : y < M64) : pre.length < (nums ws).length := by
  unfold Left at h
  rw [h, wnums_step h0 hy]
  simp

set_option maxRecDepth 100000 in
set_option maxHeartbeats 2000000 in
theorem numbers1_in (n : Nat) (hn : 1 ≤ n) (l Bs n₀ b off cap : Nat) (N : Int) (ws : List Nat) (hl : ws.length ≤ 16) (hWB : WB ws) (hb : b < n₀) (hn0 : 1 < n₀) (J Jx : List Nat → World → Prop)
    (hY : ∀ pre x W, J pre W → pre.length < (nums ws).length → YieldAt Fence.wide (n - 1) Tryd.prog l #[.int .i64 ((x : Nat) : Int)] W fun e W' =>
      (e = .returned (.bool true) ∧ J (pre ++ [x]) W' ∧ Below n₀ W W') ∨ (e = .returned (.bool false) ∧ Jx (pre ++ [x]) W'))
    (W : World) (_hBs : W.cell? ⟨Bs, 0, none⟩ = some (.int .i64 N)) (hBs1 : W.cell? ⟨Bs, 1, none⟩ = some (.slice (some ⟨b, off, none⟩) ws.length cap)) (hT : Tab W)
    (hc : ∀ j, j < ws.length → W.cell? ⟨b, off + j, none⟩ = some (.int .u64 ((ws[j]?.getD 0 : Nat) : Int))) (h0 : J [] W) :
    CallsIn Fence.wide n Tryd.prog 105 #[.func (.yield l) #[] #[], .pointer (some ⟨Bs, 0, none⟩)] W fun e W' => (∃ v, e = .returned v) ∧
      ((∃ ys, ys = nums ws ∧ J ys W') ∨ (∃ pre, pre <+: nums ws ∧ Jx pre W')) := by
  refine callsIn_of_wp Tryd.func105 rfl trivial ?_ rfl
  simp only [Tryd.ntmps105, List.size_toArray, List.length_cons, List.length_nil, Nat.reduceAdd, Nat.reduceSub, Array.replicate_succ, Array.replicate_zero, List.push_toArray, List.append_toArray, List.nil_append, List.cons_append]
  obtain ⟨L, hL⟩ : ∃ L, ws.length = L := ⟨_, rfl⟩
  rw [hL] at hBs1 hl hc
  have HL := Lib.hid hL
  have HC := Lib.hid hc
  have HY := Lib.hid hY
  have HT := Lib.hid hT
  clear hL hc hY hT
  gi_wp2
  gi_loopw [8] (fun i wr => ∃ k : Nat, k ≤ L ∧ i = .int .i64 k ∧ ∃ pre, Hid (nums ws = pre ++ numsFrom k (ws.drop k)) ∧ J pre wr ∧ Below n₀ W wr)
    (fun i _ => L - (intOf i).toNat)
  case atStart => exact ⟨0, Nat.zero_le _, rfl, [], Lib.hid rfl, h0, Below.refl _ _⟩
  case round =>
    obtain ⟨k, hk, rfl, pre, hpre, hJs, hnx⟩ := hrel
    by_cases hlt : k < L
    · obtain ⟨x, hx⟩ : ∃ x, ws[k]?.getD 0 = x := ⟨_, rfl⟩
      have hcx : wr.cell? ⟨b, off + k, none⟩ = some (.int .u64 (x : Int)) := by rw [← hx]; exact (hnx.cell (p := ⟨b, off + k, none⟩) hb).trans (HC.out k hlt)
      have HX := Lib.hid hx
      have hxm : x < M64 := by rw [← hx]; exact hWB.at k
      have HLe : Hid (Left ws k x pre) := by
        have h1 := hpre.out
        rw [numsFrom_drop (by rw [HL.out]; exact hlt), hx] at h1
        exact h1
      clear hx hpre
      obtain ⟨wo, rfl⟩ : ∃ wo : World, wo = wr := ⟨_, rfl⟩
      gi_wp2
      gi_loopw [4] (fun v wi => ∃ (y : Nat) (pre : List Nat), v = .int .u64 (y : Int) ∧ y < M64 ∧ Hid (Left ws k y pre) ∧ J pre wi ∧ Below n₀ W wi) (fun v _ => (intOf v).toNat)
      case atStart => exact ⟨x, pre, rfl, hxm, HLe, hJs, hnx⟩
      case round =>
        clear hJs HLe hcx hxm HX
        obtain ⟨y, pre2, rfl, hym, hle, hJ2, hn2⟩ := hrel
        by_cases hy0 : y = 0
        · subst hy0
          gi_wp2
          go_roundw
          case rel =>
            refine ⟨k + 1, by omega, by simp, pre2, ?_, hJ2, hn2⟩
            have := hle.out
            unfold Left at this
            rw [wnums_zero] at this
            exact this
          case measure => simp [intOf]; omega
        · have hb0 : ((y : Int) != 0) = true := by simpa using hy0
          obtain ⟨z, hz⟩ : ∃ z, y &&& (y - 1) = z := ⟨_, rfl⟩
          have hym' : y < 18446744073709551616 := hym
          have hzb : bits .and .u64 (y : Int) ((y : Int) - 1) = (z : Int) := by
            rw [← hz, ← u64_and_nat y (y - 1) hym' (by omega)]
            congr 1
            omega
          have hsub : IntKind.u64.wrap ((y : Int) - 1) = (y : Int) - 1 := by rw [IntKind.wrap_u64]; omega
          have hzlt : z < y := by rw [← hz]; exact and_pred_lt hy0
          obtain ⟨c, hc⟩ : ∃ c, Lib.ctz 64 y = c := ⟨_, rfl⟩
          have hc64 : c < 64 := by rw [← hc]; exact ctz_lt hy0 hym
          have hTi : Tab wr := ⟨Nat.lt_of_lt_of_le HT.out.1 hn2.size, fun j hj => (hn2.cell (p := ⟨1, j, none⟩) hn0).trans (HT.out.2 j hj)⟩
          have hnext := hle.out.next hy0 hym
          rw [hz, hc] at hnext
          have HTZ := Lib.hid (tz_any y wr hy0 hym hTi)
          rw [hc] at HTZ
          have HNX := Lib.hid hnext
          have HZ := Lib.hid hz
          have HCC := Lib.hid hc
          obtain ⟨fn, tmps, assign, body, hy, hR⟩ := HY.out pre2 (k * 64 + c) wr hJ2 (hle.out.lt hy0 hym)
          have hNe := Lib.hid hy0
          have ecast : (((k * 64 + c : Nat)) : Int) = (k : Int) * 64 + (c : Int) := by simp
          rw [ecast] at hy
          clear hz hc hnext hTi hle ecast hy0
          gi_wp2_with (refine ⟨trivial, ?_⟩; gi_at_call 106; refine (callsIn_wide.2 HTZ.out).mono ?_; clear HTZ; rintro e w1 ⟨rfl, rfl⟩)
          refine hR.mono ?_
          clear hy hR
          rintro e W3 (⟨rfl, hJ3, hk3⟩ | ⟨rfl, hJx3⟩)
          · gi_wp2
            go_roundw
            case rel => exact ⟨z, _, rfl, Nat.lt_trans hzlt hym, HNX, hJ3, hn2.trans hk3⟩
            case measure => simp [intOf]; omega
          · gi_wp2
            refine bodyPost_ret (results_none rfl _ _ _) rfl ?_
            exact ⟨⟨_, rfl⟩, .inr ⟨_, ⟨_, (HNX.out).symm⟩, hJx3⟩⟩
    · obtain rfl : k = L := by omega
      have hp := hpre.out
      rw [List.drop_of_length_le (by rw [HL.out]; exact Nat.le_refl _)] at hp
      have HP := Lib.hid hp
      clear hp hpre
      gi_wp2
      go_end0
      exact ⟨⟨_, rfl⟩, .inl ⟨_, by have := HP.out; simpa [numsFrom] using this.symm, hJs⟩⟩

set_option maxRecDepth 100000 in
set_option maxHeartbeats 1000000 in
theorem numbers1_nil_in (n : Nat) (l Bs cap : Nat) (a : Option Addr) (N : Int) (J : List Nat → World → Prop)
    (W : World) (_hBs : W.cell? ⟨Bs, 0, none⟩ = some (.int .i64 N)) (hBs1 : W.cell? ⟨Bs, 1, none⟩ = some (.slice a 0 cap)) (h0 : J [] W) :
    CallsIn Fence.wide n Tryd.prog 105 #[.func (.yield l) #[] #[], .pointer (some ⟨Bs, 0, none⟩)] W fun e W' => (∃ v, e = .returned v) ∧ J [] W' := by
  refine callsIn_of_wp Tryd.func105 rfl trivial ?_ rfl
  simp only [Tryd.ntmps105, List.size_toArray, List.length_cons, List.length_nil, Nat.reduceAdd, Nat.reduceSub, Array.replicate_succ, Array.replicate_zero, List.push_toArray, List.append_toArray, List.nil_append, List.cons_append]
  gi_wp2
  gi_loopw [8] (fun i wr => i = .int .i64 0 ∧ J [] wr) (fun _ _ => 0)
  case atStart => exact ⟨rfl, h0⟩
  case round =>
    obtain ⟨rfl, hJs⟩ := hrel
    gi_wp2
    go_end0
    exact ⟨⟨_, rfl⟩, hJs⟩

set_option maxHeartbeats 1000000 in
/-- The function value that 'numbers' hands back. -/
theorem numbers_any (N : Int) (a : Option Addr) (len cap : Nat) (w : World) :
    Calls Tryd.prog 72 #[.agg #[.int .i64 N, .slice a len cap]] w fun e w' => e = .returned (.func (.func 105) #[] #[.pointer (some ⟨w.heap.size, 0, none⟩)]) ∧ w' = w.alloc (.cells #[.int .i64 N, .slice a len cap] 38) := by
  go_enter Tryd.func72, Tryd.ntmps72
  go_wp2
  go_ret
  exact ⟨rfl, rfl⟩

/-- A set's numbers come, all of them, rising; or the first of them. -/
theorem numbers_stops (n : Nat) (hn : 1 ≤ n) (Bs n₀ : Nat) (N : Int) (a : Option Addr) (ws : List Nat) (cap : Nat) (w : World) (hBl : Bs < w.heap.size) (hn₀ : n₀ ≤ w.heap.size) (hn0 : 1 < n₀) (hl : ws.length ≤ 16) (hWB : WB ws)
    (hBs : w.cell? ⟨Bs, 0, none⟩ = some (.int .i64 N)) (hBs1 : w.cell? ⟨Bs, 1, none⟩ = some (.slice a ws.length cap)) (hT : Tab w) (hWd : Wd n₀ w a ws) :
    SeqStopsK Fence.wide n Tryd.prog 105 #[.pointer (some ⟨Bs, 0, none⟩)] (fun x : Nat => #[Value.int .i64 (x : Int)]) (Below n₀) (fun ys => ys = nums ws) (fun pre => pre <+: nums ws) (nums ws).length w := fun l J Jx W hW _ _ hY h0 => by
  have c0 := (hW.cell (p := ⟨Bs, 0, none⟩) hBl).trans hBs
  have c1 := (hW.cell (p := ⟨Bs, 1, none⟩) hBl).trans hBs1
  by_cases hz : ws.length = 0
  · obtain rfl : ws = [] := List.eq_nil_of_length_eq_zero hz
    exact (numbers1_nil_in n l Bs cap a N J W c0 c1 h0).mono fun e W' ⟨he, hj⟩ => ⟨he, .inl ⟨_, rfl, hj⟩⟩
  · obtain ⟨b, o, rfl, hb, _⟩ := hWd 0 (by omega)
    refine numbers1_in n hn l Bs n₀ b o cap N ws hl hWB hb hn0 J Jx hY W c0 c1 (hT.below hW) (fun j hj => ?_) h0
    obtain ⟨b', o', e, hb', hc'⟩ := hWd j hj
    cases e
    exact (hW.cell (p := ⟨b, o + j, none⟩) (Nat.lt_of_lt_of_le hb hn₀)).trans hc'
end Go.Proofs.YtmcbedlmgffckaaDoor.Bi

namespace Go.Proofs.YtmcbedlmgffckaaDoor.Bi
open Go Go.RowKit Go.Sort Go.Shelf

attribute [local go_sem] Oper.semAt_some

theorem numsFrom_length (ws : List Nat) : ∀ k, (numsFrom k ws).length ≤ 64 * ws.length := by
  induction ws with
  | nil => intro k; simp [numsFrom]
  | cons x r ih =>
    intro k
    have h1 : (wnums x).length ≤ 64 := by
      have := List.length_filter_le (fun i => x.testBit i) (List.range 64)
      simpa [wnums] using this
    have h2 := ih (k + 1)
    simp only [numsFrom, List.length_append, List.length_map, List.length_cons]
    omega

theorem nums_length (ws : List Nat) : (nums ws).length ≤ 64 * ws.length := numsFrom_length ws 0

theorem keepsOthers_of_below {W W' : World} (h : Below W.heap.size W W') : KeepsOthers W W' := by
  exact ⟨h.size, fun k o hk _ => (h.block k (Array.getElem?_eq_some_iff.1 hk).1).trans hk⟩

end Go.Proofs.YtmcbedlmgffckaaDoor.Bi

namespace Go.Proofs.YtmcbedlmgffckaaDoor.Bi
open Go Go.RowKit Go.Sort Go.Shelf

attribute [local go_sem] Oper.semAt_some

/-- Is each number of the first set in the second one? -/
def leqB (wa : List Nat) (nb : Nat) (wb : List Nat) : Bool := (nums wa).all (fun i => hasB nb wb (i : Nat))

set_option maxRecDepth 100000 in
set_option maxHeartbeats 2000000 in
theorem Leq_any (va vb : Value) (na nb : Int) (wa wb : List Nat) (w : World) (hva : SV w va na wa) (hvb : SV w vb nb wb) (hla : wa.length ≤ 30) (hlb : wb.length ≤ 30) (hBa : WB wa) (hBb : WB wb) (hT : Tab w) :
    Calls Tryd.prog 34 #[va, vb] w fun e w' => e = .returned (.bool (leqB (nrmW na wa) (nrm nb wb) (nrmW nb wb))) ∧ Below w.heap.size w w' := by
  refine (callsIn_wide (n := 3)).1 ?_
  have hva0 := hva
  have hvb0 := hvb
  obtain ⟨aa, capa, rfl, hWda⟩ := hva
  obtain ⟨ab, capb, rfl, hWdb⟩ := hvb
  have hW3 : Below w.heap.size w (((w.alloc (.cells #[.int .i64 na, .slice aa wa.length capa] 38)).alloc (.cells #[.int .i64 nb, .slice ab wb.length capb] 38)).alloc (.cells #[.bool false] 4)) := (((Below.refl _ _).alloc (Nat.le_refl _) _).alloc (by simp) _).alloc (by simp; omega) _
  have HSb := Lib.hid (saneOrEmpty_any w.heap.size _ nb wb _ (SVB.below hvb0 hW3) hW3.size hlb)
  have HSa := Lib.hid (fun W (hW : Below w.heap.size w W) => saneOrEmpty_any w.heap.size _ na wa W (SVB.below hva0 hW) hW.size hla)
  have HOa := Lib.hid (nrm_ok (n := na) hBa)
  have HOb := Lib.hid (nrm_ok (n := nb) hBb)
  have BA := ((Box.new w (.int .i64 na) (.slice aa wa.length capa) 38).alloc (.cells #[.int .i64 nb, .slice ab wb.length capb] 38)).alloc (.cells #[.bool false] 4)
  have BB := (Box.new (w.alloc (.cells #[.int .i64 na, .slice aa wa.length capa] 38)) (.int .i64 nb) (.slice ab wb.length capb) 38).alloc (.cells #[.bool false] 4)
  have BR := Boxed.new ((w.alloc (.cells #[.int .i64 na, .slice aa wa.length capa] 38)).alloc (.cells #[.int .i64 nb, .slice ab wb.length capb] 38)) 4 (.bool false)
  have hz3 : (((w.alloc (.cells #[.int .i64 na, .slice aa wa.length capa] 38)).alloc (.cells #[.int .i64 nb, .slice ab wb.length capb] 38)).alloc (.cells #[.bool false] 4)).heap.size = w.heap.size + 3 := by simp
  simp only [World.size_alloc] at BB BR
  have HW3 := Lib.hid hW3
  generalize hW : ((w.alloc (.cells #[.int .i64 na, .slice aa wa.length capa] 38)).alloc (.cells #[.int .i64 nb, .slice ab wb.length capb] 38)).alloc (.cells #[.bool false] 4) = W3 at *
  clear hva0 hvb0 hWda hWdb hW3
  generalize nrm na wa = na' at *
  generalize nrmW na wa = wa' at *
  generalize nrm nb wb = nb' at *
  generalize nrmW nb wb = wb' at *
  have c0 := BB.c0
  have c1 := BB.c1
  refine callsIn_of_wp_marks Tryd.func34 rfl trivial ?_ rfl
  simp only [Tryd.ntmps34, List.size_toArray, List.length_cons, List.length_nil, Nat.reduceAdd, Nat.reduceSub, Array.replicate_succ, Array.replicate_zero, List.push_toArray, List.append_toArray, List.nil_append, List.cons_append]
  gi_wp2_with fail
  refine ⟨trivial, ?_⟩
  refine (callsIn_wide.2 HSb.out).mono ?_
  clear HSb
  rintro e w1 ⟨u, rfl, hsv, hb⟩
  obtain ⟨ab', capb', rfl, hWdb'⟩ := hsv
  have hb1 : Below w.heap.size w w1 := HW3.out.trans (hb.mono HW3.out.size)
  have BA1 := BA.below hb BA.lt
  have BB1 := BB.below hb BB.lt
  have BR1 : Boxed w1 (w.heap.size + 1 + 1) 4 (.bool false) := (hb.block _ BR.lt).trans BR
  have hz1 : w.heap.size + 3 ≤ w1.heap.size := by have := hb.size; omega
  have HWDB := Lib.hid hWdb'
  have HB1 := Lib.hid hb1
  clear hb hb1 hWdb' c0 c1 BA BB BR hz3 hW HW3
  have BB4 := BB1.put (.int .i64 (nb' : Int)) (.slice ab' wb'.length capb')
  have hb4 := below_put2 HB1.out (b := w.heap.size + 1) (by omega) (.int .i64 (nb' : Int)) (.slice ab' wb'.length capb')
  have BR4 : Boxed ((w1.setCell ⟨w.heap.size + 1, 0, none⟩ (.int .i64 (nb' : Int))).setCell ⟨w.heap.size + 1, 1, none⟩ (.slice ab' wb'.length capb')) (w.heap.size + 1 + 1) 4 (.bool false) := (heap_put2 _ _ _ _ _ (by omega)).trans BR1
  have hz4 := size_put2 w1 (w.heap.size + 1) (.int .i64 (nb' : Int)) (.slice ab' wb'.length capb')
  have HWDB4 := HWDB.out.below (below_put2 (Below.refl w.heap.size w1) (b := w.heap.size + 1) (by omega) (.int .i64 (nb' : Int)) (.slice ab' wb'.length capb'))
  obtain ⟨x0, x1, y0, y1⟩ := BA1
  obtain ⟨c0, c1, f0, f1⟩ := BB1
  have HBB4 := Lib.hid BB4
  have HB4 := Lib.hid hb4
  have HBR4 := Lib.hid BR4
  have HZ4 := Lib.hid hz4
  have HWB4 := Lib.hid HWDB4
  clear y0 y1 BB4 hb4 BR4 hz4 HWDB4 HWDB HB1 BR1
  gi_wp2_with fail
  refine ⟨trivial, ?_⟩
  refine (callsIn_wide.2 (HSa.out _ HB4.out)).mono ?_
  clear HSa c0 c1 f0 f1 x0 x1
  rintro e w2 ⟨u, rfl, hsv, hb⟩
  have hb4 := HB4.out
  have BB4 := HBB4.out
  have BR4 := HBR4.out
  have hz4 := HZ4.out
  have hw4 := HWB4.out
  clear HB4 HBB4 HBR4 HZ4 HWB4
  generalize (w1.setCell ⟨w.heap.size + 1, 0, none⟩ (.int .i64 (nb' : Int))).setCell ⟨w.heap.size + 1, 1, none⟩ (.slice ab' wb'.length capb') = W4 at *
  obtain ⟨aa', capa', rfl, hWda'⟩ := hsv
  have hb2 : Below w.heap.size w w2 := hb4.trans (hb.mono hb4.size)
  have BB2 := BB4.below hb BB4.lt
  have BR2 : Boxed w2 (w.heap.size + 1 + 1) 4 (.bool false) := (hb.block _ BR4.lt).trans BR4
  have hwb2 := hw4.below (hb.mono hb4.size)
  have hz2 : w.heap.size + 3 ≤ w2.heap.size := by have := hb.size; omega
  have HWDA := Lib.hid hWda'
  have HB2 := Lib.hid hb2
  have HBB2 := Lib.hid BB2
  have HBR2 := Lib.hid BR2
  have HWB2 := Lib.hid hwb2
  clear hb hb2 hWda' BB2 BR2 hwb2 hb4 BB4 BR4 hz4 hw4 hz1
  gi_wp2_with (refine ⟨trivial, ?_⟩; gi_at_call 72; refine (callsIn_wide.2 (numbers_any _ _ _ _ _)).mono ?_; rintro e w3 ⟨rfl, rfl⟩)
  have ho := HOa.out
  have hob := HOb.out
  have BX := Box.new w2 (.int .i64 (na' : Int)) (.slice aa' wa'.length capa') 38
  have hA : Below w2.heap.size w2 (w2.alloc (.cells #[.int .i64 (na' : Int), .slice aa' wa'.length capa'] 38)) := (Below.refl _ _).alloc (Nat.le_refl _) _
  have hB0 : Below w.heap.size w (w2.alloc (.cells #[.int .i64 (na' : Int), .slice aa' wa'.length capa'] 38)) := HB2.out.trans (hA.mono HB2.out.size)
  have hs : (w2.alloc (.cells #[.int .i64 (na' : Int), .slice aa' wa'.length capa'] 38)).heap.size = w2.heap.size + 1 := by simp
  have BB3 := HBB2.out.alloc (.cells #[.int .i64 (na' : Int), .slice aa' wa'.length capa'] 38)
  have BR3 := HBR2.out.alloc (.cells #[.int .i64 (na' : Int), .slice aa' wa'.length capa'] 38)
  have hwb3 := HWB2.out.below (hA.mono HB2.out.size)
  have hwa3 := HWDA.out.below (hA.mono HB2.out.size)
  generalize w2.alloc (.cells #[.int .i64 (na' : Int), .slice aa' wa'.length capa'] 38) = W5 at *
  clear HBB2 HBR2 HWB2 HWDA
  refine wpIn_rangeFunc_ownF rfl (by omega) (gf := 105) (lb := #[.pointer (some ⟨w2.heap.size, 0, none⟩)]) rfl trivial (enters_of Tryd.func105 (by kernel_rfl) rfl)
    (numbers_stops 2 (by omega) w2.heap.size w.heap.size (na' : Int) aa' wa' capa' W5 (by omega) hB0.size hT.1 ho.len16 ho.wb BX.c0 BX.c1 (hT.below hB0) hwa3) belowK_t (belowK_b hB0.size) (Below.refl _ _) (fun _ => rfl)
    (fun pre W => ((∀ y ∈ pre, hasB nb' wb' (y : Nat) = true) ∧ W.cell? ⟨w.heap.size + 1, 0, none⟩ = some (.int .i64 (nb' : Int)) ∧ W.cell? ⟨w.heap.size + 1, 1, none⟩ = some (.slice ab' wb'.length capb') ∧ W.cell? ⟨w.heap.size + 1 + 1, 0, none⟩ = some (.bool false) ∧ W.frozen? ⟨w.heap.size + 1 + 1, 0, none⟩ = false) ∧ Below w.heap.size w W)
    (fun c pre W => (c = .ret ∧ (∃ y ∈ pre, hasB nb' wb' (y : Nat) = false) ∧ W.cell? ⟨w.heap.size + 1 + 1, 0, none⟩ = some (.bool false)) ∧ Below w.heap.size w W)
    (OwnFrom.and (Own.from (fun s A B row hs hg hr => ⟨hs.1, cell_kept hs.2.1 hg hr, cell_kept hs.2.2.1 hg hr, cell_kept hs.2.2.2.1 hg hr, (frozen_kept hs.2.2.2.1 hg hr).trans hs.2.2.2.2⟩) _) (ownFrom_below (Nat.le_refl _) hB0.size))
    (fun c => OwnFrom.and (Own.from (fun s A B row hs hg hr => ⟨hs.1, hs.2.1, cell_kept hs.2.2 hg hr⟩) _) (ownFrom_below (Nat.le_refl _) hB0.size))
    ⟨⟨fun y hy => (by cases hy), BB3.c0, BB3.c1, BR3.cell, BR3.frozen⟩, hB0⟩
    (fun x => { tmps := #[.agg #[.int .i64 na, .slice aa wa.length capa], .agg #[.int .i64 nb, .slice ab wb.length capb], .pointer (some ⟨w.heap.size, 0, none⟩), .pointer (some ⟨w.heap.size + 1, 0, none⟩), .pointer (some ⟨w.heap.size + 1 + 1, 0, none⟩), .int .i64 (x : Int), .agg #[.int .i64 nb, .slice ab wb.length capb], .agg #[.int .i64 (nb' : Int), .slice ab' wb'.length capb'], .agg #[.int .i64 na, .slice aa wa.length capa], .agg #[.int .i64 (na' : Int), .slice aa' wa'.length capa'], .func (.func 105) #[] #[.pointer (some ⟨w2.heap.size, 0, none⟩)], .int .i64 (x : Int), undef, undef, undef, undef], defers := [] }) ?assign ?body ?done ?stop
  case assign =>
    intro l x W K hK
    gi_wp2
    simpa using hK
  case body =>
    rintro l pre x W ⟨⟨hp, hc0, hc1, hcr, hfr⟩, hB⟩ _
    have HH := Lib.hid (has_any nb' ab' wb' capb' (x : Int) W (((hwb3.back hB0).below hB).mono hB.size) hob.wb hob.le hob.len)
    cases hh : hasB nb' wb' (x : Int) with
    | true =>
      have hh' : Hid (hasB nb' wb' (x : Int) = true) := hh
      rw [hh] at HH
      clear hh BX hA hB0 hs BB3 BR3 hwb3 hwa3 ho hob
      gi_wp2_with (refine ⟨trivial, ?_⟩; gi_at_call 73; refine (CallsIn.inRound l (callsIn_wide.2 HH.out)).mono ?_; clear HH; rintro e w' ⟨rfl, hb'⟩)
      exact ⟨keepsOthers_of_below hb', hb'.mono hB.size, ⟨fun y hy => (List.mem_append.1 hy).elim (hp y) (fun e => by simp at e; subst e; exact hh'.out), (hb'.cell (p := ⟨w.heap.size + 1, 0, none⟩) (block_lt_of_cell hc0)).trans hc0, (hb'.cell (p := ⟨w.heap.size + 1, 1, none⟩) (block_lt_of_cell hc1)).trans hc1, (hb'.cell (p := ⟨w.heap.size + 1 + 1, 0, none⟩) (block_lt_of_cell hcr)).trans hcr, (hb'.frozen (p := ⟨w.heap.size + 1 + 1, 0, none⟩) (block_lt_of_cell hcr)).trans hfr⟩, hB.trans (hb'.mono hB.size)⟩
    | false =>
      have hh' : Hid (hasB nb' wb' (x : Int) = false) := hh
      rw [hh] at HH
      clear hh BX hA hB0 hs BB3 BR3 hwb3 hwa3 ho hob
      gi_wp2_with (refine ⟨trivial, ?_⟩; gi_at_call 73; refine (CallsIn.inRound l (callsIn_wide.2 HH.out)).mono ?_; clear HH; rintro e w' ⟨rfl, hb'⟩; have hcr' := (hb'.cell (p := ⟨w.heap.size + 1 + 1, 0, none⟩) (block_lt_of_cell hcr)).trans hcr; have hfr' := (hb'.frozen (p := ⟨w.heap.size + 1 + 1, 0, none⟩) (block_lt_of_cell hcr)).trans hfr)
      exact ⟨(keepsOthers_of_below hb').trans (KeepsOthers.setCell _ _ _), ⟨rfl, ⟨x, List.mem_append.2 (.inr (by simp)), hh'.out⟩, World.cell?_setCell_same' _ _ _ (by rw [hcr']; rfl)⟩, (hB.trans (hb'.mono hB.size)).setCell (p := ⟨w.heap.size + 1 + 1, 0, none⟩) (by simp; omega) _⟩
  case done =>
    rintro D ys W hD rfl ⟨⟨hne, _, _, hcr, hfr⟩, hB⟩ hK
    clear BX hA hs BB3 BR3 hwb3 hwa3 ho hob
    gi_wp2
    have hK' := (KeepsOthers.setCell W ⟨w.heap.size + 1 + 1, 0, none⟩ (.bool true)).same D _ hK rfl
    refine ⟨by simp, .inl ⟨_, _, rfl, run_takeDeferred hK', ?_⟩⟩
    have hc5 := cell_kept (World.cell?_setCell_same' W ⟨w.heap.size + 1 + 1, 0, none⟩ (.bool true) (by rw [hcr]; rfl)) (grownBy_putObj' _ D (.deferred none)) (fun r e => by cases e; exact ⟨_, hK', rfl⟩)
    refine ⟨.bool true, ?_, ?_, (hB.setCell (p := ⟨w.heap.size + 1 + 1, 0, none⟩) (by simp; omega) _).trans (belowK_b (w := w) (Nat.le_refl _) _ D _ _ (by have := hB0.size; omega) hK' rfl rfl)⟩
    · simp [results, Tryd.f34, go_sem, hc5]
    · exact ret_bool (List.all_eq_true.2 hne).symm
  case stop =>
    rintro D c pre W hD hpre ⟨⟨rfl, hin, hcr⟩, hB⟩ hK
    clear BX hA hs BB3 BR3 hwb3 hwa3 ho hob
    gi_wp2
    refine ⟨by simp, .inl ⟨_, _, rfl, run_takeDeferred hK, ?_⟩⟩
    have hc5 := cell_kept hcr (grownBy_putObj' _ D (.deferred none)) (fun r e => by cases e; exact ⟨_, hK, rfl⟩)
    refine ⟨.bool false, ?_, ?_, hB.trans (belowK_b (w := w) (Nat.le_refl _) W D _ _ (by have := hB0.size; omega) hK rfl rfl)⟩
    · simp [results, Tryd.f34, go_sem, hc5]
    · obtain ⟨y, hy, hf⟩ := hin
      refine ret_bool (Eq.symm ?_)
      unfold leqB
      rw [Bool.eq_false_iff]
      intro hall
      have := List.all_eq_true.1 hall y (hpre.subset hy)
      rw [hf] at this
      cases this
end Go.Proofs.YtmcbedlmgffckaaDoor.Bi

namespace Go.Proofs.YtmcbedlmgffckaaDoor.Bi
open Go Go.RowKit Go.Sort

/-- Words of the call's own; or none. -/
def FreshV (n0 : Nat) (W : World) (a : Option Addr) (ws : List Nat) : Prop := ws = [] ∨ ∃ g, a = some ⟨g, 0, none⟩ ∧ Fresh n0 W g ws

theorem FreshV.wd {n0 : Nat} {W : World} {a : Option Addr} {ws : List Nat} (h : FreshV n0 W a ws) : Wd W.heap.size W a ws := by
  rcases h with rfl | ⟨g, rfl, hF⟩
  · exact Wd.nil _ _ _
  · exact hF.wd
theorem FreshV.below {n0 : Nat} {W W' : World} {a : Option Addr} {ws : List Nat} (h : FreshV n0 W a ws) (hb : Below W.heap.size W W') : FreshV n0 W' a ws := by
  rcases h with rfl | ⟨g, rfl, hF⟩
  · exact .inl rfl
  · exact .inr ⟨g, rfl, hF.below hb hF.lt⟩
theorem FreshV.base {n0 n1 : Nat} {W : World} {a : Option Addr} {ws : List Nat} (h : FreshV n0 W a ws) (hn : n1 ≤ n0) : FreshV n1 W a ws := by
  rcases h with rfl | ⟨g, rfl, hF⟩
  · exact .inl rfl
  · exact .inr ⟨g, rfl, hF.base hn⟩

def encW (x : Nat) : Value := .int .u64 (x : Int)

theorem freshV_of_owns {n0 : Nat} {W : World} {v : Value} {ws : List Nat} (h : W.ownsRow n0 85 1 v ws.length (ws.map encW)) : ∃ a cap, v = .slice a ws.length cap ∧ FreshV n0 W a ws := by
  obtain ⟨_, ⟨rfl, h0⟩ | ⟨g, cap, cur, rfl, hb, hc, hle, _, hsz, htk⟩⟩ := h
  · have := List.eq_nil_of_length_eq_zero h0
    subst this
    exact ⟨none, 0, rfl, .inl rfl⟩
  · refine ⟨_, cap, rfl, .inr ⟨g, rfl, hb, cur, hc, by omega, fun j hj => ?_⟩⟩
    have e : (cur.toList.take (ws.length * 1))[j]? = (ws.map encW)[j]? := by rw [htk]
    rw [Nat.mul_one, List.getElem?_take_of_lt hj] at e
    rw [← Array.getElem?_toList, e]
    simp [encW, hj]

set_option maxRecDepth 100000 in
set_option maxHeartbeats 1000000 in
theorem Clone_any (a : Option Addr) (ws : List Nat) (c : Nat) (w : World) (hWd : Wd w.heap.size w a ws) (hl : ws.length ≤ 30) :
    Calls Tryd.prog 134 #[.slice a ws.length c] w fun e w' => ∃ a' cap', e = .returned (.slice a' ws.length cap') ∧ FreshV w.heap.size w' a' ws ∧ Below w.heap.size w w' := by
  have q22 : ∀ (w : World) (a : Option Addr) (n c : Nat), (binOp .eql 33 (.slice a n c) (.slice none 0 0)).run Tryd.prog w = .ok (.bool a.isNone) w := fun w a n c => Lib.run_eql_slice_nil w _ _ a n c 0 0 Tryd.underlying33
  cases a with
  | none =>
    have hz : ws = [] := by
      cases ws with
      | nil => rfl
      | cons x r => obtain ⟨b, o, e, _⟩ := hWd 0 (by simp); cases e
    subst hz
    clear hWd
    go_enter Tryd.func134, Tryd.ntmps134
    go_wp2
    go_ret
    exact ⟨none, 0, rfl, .inl rfl, Below.refl _ _⟩
  | some ad =>
    obtain ⟨i0, hi, hz0, hz1, hz2⟩ := info_parts Tryd_info52
    have H := Lib.hid hWd
    clear hWd
    go_enter Tryd.func134, Tryd.ntmps134
    go_wp2_with (at_builtin; (refine wpList_append_own _ rfl _ _ 33 rfl w.heap.size 85 i0 (.int .u64 0) 1 8 Tryd.underlying33 hi hz0 hz1 hz2 rfl (by decide) _ _ _ rfl (World.ownsRow_made w #[] 0 (Nat.le_refl _) (Nat.zero_le _) rfl) ad ws.length c (ws.map encW) rfl ?qc1 ?qc2 ?qc3 ?qc4 ?qc5 ?qc6 ?_))
    case qc1 => simp
    case qc2 =>
      intro j u hj
      have hjn : j < ws.length := by
        have := (List.getElem?_eq_some_iff.1 hj).1
        simpa using this
      obtain ⟨b, o, e, hb, hc⟩ := H.out j hjn
      cases e
      rw [Addr.add_lit]
      refine ((Below.refl w.heap.size w).alloc (Nat.le_refl _) _ |>.cell (p := ⟨b, o + j, none⟩) hb).trans ?_
      rw [hc]
      simp [encW, hjn] at hj
      rw [← hj]
      simp [hjn]
    case qc3 => intro u hu; obtain ⟨x, _, rfl⟩ := List.mem_map.1 hu; rfl
    case qc4 => unfold maxLen; omega
    case qc5 => omega
    case qc6 => simp
    intro v' w1 hown hgrow hnil
    have hex := freshV_of_owns (n0 := w.heap.size) (W := w1) (v := v') (ws := ws) (by simpa using hown)
    obtain ⟨a', cap', hv, hF⟩ := hex
    rw [hv]
    have HF := Lib.hid hF
    have HG := Lib.hid hgrow
    clear hF hown hnil hgrow
    go_wp2
    go_ret
    exact ⟨a', cap', rfl, HF.out, ((Below.refl _ w).alloc (Nat.le_refl _) _).grown HG.out (by simp) (by intro k hk; simp [Value.ownBlock] at hk; omega)⟩

set_option maxRecDepth 100000 in
set_option maxHeartbeats 2000000 in
theorem copyOf_any (v : Value) (n : Int) (ws : List Nat) (w : World) (hv : SV w v n ws) (hl : ws.length ≤ 30) :
    Calls Tryd.prog 90 #[v] w fun e w' => ∃ a' cap', e = .returned (.agg #[.int .i64 (nrm n ws : Nat), .slice a' (nrmW n ws).length cap']) ∧ FreshV w.heap.size w' a' (nrmW n ws) ∧ Below w.heap.size w w' := by
  have hv0 := hv
  obtain ⟨a, cap, rfl, hWd⟩ := hv
  have hlw : (nrmW n ws).length ≤ 30 := by unfold nrmW; split <;> simp [hl]
  have hW2 : Below w.heap.size w ((w.alloc (.cells #[.int .i64 n, .slice a ws.length cap] 38)).alloc (.cells #[.int .i64 0, .slice none 0 0] 38)) := ((Below.refl _ _).alloc (Nat.le_refl _) _).alloc (by simp) _
  have HS := Lib.hid (saneOrEmpty_any w.heap.size _ n ws _ (SVB.below hv0 hW2) hW2.size hl)
  have BA := (Box.new w (.int .i64 n) (.slice a ws.length cap) 38).alloc (.cells #[.int .i64 0, .slice none 0 0] 38)
  have BB := Box.new (w.alloc (.cells #[.int .i64 n, .slice a ws.length cap] 38)) (.int .i64 0) (.slice none 0 0) 38
  simp only [World.size_alloc] at BB
  have HW2 := Lib.hid hW2
  generalize hW : (w.alloc (.cells #[.int .i64 n, .slice a ws.length cap] 38)).alloc (.cells #[.int .i64 0, .slice none 0 0] 38) = W2 at *
  clear hv0 hWd hW2
  generalize nrm n ws = n' at *
  generalize nrmW n ws = ws' at *
  obtain ⟨a0, a1, _, _⟩ := id BA
  go_enter Tryd.func90, Tryd.ntmps90
  go_wp2_with fail
  refine HS.out.mono ?_
  clear HS
  rintro e w1 ⟨u, rfl, hsv, hb⟩
  obtain ⟨a', cap', rfl, hWd'⟩ := hsv
  have hb1 := HW2.out.trans (hb.mono HW2.out.size)
  have BA1 := BA.below hb BA.lt
  have BB1 := BB.below hb BB.lt
  have BA4 := (BA1.put (.int .i64 (n' : Int)) (.slice a' ws'.length cap')).drew
  have BB4 := (BB1.other (b' := w.heap.size) (by omega) (.int .i64 (n' : Int)) (.slice a' ws'.length cap')).drew
  have hb4 := (below_put2 hb1 (b := w.heap.size) (Nat.le_refl _) (.int .i64 (n' : Int)) (.slice a' ws'.length cap')).drew
  have hWd4 := hWd'.below (below_put2 (Below.refl w.heap.size w1) (b := w.heap.size) (Nat.le_refl _) (.int .i64 (n' : Int)) (.slice a' ws'.length cap')).drew
  have HCl := Lib.hid (Clone_any a' ws' cap' _ (hWd4.mono hb4.size) hlw)
  obtain ⟨c0, c1, f0, f1⟩ := id BA1
  clear hb hb1 hWd' BA BB hW HW2 a0 a1 hWd4
  have HA4 := Lib.hid BA4
  have HB4 := Lib.hid BB4
  have HBB4 := Lib.hid hb4
  clear BA4 BB4 hb4 BA1 BB1
  go_wp2_with fail
  have BA4 := HA4.out
  have BB4 := HB4.out
  generalize (w1.setCell ⟨w.heap.size, 0, none⟩ (.int .i64 (n' : Int))).setCell ⟨w.heap.size, 1, none⟩ (.slice a' ws'.length cap') = W4 at *
  obtain ⟨x0, x1, _, _⟩ := id BA4
  clear c0 c1 f0 f1 HA4 HB4
  go_region_with (go_at_call 134; refine HCl.out.mono ?_; clear HCl; rintro e w5 ⟨a5, cap5, rfl, hF5, hb5⟩; obtain ⟨y0, y1, _, _⟩ := BA4.below hb5 BA4.lt; obtain ⟨z0, z1, g0, g1⟩ := BB4.below hb5 BB4.lt; have HF5 := Lib.hid hF5; have HB5 := Lib.hid hb5; clear hF5 hb5)
  all_goals
    go_wp2_with fail
    have hb5 := HBB4.out.trans (HB5.out.mono HBB4.out.size)
    have hput := below_put2 hb5 (b := w.heap.size + 1) (by omega) (.int .i64 (n' : Int)) (.slice a5 ws'.length cap5)
    refine bodyPost_ret (v := .agg #[.int .i64 (n' : Int), .slice a5 ws'.length cap5]) (by simp [results, Tryd.results90, go_sem, z0, z1]) rfl ⟨a5, cap5, rfl, ?_, hput⟩
    rcases HF5.out with h | ⟨g, rfl, hF⟩
    · exact .inl h
    · refine .inr ⟨g, rfl, (hF.base HBB4.out.size).block (heap_put2 _ _ _ _ _ ?_)⟩
      have h1 := hF.1
      have h2 := BB4.lt
      omega
end Go.Proofs.YtmcbedlmgffckaaDoor.Bi

namespace Go.Proofs.YtmcbedlmgffckaaDoor.Bi
open Go Go.RowKit Go.Sort

set_option maxHeartbeats 1000000 in
theorem put_nil (a : Option Addr) (cap : Nat) (i : Int) (w : World) :
    Calls Tryd.prog 84 #[.agg #[.int .i64 0, .slice a 0 cap], .int .i64 i] w fun e w' => (∃ v, e = .returned v) ∧ Below w.heap.size w w' := by
  have hW1 : Below w.heap.size w (w.alloc (.cells #[.int .i64 0, .slice a 0 cap] 38)) := (Below.refl _ _).alloc (Nat.le_refl _) _
  have BX := Box.new w (.int .i64 0) (.slice a 0 cap) 38
  generalize hW : w.alloc (.cells #[.int .i64 0, .slice a 0 cap] 38) = W1 at *
  have HFi := Lib.hid (fits_any 0 i a 0 cap W1)
  have hdec : decide (0 ≤ i ∧ i < (0 : Int)) = false := by simp
  rw [hdec] at HFi
  obtain ⟨x0, x1, _, _⟩ := id BX
  have HW1 := Lib.hid hW1
  clear hW1 hdec
  go_enter Tryd.func84, Tryd.ntmps84
  go_wp2_with fail
  refine HFi.out.mono ?_
  clear HFi
  rintro e w1 ⟨rfl, hb⟩
  have HB := Lib.hid hb
  clear hb
  go_wp2
  go_end0
  exact ⟨⟨_, rfl⟩, HW1.out.trans (HB.out.mono HW1.out.size)⟩

theorem wcount_zero {n : Nat} (h : wcount n = 0) : n = 0 := by unfold wcount at h; omega

set_option maxRecDepth 100000 in
set_option maxHeartbeats 2000000 in
theorem With_any (v : Value) (n : Int) (ws : List Nat) (i : Int) (w : World) (hv : SV w v n ws) (hl : ws.length ≤ 30) (hB : WB ws) :
    Calls Tryd.prog 55 #[v, .int .i64 i] w fun e w' => ∃ a' cap', e = .returned (.agg #[.int .i64 (nrm n ws : Nat), .slice a' (nrmW n ws).length cap']) ∧ FreshV w.heap.size w' a' (putW (nrm n ws) (nrmW n ws) i) ∧ Below w.heap.size w w' := by
  have hv0 := hv
  obtain ⟨a, cap, rfl, hWd⟩ := hv
  have hW2 : Below w.heap.size w ((w.alloc (.cells #[.int .i64 n, .slice a ws.length cap] 38)).alloc (.cells #[.int .i64 0, .slice none 0 0] 38)) := ((Below.refl _ _).alloc (Nat.le_refl _) _).alloc (by simp) _
  have HS := Lib.hid (copyOf_any _ n ws _ (hv0.below hW2) hl)
  have HO := Lib.hid (nrm_ok (n := n) hB)
  have BA := (Box.new w (.int .i64 n) (.slice a ws.length cap) 38).alloc (.cells #[.int .i64 0, .slice none 0 0] 38)
  have BB := Box.new (w.alloc (.cells #[.int .i64 n, .slice a ws.length cap] 38)) (.int .i64 0) (.slice none 0 0) 38
  have hz2 : ((w.alloc (.cells #[.int .i64 n, .slice a ws.length cap] 38)).alloc (.cells #[.int .i64 0, .slice none 0 0] 38)).heap.size = w.heap.size + 2 := by simp
  simp only [World.size_alloc] at BB
  have HW2 := Lib.hid hW2
  generalize hW : (w.alloc (.cells #[.int .i64 n, .slice a ws.length cap] 38)).alloc (.cells #[.int .i64 0, .slice none 0 0] 38) = W2 at *
  clear hv0 hWd hW2
  generalize nrm n ws = n' at *
  generalize nrmW n ws = ws' at *
  obtain ⟨a0, a1, _, _⟩ := id BA
  have Z2 := Lib.hid hz2
  clear hz2
  go_enter Tryd.func55, Tryd.ntmps55
  go_wp2_with fail
  refine HS.out.mono ?_
  clear HS
  rintro e w1 ⟨a', cap', rfl, hF, hb⟩
  have hb1 := HW2.out.trans (hb.mono HW2.out.size)
  have BB1 := (BB.below hb BB.lt).alloc (.cells #[.int .i64 (n' : Int), .slice a' ws'.length cap'] 38)
  have BX := Box.new w1 (.int .i64 (n' : Int)) (.slice a' ws'.length cap') 38
  have hA := (Below.refl w1.heap.size w1).alloc (Nat.le_refl _) (.cells #[.int .i64 (n' : Int), .slice a' ws'.length cap'] 38)
  have hb3 : Below w.heap.size w (w1.alloc (.cells #[.int .i64 (n' : Int), .slice a' ws'.length cap'] 38)) := hb1.trans (hA.mono hb1.size)
  have hsz : w.heap.size + 2 ≤ w1.heap.size := by have := hb.size; have := Z2.out; omega
  rcases hF with hnil | ⟨g, rfl, hF⟩
  · subst hnil
    have hn0 : n' = 0 := wcount_zero (by have := HO.out.len; simpa using this.symm)
    subst hn0
    have hp : putW 0 ([] : List Nat) i = [] := by simp [putW]
    have HP0 := Lib.hid hp
    have H1 := Lib.hid BB1
    have H2 := Lib.hid BX
    have H3 := Lib.hid hb3
    have HP := Lib.hid (put_nil a' cap' i (w1.alloc (.cells #[.int .i64 0, .slice a' 0 cap'] 38)))
    clear hb hb1 BB1 BX hA hb3 hW BA BB a0 a1 hp
    go_wp2_with fail
    refine HP.out.mono ?_
    clear HP
    rintro e w4 ⟨⟨v, rfl⟩, hb4⟩
    obtain ⟨x0, x1, _, _⟩ := H2.out.below hb4 H2.out.lt
    obtain ⟨y0, y1, f0, f1⟩ := H1.out.below hb4 H1.out.lt
    have H4 := Lib.hid hb4
    clear hb4
    go_wp2
    have hb5 := H3.out.trans (H4.out.mono H3.out.size)
    have hput := below_put2 hb5 (b := w.heap.size + 1) (by omega) (.int .i64 0) (.slice a' 0 cap')
    exact bodyPost_ret (v := .agg #[.int .i64 0, .slice a' 0 cap']) (by simp [results, Tryd.results55, go_sem, y0, y1]) rfl ⟨a', cap', rfl, .inl HP0.out, hput⟩
  · have hgl := hF.lt
    have hg1 := hF.1
    have hF3 := (hF.below hA hgl).base HW2.out.size
    have HP := Lib.hid (put_any w.heap.size n' g cap' ws' i _ hF3 HO.out.le HO.out.len HO.out.wb)
    obtain ⟨x0, x1, _, _⟩ := id BX
    have H1 := Lib.hid BB1
    have H2 := Lib.hid BX
    have H3 := Lib.hid hb3
    have hZ := Z2.out
    have HG : Hid (w.heap.size + 1 ≠ g ∧ w1.heap.size ≠ g ∧ w.heap.size ≤ g) := ⟨by omega, by omega, by omega⟩
    clear hb hb1 BB1 BX hA hb3 hW BA BB a0 a1 hF hF3 hgl hg1 hZ
    go_wp2_with fail
    refine HP.out.mono ?_
    clear HP x0 x1
    rintro e w4 ⟨⟨v, rfl⟩, hF4, hg4⟩
    obtain ⟨h1, h2, h3⟩ := HG.out
    obtain ⟨x0, x1, _, _⟩ := H2.out.grown hg4 (by simpa using h2)
    obtain ⟨y0, y1, f0, f1⟩ := H1.out.grown hg4 (by simpa using h1)
    have hb4 := Below.grownBy H3.out hg4 H3.out.size h3
    have H4 := Lib.hid hb4
    have H5 := Lib.hid hF4
    clear hb4 hF4 hg4 h1 h2 h3
    go_wp2
    have hput := below_put2 H4.out (b := w.heap.size + 1) (by omega) (.int .i64 (n' : Int)) (.slice (some ⟨g, 0, none⟩) ws'.length cap')
    refine bodyPost_ret (v := .agg #[.int .i64 (n' : Int), .slice (some ⟨g, 0, none⟩) ws'.length cap']) (by simp [results, Tryd.results55, go_sem, y0, y1]) rfl ⟨_, cap', rfl, .inr ⟨g, rfl, H5.out.block (heap_put2 _ _ _ _ _ (fun e => HG.out.1 e.symm))⟩, hput⟩
end Go.Proofs.YtmcbedlmgffckaaDoor.Bi

namespace Go.Proofs.YtmcbedlmgffckaaDoor.Bi
open Go Go.RowKit Go.Sort

theorem awk1 : ofW 70 [3, 65] = [8, 2] := by decide +kernel
theorem awk2 : saneB 70 [8, 2] = true := by decide +kernel
theorem awk3 : hasB (nrm 70 [8, 2]) (nrmW 70 [8, 2]) 65 = true := by decide +kernel
theorem awk4 : (nums (nrmW 70 [8, 2])).length = 2 := by decide +kernel
theorem awk5 : clampN 70 = 70 := by decide +kernel
theorem awk6 : wcount 70 = 2 := by decide +kernel
theorem awk7 : WB [8, 2] := by intro x hx; simp at hx; rcases hx with rfl | rfl <;> decide

end Go.Proofs.YtmcbedlmgffckaaDoor.Bi

namespace Go.Proofs.YtmcbedlmgffckaaDoor.Bi
open Go

theorem bitAt_cons (x : Nat) (r : List Nat) (i : Nat) : bitAt (x :: r) i = if i < 64 then x.testBit i else bitAt r (i - 64) := by
  unfold bitAt
  split
  · have h1 : i / 64 = 0 := by omega
    have h2 : i % 64 = i := by omega
    rw [h1, h2]; rfl
  · have h1 : i / 64 = (i - 64) / 64 + 1 := by omega
    have h2 : i % 64 = (i - 64) % 64 := by omega
    rw [h1, h2]; rfl

theorem bitAt_out {ws : List Nat} {i : Nat} (h : 64 * ws.length ≤ i) : bitAt ws i = false := by
  unfold bitAt
  rw [List.getElem?_eq_none (by omega)]
  simp

theorem numsFrom_eq (ws : List Nat) : ∀ k, numsFrom k ws = ((List.range (64 * ws.length)).filter (fun i => bitAt ws i)).map (fun i => k * 64 + i) := by
  induction ws with
  | nil => intro k; simp [numsFrom]
  | cons x r ih =>
    intro k
    have e : List.range (64 * (x :: r).length) = List.range 64 ++ (List.range (64 * r.length)).map (64 + ·) := by
      rw [List.length_cons, Nat.mul_add, Nat.mul_one, Nat.add_comm, List.range_add]
    rw [e, List.filter_append, List.map_append]
    simp only [numsFrom]
    have g1 : wnums x = (List.range 64).filter (fun i => bitAt (x :: r) i) := by
      unfold wnums
      apply List.filter_congr
      intro i hi
      rw [bitAt_cons, if_pos (List.mem_range.1 hi)]
    rw [g1]
    refine congrArg _ ?_
    · rw [ih, List.filter_map, List.map_map]
      have e2 : List.filter ((fun i => bitAt (x :: r) i) ∘ fun x => 64 + x) (List.range (64 * r.length)) = List.filter (fun i => bitAt r i) (List.range (64 * r.length)) := by
        apply List.filter_congr
        intro i _
        show bitAt (x :: r) (64 + i) = _
        rw [bitAt_cons, if_neg (by omega)]
        congr 1
        omega
      rw [e2]
      apply List.map_congr_left
      intro i _
      show (k + 1) * 64 + i = k * 64 + (64 + i)
      omega

theorem nums_eq (ws : List Nat) : nums ws = (List.range (64 * ws.length)).filter (fun i => bitAt ws i) := by
  unfold nums
  rw [numsFrom_eq]
  simp

theorem mem_nums {ws : List Nat} {i : Nat} : i ∈ nums ws ↔ bitAt ws i = true := by
  rw [nums_eq, List.mem_filter, List.mem_range]
  constructor
  · exact fun h => h.2
  · intro h
    refine ⟨?_, h⟩
    apply Nat.lt_of_not_le
    intro hle
    rw [bitAt_out hle] at h
    cases h

theorem testBit_ext {x y : Nat} (hx : x < M64) (hy : y < M64) (h : ∀ i, i < 64 → x.testBit i = y.testBit i) : x = y := by
  apply Nat.eq_of_testBit_eq
  intro i
  by_cases hi : i < 64
  · exact h i hi
  · have e : M64 = 2 ^ 64 := rfl
    rw [e] at hx hy
    have hp : 2 ^ 64 ≤ 2 ^ i := Nat.pow_le_pow_right (by decide) (by omega)
    rw [Nat.testBit_lt_two_pow (Nat.lt_of_lt_of_le hx hp), Nat.testBit_lt_two_pow (Nat.lt_of_lt_of_le hy hp)]

/-- Words are told by their digits. -/
theorem words_ext {ws us : List Nat} (hw : WB ws) (hu : WB us) (hl : ws.length = us.length) (h : ∀ i, i < 64 * ws.length → bitAt ws i = bitAt us i) : ws = us := by
  apply List.ext_getElem hl
  intro k h1 h2
  apply testBit_ext (hw _ (List.getElem_mem h1)) (hu _ (List.getElem_mem h2))
  intro i hi
  have := h (64 * k + i) (by omega)
  unfold bitAt at this
  rw [show (64 * k + i) / 64 = k by omega, show (64 * k + i) % 64 = i by omega] at this
  simpa [h1, h2] using this

theorem topClear_iff {n : Nat} {ws : List Nat} (hl : ws.length = wcount n) (hw : WB ws) : topClear n ws = true ↔ ∀ i, n ≤ i → bitAt ws i = false := by
  unfold topClear
  by_cases hr : n % 64 = 0
  · simp only [hr, beq_self_eq_true, Bool.true_or, true_iff]
    intro i hi
    apply bitAt_out
    rw [hl]; unfold wcount; omega
  · have hb : (n % 64 == 0) = false := by simpa using hr
    have hlen : ws.length = n / 64 + 1 := by rw [hl]; unfold wcount; omega
    rw [hb, Bool.false_or, hlen, Nat.add_sub_cancel, beq_iff_eq]
    constructor
    · intro h i hi
      by_cases hout : 64 * ws.length ≤ i
      · exact bitAt_out hout
      · have hq : i / 64 = n / 64 := by rw [hlen] at hout; omega
        unfold bitAt
        rw [hq]
        have hs : ((ws[n / 64]?.getD 0) >>> (n % 64)).testBit (i % 64 - n % 64) = false := by rw [h]; simp
        rw [Nat.testBit_shiftRight] at hs
        rw [← hs]
        congr 1
        omega
    · intro h
      apply Nat.eq_of_testBit_eq
      intro j
      rw [Nat.testBit_shiftRight, Nat.zero_testBit]
      by_cases hj : n % 64 + j < 64
      · have := h (64 * (n / 64) + (n % 64 + j)) (by omega)
        unfold bitAt at this
        rw [show (64 * (n / 64) + (n % 64 + j)) / 64 = n / 64 by omega, show (64 * (n / 64) + (n % 64 + j)) % 64 = n % 64 + j by omega] at this
        exact this
      · have hx := hw.at (n / 64)
        have e : M64 = 2 ^ 64 := rfl
        rw [e] at hx
        exact Nat.testBit_lt_two_pow (Nat.lt_of_lt_of_le hx (Nat.pow_le_pow_right (by decide) (by omega)))

theorem Ok.clear {n : Nat} {ws : List Nat} (h : Ok n ws) {i : Nat} (hi : n ≤ i) : bitAt ws i = false := (topClear_iff h.len h.wb).1 h.top i hi

theorem Ok.lt {n : Nat} {ws : List Nat} (h : Ok n ws) {i : Nat} (hi : bitAt ws i = true) : i < n := by
  apply Nat.lt_of_not_le
  intro hle
  rw [h.clear hle] at hi
  cases hi

theorem ok_mk {n : Nat} {ws : List Nat} (hn : n ≤ 1024) (hl : ws.length = wcount n) (hw : WB ws) (hc : ∀ i, n ≤ i → bitAt ws i = false) : Ok n ws := ⟨hn, hl, (topClear_iff hl hw).2 hc, hw⟩

theorem Ok.ext {n : Nat} {ws us : List Nat} (h : Ok n ws) (k : Ok n us) (hb : ∀ i, i < n → bitAt ws i = bitAt us i) : ws = us := by
  apply words_ext h.wb k.wb (h.len.trans k.len.symm)
  intro i _
  by_cases hi : i < n
  · exact hb i hi
  · rw [h.clear (by omega), k.clear (by omega)]

theorem Ok.hasB {n : Nat} {ws : List Nat} (h : Ok n ws) (i : Nat) : hasB n ws (i : Int) = bitAt ws i := by
  unfold Go.Proofs.YtmcbedlmgffckaaDoor.Bi.hasB
  by_cases hi : i < n
  · simp [hi]
  · have hc := h.clear (i := i) (by omega)
    simp [hc]

/-- What one number more does to the digits. -/
theorem bitAt_put {n : Nat} {ws : List Nat} (hl : ws.length = wcount n) {x : Int} (h0 : 0 ≤ x) (hx : x < n) (i : Nat) : bitAt (putW n ws x) i = (bitAt ws i || decide (i = x.toNat)) := by
  have hq : x.toNat / 64 < ws.length := by rw [hl]; unfold wcount; omega
  unfold putW
  rw [if_pos ⟨h0, hx⟩]
  unfold bitAt
  by_cases hk : i / 64 = x.toNat / 64
  · rw [hk]
    simp only [hq, List.getElem?_set_self, Option.getD_some, Nat.testBit_or, Nat.testBit_two_pow]
    congr 1
    rw [decide_eq_decide]
    omega
  · rw [List.getElem?_set_ne (fun e => hk e.symm)]
    have : decide (i = x.toNat) = false := by rw [decide_eq_false_iff_not]; intro e; apply hk; rw [e]
    rw [this, Bool.or_false]

theorem putW_out {n : Nat} {ws : List Nat} {x : Int} (h : ¬ (0 ≤ x ∧ x < n)) : putW n ws x = ws := by unfold putW; rw [if_neg h]

theorem Ok.put {n : Nat} {ws : List Nat} (h : Ok n ws) (x : Int) : Ok n (putW n ws x) := by
  by_cases hx : 0 ≤ x ∧ x < n
  · refine ok_mk h.le (by rw [putW_length]; exact h.len) (putW_wb h.wb x) ?_
    intro i hi
    rw [bitAt_put h.len hx.1 hx.2, h.clear hi, Bool.false_or, decide_eq_false_iff_not]
    omega
  · rw [putW_out hx]; exact h

theorem wb_zeros (k : Nat) : WB (List.replicate k 0) := fun x hx => by rw [List.eq_of_mem_replicate hx]; decide

theorem bitAt_zeros (k i : Nat) : bitAt (List.replicate k 0) i = false := by
  unfold bitAt
  by_cases h : i / 64 < k
  · simp [h]
  · rw [List.getElem?_eq_none (by simpa using Nat.le_of_not_lt h)]; simp

theorem ok_zeros {n : Nat} (h : n ≤ 1024) : Ok n (List.replicate (wcount n) 0) := ok_mk h (by simp) (wb_zeros _) (fun i _ => bitAt_zeros _ i)

theorem ok_foldl {n : Nat} (l : List Int) : ∀ ws, Ok n ws → Ok n (l.foldl (putW n) ws) := by
  induction l with
  | nil => intro ws h; exact h
  | cons x r ih => intro ws h; exact ih _ (h.put x)

theorem ok_of {n : Nat} (h : n ≤ 1024) (l : List Int) : Ok n (ofW n l) := ok_foldl l _ (ok_zeros h)

/-- One more that is new is one more. -/
theorem filter_one_more (p : Nat → Bool) (m x : Nat) (hx : x < m) (hp : p x = false) : ((List.range m).filter (fun i => p i || decide (i = x))).length = ((List.range m).filter p).length + 1 := by
  rw [range_split hx, List.filter_append, List.filter_append, List.filter_cons, List.filter_cons]
  have f1 : (List.range x).filter (fun i => p i || decide (i = x)) = (List.range x).filter p := by
    apply List.filter_congr; intro i hi
    have : i ≠ x := by have := List.mem_range.1 hi; omega
    simp [this]
  have f2 : ((List.range (m - x - 1)).map (· + (x + 1))).filter (fun i => p i || decide (i = x)) = ((List.range (m - x - 1)).map (· + (x + 1))).filter p := by
    apply List.filter_congr; intro i hi
    obtain ⟨j, _, rfl⟩ := List.mem_map.1 hi
    have : j + (x + 1) ≠ x := by omega
    simp [this]
  rw [f1, f2, hp]
  simp
  omega

theorem count_put {n : Nat} {ws : List Nat} (h : Ok n ws) {x : Int} (h0 : 0 ≤ x) (hx : x < n) (hb : bitAt ws x.toNat = false) : (nums (putW n ws x)).length = (nums ws).length + 1 := by
  rw [nums_eq, nums_eq, putW_length]
  have e : (fun i => bitAt (putW n ws x) i) = fun i => bitAt ws i || decide (i = x.toNat) := by funext i; exact bitAt_put h.len h0 hx i
  rw [e]
  exact filter_one_more _ _ _ (by rw [h.len]; unfold wcount; omega) hb

theorem count_le {n : Nat} {ws : List Nat} (h : Ok n ws) : (nums ws).length ≤ n := by
  rw [nums_eq]
  have e : List.range (64 * ws.length) = List.range n ++ (List.range (64 * ws.length - n)).map (n + ·) := by
    rw [← List.range_add]
    congr 1
    rw [h.len]; unfold wcount; omega
  rw [e, List.filter_append]
  have f : ((List.range (64 * ws.length - n)).map (n + ·)).filter (fun i => bitAt ws i) = [] := by
    rw [List.filter_eq_nil_iff]
    intro i hi
    obtain ⟨j, _, rfl⟩ := List.mem_map.1 hi
    rw [h.clear (by omega)]
    simp
  rw [f, List.append_nil]
  have := List.length_filter_le (fun i => bitAt ws i) (List.range n)
  simpa using this

theorem put_same_iff {n : Nat} {ws : List Nat} (h : Ok n ws) (x : Int) : ws = putW n ws x ↔ (hasB n ws x = true ∨ x < 0 ∨ (n : Int) ≤ x) := by
  by_cases hx : 0 ≤ x ∧ x < n
  · have hh : hasB n ws x = bitAt ws x.toNat := by
      have := h.hasB x.toNat
      rw [Int.toNat_of_nonneg hx.1] at this
      exact this
    rw [hh]
    constructor
    · intro e
      have := bitAt_put h.len hx.1 hx.2 x.toNat
      rw [← e] at this
      simp only [decide_true, Bool.or_true] at this
      exact .inl this
    · rintro (hb | hb | hb)
      · apply h.ext (h.put x)
        intro i _
        rw [bitAt_put h.len hx.1 hx.2]
        by_cases e : i = x.toNat
        · rw [e, hb]; simp
        · simp [e]
      · omega
      · omega
  · rw [putW_out hx]
    simp only [true_iff]
    omega
end Go.Proofs.YtmcbedlmgffckaaDoor.Bi

namespace Go.Proofs.YtmcbedlmgffckaaDoor.Bi
open Go Go.RowKit Go.Sort

/-- With, of a set that may be. -/
theorem With_ok (v : Value) (n : Nat) (ws : List Nat) (i : Int) (w : World) (hv : SV w v (n : Int) ws) (h : Ok n ws) :
    Calls Tryd.prog 55 #[v, .int .i64 i] w fun e w' => ∃ a' cap', e = .returned (.agg #[.int .i64 (n : Int), .slice a' ws.length cap']) ∧ FreshV w.heap.size w' a' (putW n ws i) ∧ Below w.heap.size w w' := by
  have h1 := With_any v n ws i w hv (by have := h.len16; omega) h.wb
  rw [(nrm_of_ok h).1, (nrm_of_ok h).2] at h1
  exact h1

theorem leq_put {n : Nat} {ws : List Nat} (h : Ok n ws) (x : Int) : leqB ws n (putW n ws x) = true := by
  unfold leqB
  rw [List.all_eq_true]
  intro i hi
  rw [(h.put x).hasB]
  have hb := mem_nums.1 hi
  by_cases hx : 0 ≤ x ∧ x < n
  · rw [bitAt_put h.len hx.1 hx.2, hb]; rfl
  · rw [putW_out hx]; exact hb

theorem Leq_ok (va vb : Value) (n m : Nat) (ws us : List Nat) (w : World) (hva : SV w va (n : Int) ws) (hvb : SV w vb (m : Int) us) (h : Ok n ws) (k : Ok m us) (hT : Tab w) :
    Calls Tryd.prog 34 #[va, vb] w fun e w' => e = .returned (.bool (leqB ws m us)) ∧ Below w.heap.size w w' := by
  have h1 := Leq_any va vb n m ws us w hva hvb (by have := h.len16; omega) (by have := k.len16; omega) h.wb k.wb hT
  rw [(nrm_of_ok h).2, (nrm_of_ok k).1, (nrm_of_ok k).2] at h1
  exact h1

theorem Same_ok (va vb : Value) (n m : Nat) (ws us : List Nat) (w : World) (hva : SV w va (n : Int) ws) (hvb : SV w vb (m : Int) us) (h : Ok n ws) (k : Ok m us) :
    Calls Tryd.prog 43 #[va, vb] w fun e w' => e = .returned (.bool (decide (n = m ∧ ws = us))) ∧ Below w.heap.size w w' := by
  have h1 := Same_any va vb n m ws us w hva hvb (by have := h.len16; omega) (by have := k.len16; omega) h.wb k.wb
  rw [(nrm_of_ok h).1, (nrm_of_ok h).2, (nrm_of_ok k).1, (nrm_of_ok k).2] at h1
  exact h1

theorem Has_ok (v : Value) (n : Nat) (ws : List Nat) (i : Int) (w : World) (hv : SV w v (n : Int) ws) (h : Ok n ws) :
    Calls Tryd.prog 41 #[v, .int .i64 i] w fun e w' => e = .returned (.bool (hasB n ws i)) ∧ Below w.heap.size w w' := by
  have h1 := Has_any v n ws i w hv (by have := h.len16; omega) h.wb
  rw [(nrm_of_ok h).1, (nrm_of_ok h).2] at h1
  exact h1

end Go.Proofs.YtmcbedlmgffckaaDoor.Bi

namespace Go.Proofs.YtmcbedlmgffckaaDoor.Bi
open Go Go.RowKit Go.Sort Go.Shelf

attribute [local go_sem] Oper.semAt_some

theorem Tryd_info3 : (Tryd.prog.info? 3).map (fun i => (i.zero, i.size, i.bytes)) = some (some (.int .i64 0), 1, 8) := by kernel_rfl

def encI (x : Nat) : Value := .int .i64 (x : Int)

end Go.Proofs.YtmcbedlmgffckaaDoor.Bi

namespace Go.Proofs.YtmcbedlmgffckaaDoor.Bi
open Go Go.RowKit Go.Sort







/-- Numbers of the call's own, as a slice that is read. -/
theorem is_of_owns {n0 : Nat} {W : World} {u : Value} {xs : List Nat} (h : W.ownsRow n0 3 1 u xs.length (xs.map encI)) : ∃ a cap, u = .slice a xs.length cap ∧ Is W.heap.size W a (xs.map fun (x : Nat) => (x : Int)) := by
  obtain ⟨_, ⟨rfl, h0⟩ | ⟨g, cap, cur, rfl, hb, hc, hle, _, hsz, htk⟩⟩ := h
  · have := List.eq_nil_of_length_eq_zero h0
    subst this
    exact ⟨none, 0, rfl, fun j hj => absurd hj (Nat.not_lt_zero _)⟩
  · refine ⟨_, cap, rfl, fun j hj => ?_⟩
    simp only [List.length_map] at hj
    refine ⟨g, 0, rfl, (Array.getElem?_eq_some_iff.1 hc).1, ?_⟩
    have e : (cur.toList.take (xs.length * 1))[j]? = (xs.map encI)[j]? := by rw [htk]
    rw [Nat.mul_one, List.getElem?_take_of_lt hj] at e
    have e2 : cur[j]? = some (encI (xs[j]?.getD 0)) := by
      rw [← Array.getElem?_toList, e]
      simp [hj]
    have e3 : (xs.map fun (x : Nat) => (x : Int))[j]?.getD 0 = ((xs[j]?.getD 0 : Nat) : Int) := by simp [hj]
    rw [e3, Nat.zero_add]
    simp only [World.cell?, hc]
    simpa [encI] using e2

/-- A fold of puts: its digits. -/
theorem bitAt_foldl {n : Nat} (l : List Int) : ∀ ws, ws.length = wcount n → ∀ i, bitAt (l.foldl (putW n) ws) i = (bitAt ws i || l.any (fun x => decide (0 ≤ x ∧ x < n ∧ x.toNat = i))) := by
  induction l with
  | nil => intro ws _ i; simp
  | cons x r ih =>
    intro ws hl i
    rw [List.foldl_cons, ih _ (by rw [putW_length]; exact hl), List.any_cons]
    by_cases hx : 0 ≤ x ∧ x < n
    · rw [bitAt_put hl hx.1 hx.2, Bool.or_assoc]
      congr 2
      rw [decide_eq_decide]
      omega
    · rw [putW_out hx]
      have : decide (0 ≤ x ∧ x < (n : Int) ∧ x.toNat = i) = false := by rw [decide_eq_false_iff_not]; intro h; exact hx ⟨h.1, h.2.1⟩
      rw [this, Bool.false_or]

theorem bitAt_of {n : Nat} (l : List Int) (i : Nat) : bitAt (ofW n l) i = l.any (fun x => decide (0 ≤ x ∧ x < n ∧ x.toNat = i)) := by
  unfold ofW
  rw [bitAt_foldl l _ (by simp), bitAt_zeros, Bool.false_or]

/-- A set is the set of its numbers. -/
theorem of_nums {n : Nat} {ws : List Nat} (h : Ok n ws) : ofW n ((nums ws).map fun (x : Nat) => (x : Int)) = ws := by
  apply (ok_of h.le _).ext h
  intro i hi
  rw [bitAt_of, Bool.eq_iff_iff]
  simp only [List.any_eq_true, List.mem_map, decide_eq_true_eq]
  constructor
  · rintro ⟨x, ⟨y, hy, rfl⟩, _, _, he⟩
    have : y = i := by simpa using he
    rw [← this]
    exact mem_nums.1 hy
  · intro hb
    exact ⟨(i : Int), ⟨i, mem_nums.2 hb, rfl⟩, by omega, by omega, by simp⟩

theorem nums_sorted (ws : List Nat) : (nums ws).Pairwise (· < ·) := by
  rw [nums_eq]
  exact List.Pairwise.filter _ List.pairwise_lt_range
end Go.Proofs.YtmcbedlmgffckaaDoor.Bi

namespace Go.Proofs.YtmcbedlmgffckaaDoor.Bi
open Go Go.RowKit Go.Sort Go.Shelf

set_option maxHeartbeats 1000000 in
theorem wordAt_any (n : Int) (a : Option Addr) (ws : List Nat) (cap k x : Nat) (w : World) (hWd : Wd w.heap.size w a ws) (hx : Hid (ws[k]?.getD 0 = x)) :
    Calls Tryd.prog 98 #[.agg #[.int .i64 n, .slice a ws.length cap], .int .i64 (k : Int)] w fun e w' => e = .returned (.int .u64 (x : Int)) ∧ Below w.heap.size w w' := by
  have hW1 : Below w.heap.size w (w.alloc (.cells #[.int .i64 n, .slice a ws.length cap] 38)) := (Below.refl _ _).alloc (Nat.le_refl _) _
  by_cases hlt : k < ws.length
  · obtain ⟨b, o, rfl, hb, hc⟩ := hWd k hlt
    rw [hx.out] at hc
    have hc1 := (hW1.cell (p := ⟨b, o + k, none⟩) hb).trans hc
    obtain ⟨L, hL⟩ : ∃ L, ws.length = L := ⟨_, rfl⟩
    rw [hL] at hlt hc1 hW1 ⊢
    have d0 : decide ((L : Int) ≤ (k : Int)) = false := by simp; omega
    have d1 : decide (L ≤ k) = false := by simp; omega
    have g1 : (k : Int) < (L : Int) := by omega
    have HW1 := Lib.hid hW1
    clear hL hc hWd hW1
    go_enter Tryd.func98, Tryd.ntmps98
    go_wp2
    go_ret
    exact ⟨rfl, HW1.out⟩
  · have hx0 : x = 0 := by rw [← hx.out, List.getElem?_eq_none (by omega)]; rfl
    subst hx0
    have d0 : decide ((ws.length : Int) ≤ (k : Int)) = true := by simp; omega
    have d1 : decide (ws.length ≤ k) = true := by simp; omega
    have g1 : (ws.length : Int) ≤ (k : Int) := by omega
    have HW1 := Lib.hid hW1
    clear hWd hW1
    go_enter Tryd.func98, Tryd.ntmps98
    go_wp2
    go_ret
    exact ⟨rfl, HW1.out⟩

/-- What a pair of words makes, by the function number cf. -/
structure WordFn (cf : Nat) (f : Nat → Nat → Nat) : Prop where
  enters : ∀ (args : Array Value) (w : World), (callFunc cf args).run Tryd.prog w = .ok (.enter cf args) w
  calls : ∀ (x y : Nat) (w : World), x < M64 → y < M64 → Calls Tryd.prog cf #[.int .u64 (x : Int), .int .u64 (y : Int)] w fun e w' => e = .returned (.int .u64 ((f x y : Nat) : Int)) ∧ w = w'
  lt : ∀ x y, x < M64 → y < M64 → f x y < M64
  zero : f 0 0 = 0

def orN (x y : Nat) : Nat := x ||| y
def andN (x y : Nat) : Nat := x &&& y
def minusN (x y : Nat) : Nat := x &&& (18446744073709551615 - y)

theorem wf_or : WordFn 65 orN := ⟨enters_of Tryd.func65 (by kernel_rfl) rfl, fun x y w hx hy => by
    have e := u64_or_nat x y hx hy
    obtain ⟨z, hz⟩ : ∃ z, x ||| y = z := ⟨_, rfl⟩
    unfold orN
    rw [hz] at e ⊢
    clear hz
    go_enter Tryd.func65, Tryd.ntmps65
    go_wp2
    go_ret
    exact ⟨rfl, rfl⟩, fun x y hx hy => or_lt_M64 hx hy, rfl⟩

theorem wf_minus : WordFn 91 minusN := ⟨enters_of Tryd.func91 (by kernel_rfl) rfl, fun x y w hx hy => by
    have e := u64_andNot_nat x y hx hy
    obtain ⟨z, hz⟩ : ∃ z, x &&& (18446744073709551615 - y) = z := ⟨_, rfl⟩
    unfold minusN
    rw [hz] at e ⊢
    clear hz
    go_enter Tryd.func91, Tryd.ntmps91
    go_wp2
    go_ret
    exact ⟨rfl, rfl⟩, fun x y hx _ => Nat.lt_of_le_of_lt Nat.and_le_left hx, by decide⟩



/-- What has been made of pairs of words when q of them are done. -/
def combTo (f : Nat → Nat → Nat) (K q : Nat) (wa wb : List Nat) : List Nat := (List.range K).map fun j => if j < q then f (wa[j]?.getD 0) (wb[j]?.getD 0) else 0
def combW (f : Nat → Nat → Nat) (K : Nat) (wa wb : List Nat) : List Nat := (List.range K).map fun j => f (wa[j]?.getD 0) (wb[j]?.getD 0)

theorem combTo_length (f : Nat → Nat → Nat) (K q : Nat) (wa wb : List Nat) : (combTo f K q wa wb).length = K := by simp [combTo]
theorem combTo_zero (f : Nat → Nat → Nat) (K : Nat) (wa wb : List Nat) : combTo f K 0 wa wb = List.replicate K 0 := by
  apply List.ext_getElem
  · simp [combTo]
  · intro i h1 h2; simp [combTo]
theorem combTo_succ (f : Nat → Nat → Nat) (K q : Nat) (wa wb : List Nat) : (combTo f K q wa wb).set q (f (wa[q]?.getD 0) (wb[q]?.getD 0)) = combTo f K (q + 1) wa wb := by
  apply List.ext_getElem
  · simp [combTo]
  · intro i h1 h2
    rw [List.getElem_set]
    simp only [combTo, List.getElem_map, List.getElem_range]
    split
    · rename_i e; subst e; simp
    · rename_i e
      by_cases h : i < q
      · have : i < q + 1 := by omega
        simp [h, this]
      · have : ¬ i < q + 1 := by omega
        simp [h, this]
theorem combTo_all (f : Nat → Nat → Nat) (K : Nat) (wa wb : List Nat) : combTo f K K wa wb = combW f K wa wb := by
  apply List.ext_getElem
  · simp [combTo, combW]
  · intro i h1 h2
    simp [combTo] at h1
    simp [combTo, combW, h1]
theorem combW_length (f : Nat → Nat → Nat) (K : Nat) (wa wb : List Nat) : (combW f K wa wb).length = K := by simp [combW]

theorem grownBy_setc {w w1 : World} (h : Below w.heap.size w w1) (g j : Nat) (v : Value) : w.grownBy (w1.setCell ⟨g, j, none⟩ v) (some g) :=
  ⟨h.os, h.tape, h.output, by have := h.size; simpa [World.setCell] using this, fun k hk hne => (Below.heap_setCell w1 ⟨g, j, none⟩ v k (fun e => hne (by rw [e]))).trans (h.block k hk)⟩
end Go.Proofs.YtmcbedlmgffckaaDoor.Bi

namespace Go.Proofs.YtmcbedlmgffckaaDoor.Bi
open Go Go.RowKit Go.Sort

set_option maxRecDepth 100000 in
set_option maxHeartbeats 4000000 in
theorem combine_any (cf : Nat) (f : Nat → Nat → Nat) (hf : WordFn cf f) (va vb : Value) (na nb : Int) (wa wb : List Nat) (w : World) (hva : SV w va na wa) (hvb : SV w vb nb wb) (hla : wa.length ≤ 30) (hlb : wb.length ≤ 30) (hBa : WB wa) (hBb : WB wb) :
    Calls Tryd.prog 64 #[va, vb, .func (.func cf) #[] #[]] w fun e w' => ∃ g, e = .returned (.agg #[.int .i64 (max (nrm na wa) (nrm nb wb) : Nat), .slice (some ⟨g, 0, none⟩) (wcount (max (nrm na wa) (nrm nb wb))) (wcount (max (nrm na wa) (nrm nb wb)))]) ∧
      Fresh w.heap.size w' g (combW f (wcount (max (nrm na wa) (nrm nb wb))) (nrmW na wa) (nrmW nb wb)) ∧ Below w.heap.size w w' := by
  have hva0 := hva
  have hvb0 := hvb
  obtain ⟨aa, capa, rfl, hWda⟩ := hva
  obtain ⟨ab, capb, rfl, hWdb⟩ := hvb
  have hW3 : Below w.heap.size w (((w.alloc (.cells #[.int .i64 na, .slice aa wa.length capa] 38)).alloc (.cells #[.int .i64 nb, .slice ab wb.length capb] 38)).alloc (.cells #[.int .i64 0, .slice none 0 0] 38)) := (((Below.refl _ _).alloc (Nat.le_refl _) _).alloc (by simp) _).alloc (by simp; omega) _
  have HSb := Lib.hid (fun W (hW : Below w.heap.size w W) => saneOrEmpty_any w.heap.size _ nb wb W (SVB.below hvb0 hW) hW.size hlb)
  have HSa := Lib.hid (fun W (hW : Below w.heap.size w W) => saneOrEmpty_any w.heap.size _ na wa W (SVB.below hva0 hW) hW.size hla)
  have HOa := Lib.hid (nrm_ok (n := na) hBa)
  have HOb := Lib.hid (nrm_ok (n := nb) hBb)
  have BA := (((Box.new w (.int .i64 na) (.slice aa wa.length capa) 38).alloc (.cells #[.int .i64 nb, .slice ab wb.length capb] 38)).alloc (.cells #[.int .i64 0, .slice none 0 0] 38)).drew
  have BB := ((Box.new (w.alloc (.cells #[.int .i64 na, .slice aa wa.length capa] 38)) (.int .i64 nb) (.slice ab wb.length capb) 38).alloc (.cells #[.int .i64 0, .slice none 0 0] 38)).drew
  have BR := (Box.new ((w.alloc (.cells #[.int .i64 na, .slice aa wa.length capa] 38)).alloc (.cells #[.int .i64 nb, .slice ab wb.length capb] 38)) (.int .i64 0) (.slice none 0 0) 38).drew
  simp only [World.size_alloc] at BB BR
  have HW3 := Lib.hid hW3.drew
  generalize hW : ((w.alloc (.cells #[.int .i64 na, .slice aa wa.length capa] 38)).alloc (.cells #[.int .i64 nb, .slice ab wb.length capb] 38)).alloc (.cells #[.int .i64 0, .slice none 0 0] 38) = W3 at *
  clear hva0 hvb0 hWda hWdb hW3
  generalize nrm na wa = na' at *
  generalize nrmW na wa = wa' at *
  generalize nrm nb wb = nb' at *
  generalize nrmW nb wb = wb' at *
  obtain ⟨a0, a1, a2, a3⟩ := id BA
  obtain ⟨b0, b1, b2, b3⟩ := id BB
  obtain ⟨N, hN⟩ : ∃ N, max na' nb' = N := ⟨_, rfl⟩
  rw [hN]
  have hN1024 : N ≤ 1024 := by have := HOa.out.le; have := HOb.out.le; omega
  have HN := Lib.hid hN
  clear hN
  obtain ⟨K, hK⟩ : ∃ K, wcount N = K := ⟨_, rfl⟩
  rw [hK]
  have hK16 : K ≤ 16 := by rw [← hK]; exact wcount_le hN1024
  have HK := Lib.hid hK
  clear hK
  have HWF := Lib.hid hf
  clear hf
  go_enter Tryd.func64, Tryd.ntmps64
  go_upto_region 1 with fail
  go_cut [] (fun wx => ∃ aa' capa' ab' capb', Hid (Box wx w.heap.size (.int .i64 (na' : Int)) (.slice aa' wa'.length capa')) ∧ Hid (Box wx (w.heap.size + 1) (.int .i64 (nb' : Int)) (.slice ab' wb'.length capb')) ∧ Hid (Box wx (w.heap.size + 1 + 1) (.int .i64 0) (.slice none 0 0)) ∧ Hid (Wd w.heap.size wx aa' wa') ∧ Hid (Wd w.heap.size wx ab' wb') ∧ Hid (Below w.heap.size w wx))
  case first =>
    go_region_with (first
      | (go_at_call_of 71 (Value.slice aa wa.length capa); refine (HSa.out _ HW3.out).mono ?_; clear HSa; rintro e w1 ⟨u, rfl, hsv, hb⟩; obtain ⟨aa', capa', rfl, hWda'⟩ := hsv; have hb1 := HW3.out.trans (hb.mono HW3.out.size); have BB1 := BB.below hb BB.lt; have BA1 := BA.below hb BA.lt; have BR1 := BR.below hb BR.lt; obtain ⟨b01, b11, b21, b31⟩ := id BB1; have HBW := Lib.hid hb1; clear hb hb1)
      | (go_at_call_of 71 (Value.slice ab wb.length capb); refine (HSb.out _ HBW.out).mono ?_; clear HSb; rintro e w2 ⟨u, rfl, hsv, hb⟩; obtain ⟨ab', capb', rfl, hWdb'⟩ := hsv; have hb2 := HBW.out.trans (hb.mono HBW.out.size); have BB2 := BB1.below hb BB1.lt; have BA2 := BA1.below hb BA1.lt; have BR2 := BR1.below hb BR1.lt; have hWda2 := hWda'.below (hb.mono HBW.out.size); obtain ⟨b02, b12, b22, b32⟩ := id BB2; obtain ⟨a02, a12, a22, a32⟩ := id BA2; have HBW2 := Lib.hid hb2; clear hb hb2))
    all_goals
      go_wp2_with fail
      go_meet
      have HP := (below_put2 (below_put2 (Below.refl w.heap.size w2) (b := w.heap.size) (Nat.le_refl _) (.int .i64 (na' : Int)) (.slice aa' wa'.length capa')) (b := w.heap.size + 1) (by omega) (.int .i64 (nb' : Int)) (.slice ab' wb'.length capb'))
      exact ⟨aa', capa', ab', capb', (BA2.put _ _).other (by omega) _ _, (BB2.other (by omega) _ _).put _ _, (BR2.other (by omega) _ _).other (by omega) _ _, hWda2.below HP, hWdb'.below HP, HBW2.out.trans HP⟩
  case rest =>
    obtain ⟨aa', capa', ab', capb', hBA, hBB, hBR, hwa, hwb, hB⟩ := hcut
    clear BA BB BR hW HW3 HSa HSb a0 a1 a2 a3 b0 b1 b2 b3
    obtain ⟨x0, x1, _, _⟩ := id hBA.out
    obtain ⟨y0, y1, _, _⟩ := id hBB.out
    have hnewN : Hid (∀ M : Nat, M = N → Calls Tryd.prog 29 #[.int .i64 (M : Int)] wc fun e w' => ∃ g, e = .returned (.agg #[.int .i64 (N : Int), .slice (some ⟨g, 0, none⟩) K K]) ∧ Fresh wc.heap.size w' g (List.replicate K 0) ∧ Below wc.heap.size wc w') := by
      rintro M rfl
      have h := new_any (M : Int) wc
      have hcl : clampN (M : Int) = M := by
        unfold clampN
        rw [if_neg (by omega), if_neg (by omega)]
        simp
      rw [hcl, HK.out] at h
      exact h
    obtain ⟨wd, hwd⟩ : ∃ wd : World, wd = wc := ⟨_, rfl⟩
    subst hwd
    go_upto_region 2 with fail
    go_cut [7] (fun s7 wx => ∃ g b7, s7 = .pointer (some ⟨b7, 0, none⟩) ∧ Hid (Box wx b7 (.int .i64 (N : Int)) (.slice (some ⟨g, 0, none⟩) K K)) ∧ Hid (Fresh w.heap.size wx g (List.replicate K 0)) ∧ Hid (wd.heap.size ≤ g ∧ g < b7) ∧ Hid (Below wd.heap.size wd wx))
    case first =>
      by_cases hlt : na' < nb'
      · have hNb : nb' = N := by have := HN.out; omega
        have hi1 : (na' : Int) < (nb' : Int) := by omega
        have HNb := Lib.hid hNb
        clear hNb
        go_wp2_with fail
        refine (hnewN.out _ HNb.out).mono ?_
        rintro e w4 ⟨g, rfl, hF, hb4⟩
        have HF := Lib.hid hF
        have HB4 := Lib.hid hb4
        clear hF hb4
        go_wp2_with fail
        go_meet
        exact ⟨g, w4.heap.size, rfl, Box.new _ _ _ _, (HF.out.below ((Below.refl _ _).alloc (Nat.le_refl _) _) HF.out.lt).base hB.out.size, ⟨HF.out.1, HF.out.lt⟩, HB4.out.alloc HB4.out.size _⟩
      · have hNa : na' = N := by have := HN.out; omega
        have hi1 : (nb' : Int) ≤ (na' : Int) := by omega
        have HNa := Lib.hid hNa
        clear hNa
        go_wp2_with fail
        refine (hnewN.out _ HNa.out).mono ?_
        rintro e w4 ⟨g, rfl, hF, hb4⟩
        have HF := Lib.hid hF
        have HB4 := Lib.hid hb4
        clear hF hb4
        go_wp2_with fail
        go_meet
        exact ⟨g, w4.heap.size, rfl, Box.new _ _ _ _, (HF.out.below ((Below.refl _ _).alloc (Nat.le_refl _) _) HF.out.lt).base hB.out.size, ⟨HF.out.1, HF.out.lt⟩, HB4.out.alloc HB4.out.size _⟩
    case rest =>
      obtain ⟨g, b7, rfl, hB7, hFg, hgb, hBd⟩ := hcut
      clear x0 x1 y0 y1 hnewN
      have hwa0 := hwa.out.back hB.out
      have hwb0 := hwb.out.back hB.out
      have HWA := Lib.hid hwa0
      have HWB := Lib.hid hwb0
      have hBAc := hBA.out.below hBd.out hBA.out.lt
      have hBBc := hBB.out.below hBd.out hBB.out.lt
      have hBRc := hBR.out.below hBd.out hBR.out.lt
      have hBc : Below w.heap.size w wc := hB.out.trans (hBd.out.mono hB.out.size)
      have hgs : w.heap.size + 3 ≤ g := by have h1 := hgb.out.1; have h2 := hBR.out.lt; omega
      have hgb7 : g < b7 := hgb.out.2
      obtain ⟨z0, z1, _, _⟩ := id hB7.out
      have hF0 : Fresh w.heap.size wc g (combTo f K 0 wa' wb') := by rw [combTo_zero]; exact hFg.out
      clear hwa0 hwb0 hwa hwb hFg hgb hBd hBA hBB hBR hB
      go_wp2_with fail
      go_loopg [22] K (fun gk s22 wr => ∃ q : Nat, gk = K - q ∧ q ≤ K ∧ s22 = .int .i64 q ∧ Hid (Box wr w.heap.size (.int .i64 (na' : Int)) (.slice aa' wa'.length capa')) ∧ Hid (Box wr (w.heap.size + 1) (.int .i64 (nb' : Int)) (.slice ab' wb'.length capb')) ∧ Hid (Box wr (w.heap.size + 1 + 1) (.int .i64 0) (.slice none 0 0)) ∧ Hid (Box wr b7 (.int .i64 (N : Int)) (.slice (some ⟨g, 0, none⟩) K K)) ∧ Hid (Fresh w.heap.size wr g (combTo f K q wa' wb')) ∧ Hid (Below w.heap.size w wr))
      case atStart => exact ⟨0, rfl, Nat.zero_le _, rfl, hBAc, hBBc, hBRc, hB7, hF0, hBc⟩
      case round =>
        clear hBAc hBBc hBRc hB7 hF0 hBc z0 z1
        obtain ⟨q, hgk, hq, rfl, hBA, hBB, hBR, hB7, hFr, hB⟩ := hrel
        have HGK := Lib.hid hgk
        clear hgk
        by_cases hlt : q < K
        · obtain ⟨x, hx⟩ : ∃ x, wa'[q]?.getD 0 = x := ⟨_, rfl⟩
          obtain ⟨y, hy⟩ : ∃ y, wb'[q]?.getD 0 = y := ⟨_, rfl⟩
          obtain ⟨z, hz⟩ : ∃ z, f x y = z := ⟨_, rfl⟩
          have hxm : x < M64 := by rw [← hx]; exact HOa.out.wb.at q
          have hym : y < M64 := by rw [← hy]; exact HOb.out.wb.at q
          have HWx : Hid (∀ W, Below wr.heap.size wr W → Calls Tryd.prog 98 #[.agg #[.int .i64 (na' : Int), .slice aa' wa'.length capa'], .int .i64 (q : Int)] W fun e w' => e = .returned (.int .u64 (x : Int)) ∧ Below W.heap.size W w') := fun W hW =>
            wordAt_any (na' : Int) aa' wa' capa' q x W (((HWA.out.below hB.out).below (hW.mono hB.out.size)).mono (Nat.le_trans hB.out.size hW.size)) hx
          have HWy : Hid (∀ W, Below wr.heap.size wr W → Calls Tryd.prog 98 #[.agg #[.int .i64 (nb' : Int), .slice ab' wb'.length capb'], .int .i64 (q : Int)] W fun e w' => e = .returned (.int .u64 (y : Int)) ∧ Below W.heap.size W w') := fun W hW =>
            wordAt_any (nb' : Int) ab' wb' capb' q y W (((HWB.out.below hB.out).below (hW.mono hB.out.size)).mono (Nat.le_trans hB.out.size hW.size)) hy
          have HCF : Hid (∀ W, Calls Tryd.prog cf #[.int .u64 (x : Int), .int .u64 (y : Int)] W fun e w' => e = .returned (.int .u64 (z : Int)) ∧ W = w') := fun W => by
            have h := HWF.out.calls x y W hxm hym
            rw [hz] at h
            exact h
          have hent := HWF.out.enters
          have hgl := hFr.out.lt
          have hFl : q < (combTo f K q wa' wb').length := by rw [combTo_length]; exact hlt
          have HS9 : Hid (∀ W, Below wr.heap.size wr W → (∃ v9, W.cell? ⟨g, q, none⟩ = some (.int .u64 v9)) ∧ W.frozen? ⟨g, q, none⟩ = false) := fun W hW =>
            ⟨⟨_, (hFr.out.below hW hgl).cellAt hFl⟩, (hFr.out.below hW hgl).frozenAt q⟩
          have hnext : Hid ((combTo f K q wa' wb').set q z = combTo f K (q + 1) wa' wb') := by
            show (combTo f K q wa' wb').set q z = combTo f K (q + 1) wa' wb'
            rw [← hz, ← hx, ← hy]
            exact combTo_succ f K q wa' wb'
          have hS : Hid (∀ W, wr.grownBy W (some g) → W.cell? ⟨w.heap.size, 0, none⟩ = some (.int .i64 (na' : Int)) ∧ W.cell? ⟨w.heap.size, 1, none⟩ = some (.slice aa' wa'.length capa') ∧ W.cell? ⟨w.heap.size + 1, 0, none⟩ = some (.int .i64 (nb' : Int)) ∧ W.cell? ⟨w.heap.size + 1, 1, none⟩ = some (.slice ab' wb'.length capb') ∧ W.cell? ⟨b7, 1, none⟩ = some (.slice (some ⟨g, 0, none⟩) K K)) := fun W h =>
            ⟨(hBA.out.grown h (by simp; omega)).c0, (hBA.out.grown h (by simp; omega)).c1, (hBB.out.grown h (by simp; omega)).c0, (hBB.out.grown h (by simp; omega)).c1, (hB7.out.grown h (by simp; omega)).c1⟩
          have HBN : Hid (Below wr.heap.size wr wr.drew) := (Below.refl _ _).drew
          have hqi : (q : Int) < (K : Int) := by omega
          have hqi0 : (0 : Int) ≤ (q : Int) := by omega
          clear hx hy hz hxm hym hFl
          go_wp2_with fail
          go_region_held3 (fun w' => w'.cell? ⟨w.heap.size, 0, none⟩ = some (.int .i64 (na' : Int)) ∧ w'.cell? ⟨w.heap.size, 1, none⟩ = some (.slice aa' wa'.length capa') ∧ w'.cell? ⟨w.heap.size + 1, 0, none⟩ = some (.int .i64 (nb' : Int)) ∧ w'.cell? ⟨w.heap.size + 1, 1, none⟩ = some (.slice ab' wb'.length capb') ∧ w'.cell? ⟨b7, 1, none⟩ = some (.slice (some ⟨g, 0, none⟩) K K))
            (first | exact hS.out _ (grownBy_of_below HBN.out _) | exact hS.out _ (grownBy_setc HBN.out g _ _))
            (first
              | (go_at_call_of 98 (Value.slice aa' wa'.length capa'); refine (HWx.out _ HBN.out).mono ?_; rintro e wn ⟨rfl, hbn⟩; have hbx := HBN.out.trans (hbn.mono HBN.out.size); clear HBN hbn; have HBN := Lib.hid hbx; clear hbx)
              | (go_at_call_of 98 (Value.slice ab' wb'.length capb'); refine (HWy.out _ HBN.out).mono ?_; rintro e wn ⟨rfl, hbn⟩; have hbx := HBN.out.trans (hbn.mono HBN.out.size); clear HBN hbn; obtain ⟨⟨v9, c9⟩, f9⟩ := HS9.out _ hbx; have HBN := Lib.hid hbx; clear hbx)
              | (refine (HCF.out _).mono ?_; rintro e wm ⟨rfl, rfl⟩))
          have hg6 := grownBy_setc HBN.out g q (.int .u64 (z : Int))
          have hF6 : Fresh w.heap.size (wn.setCell ⟨g, q, none⟩ (.int .u64 (z : Int))) g (combTo f K (q + 1) wa' wb') := by
            rw [← hnext.out]
            exact (hFr.out.below HBN.out hgl).set _ _
          have H1 := Lib.hid (hBA.out.grown hg6 (by simp; omega))
          have H2 := Lib.hid (hBB.out.grown hg6 (by simp; omega))
          have H3 := Lib.hid (hBR.out.grown hg6 (by simp; omega))
          have H4 := Lib.hid (hB7.out.grown hg6 (by simp; omega))
          have H5 := Lib.hid (Below.grownBy hB.out hg6 hB.out.size (by omega))
          have H6 := Lib.hid hF6
          clear hent hg6 hF6 c9 f9
          go_wp2
          go_roundg (K - (q + 1))
          case measure => have := HGK.out; omega
          case rel => exact ⟨q + 1, rfl, by omega, by go_num, H1, H2, H3, H4, H6, H5⟩
        · obtain rfl : q = K := by omega
          obtain ⟨x0, x1, _, _⟩ := id hB7.out
          obtain ⟨y0, y1, f0, f1⟩ := id hBR.out
          have hFe := hFr.out
          rw [combTo_all] at hFe
          have HFe := Lib.hid hFe
          clear hFe
          go_wp2
          have hput := below_put2 hB.out (b := w.heap.size + 1 + 1) (by omega) (.int .i64 (N : Int)) (.slice (some ⟨g, 0, none⟩) q q)
          exact bodyPost_ret (v := .agg #[.int .i64 (N : Int), .slice (some ⟨g, 0, none⟩) q q]) (by simp [results, Tryd.results64, go_sem, y0, y1]) rfl ⟨g, rfl, HFe.out.block (heap_put2 _ _ _ _ _ (by omega)), hput⟩
end Go.Proofs.YtmcbedlmgffckaaDoor.Bi

namespace Go.Proofs.YtmcbedlmgffckaaDoor.Bi
open Go Go.RowKit Go.Sort

/-- Two sets that may be, made one: its words. -/
def joinW (f : Nat → Nat → Nat) (n m : Nat) (wa wb : List Nat) : List Nat := combW f (wcount (max n m)) wa wb

set_option maxRecDepth 100000 in
set_option maxHeartbeats 2000000 in
theorem Union_any (va vb : Value) (na nb : Int) (wa wb : List Nat) (w : World) (hva : SV w va na wa) (hvb : SV w vb nb wb) (hla : wa.length ≤ 30) (hlb : wb.length ≤ 30) (hBa : WB wa) (hBb : WB wb) :
    Calls Tryd.prog 28 #[va, vb] w fun e w' => ∃ g, e = .returned (.agg #[.int .i64 (max (nrm na wa) (nrm nb wb) : Nat), .slice (some ⟨g, 0, none⟩) (wcount (max (nrm na wa) (nrm nb wb))) (wcount (max (nrm na wa) (nrm nb wb)))]) ∧
      Fresh w.heap.size w' g (joinW orN (nrm na wa) (nrm nb wb) (nrmW na wa) (nrmW nb wb)) ∧ Below w.heap.size w w' := by
  have hva0 := hva
  have hvb0 := hvb
  obtain ⟨aa, capa, rfl, hWda⟩ := hva
  obtain ⟨ab, capb, rfl, hWdb⟩ := hvb
  have hW3 : Below w.heap.size w (((w.alloc (.cells #[.int .i64 na, .slice aa wa.length capa] 38)).alloc (.cells #[.int .i64 nb, .slice ab wb.length capb] 38)).alloc (.cells #[.int .i64 0, .slice none 0 0] 38)) := (((Below.refl _ _).alloc (Nat.le_refl _) _).alloc (by simp) _).alloc (by simp; omega) _
  have HC := Lib.hid (combine_any 65 orN wf_or _ _ na nb wa wb _ (hva0.below hW3) (hvb0.below hW3) hla hlb hBa hBb)
  have BA := ((Box.new w (.int .i64 na) (.slice aa wa.length capa) 38).alloc (.cells #[.int .i64 nb, .slice ab wb.length capb] 38)).alloc (.cells #[.int .i64 0, .slice none 0 0] 38)
  have BB := (Box.new (w.alloc (.cells #[.int .i64 na, .slice aa wa.length capa] 38)) (.int .i64 nb) (.slice ab wb.length capb) 38).alloc (.cells #[.int .i64 0, .slice none 0 0] 38)
  have BR := Box.new ((w.alloc (.cells #[.int .i64 na, .slice aa wa.length capa] 38)).alloc (.cells #[.int .i64 nb, .slice ab wb.length capb] 38)) (.int .i64 0) (.slice none 0 0) 38
  simp only [World.size_alloc] at BB BR
  have HW3 := Lib.hid hW3
  generalize hW : ((w.alloc (.cells #[.int .i64 na, .slice aa wa.length capa] 38)).alloc (.cells #[.int .i64 nb, .slice ab wb.length capb] 38)).alloc (.cells #[.int .i64 0, .slice none 0 0] 38) = W3 at *
  clear hva0 hvb0 hWda hWdb hW3
  unfold joinW
  generalize nrm na wa = na' at *
  generalize nrmW na wa = wa' at *
  generalize nrm nb wb = nb' at *
  generalize nrmW nb wb = wb' at *
  obtain ⟨N, hN⟩ : ∃ N, max na' nb' = N := ⟨_, rfl⟩
  rw [hN] at HC ⊢
  obtain ⟨K, hK⟩ : ∃ K, wcount N = K := ⟨_, rfl⟩
  rw [hK] at HC ⊢
  obtain ⟨cw, hcw⟩ : ∃ cw, combW orN K wa' wb' = cw := ⟨_, rfl⟩
  rw [hcw] at HC ⊢
  clear hN hK hcw
  obtain ⟨a0, a1, _, _⟩ := id BA
  obtain ⟨b0, b1, _, _⟩ := id BB
  go_enter Tryd.func28, Tryd.ntmps28
  go_wp2_with fail
  refine HC.out.mono ?_
  clear HC
  rintro e w4 ⟨g, rfl, hF, hb⟩
  obtain ⟨y0, y1, f0, f1⟩ := BR.below hb BR.lt
  have hlt := BR.lt
  have HB := Lib.hid (HW3.out.trans (hb.mono HW3.out.size))
  have HF := Lib.hid (hF.base HW3.out.size)
  have hg := hF.1
  clear hF hb hW BA BB BR a0 a1 b0 b1
  go_wp2
  have hput := below_put2 HB.out (b := w.heap.size + 1 + 1) (by omega) (.int .i64 (N : Int)) (.slice (some ⟨g, 0, none⟩) K K)
  exact bodyPost_ret (v := .agg #[.int .i64 (N : Int), .slice (some ⟨g, 0, none⟩) K K]) (by simp [results, Tryd.results28, go_sem, y0, y1]) rfl ⟨g, rfl, HF.out.block (heap_put2 _ _ _ _ _ (by omega)), hput⟩

/-- Union, of sets that may be. -/
theorem Union_ok (va vb : Value) (n m : Nat) (ws us : List Nat) (w : World) (hva : SV w va (n : Int) ws) (hvb : SV w vb (m : Int) us) (h : Ok n ws) (k : Ok m us) :
    Calls Tryd.prog 28 #[va, vb] w fun e w' => ∃ g, e = .returned (.agg #[.int .i64 (max n m : Nat), .slice (some ⟨g, 0, none⟩) (wcount (max n m)) (wcount (max n m))]) ∧ Fresh w.heap.size w' g (joinW orN n m ws us) ∧ Below w.heap.size w w' := by
  have h1 := Union_any va vb n m ws us w hva hvb (by have := h.len16; omega) (by have := k.len16; omega) h.wb k.wb
  rw [(nrm_of_ok h).1, (nrm_of_ok h).2, (nrm_of_ok k).1, (nrm_of_ok k).2] at h1
  exact h1

set_option maxRecDepth 100000 in
set_option maxHeartbeats 2000000 in
theorem Minus_any (va vb : Value) (na nb : Int) (wa wb : List Nat) (w : World) (hva : SV w va na wa) (hvb : SV w vb nb wb) (hla : wa.length ≤ 30) (hlb : wb.length ≤ 30) (hBa : WB wa) (hBb : WB wb) :
    Calls Tryd.prog 56 #[va, vb] w fun e w' => ∃ g, e = .returned (.agg #[.int .i64 (max (nrm na wa) (nrm nb wb) : Nat), .slice (some ⟨g, 0, none⟩) (wcount (max (nrm na wa) (nrm nb wb))) (wcount (max (nrm na wa) (nrm nb wb)))]) ∧
      Fresh w.heap.size w' g (joinW minusN (nrm na wa) (nrm nb wb) (nrmW na wa) (nrmW nb wb)) ∧ Below w.heap.size w w' := by
  have hva0 := hva
  have hvb0 := hvb
  obtain ⟨aa, capa, rfl, hWda⟩ := hva
  obtain ⟨ab, capb, rfl, hWdb⟩ := hvb
  have hW3 : Below w.heap.size w (((w.alloc (.cells #[.int .i64 na, .slice aa wa.length capa] 38)).alloc (.cells #[.int .i64 nb, .slice ab wb.length capb] 38)).alloc (.cells #[.int .i64 0, .slice none 0 0] 38)) := (((Below.refl _ _).alloc (Nat.le_refl _) _).alloc (by simp) _).alloc (by simp; omega) _
  have HC := Lib.hid (combine_any 91 minusN wf_minus _ _ na nb wa wb _ (hva0.below hW3) (hvb0.below hW3) hla hlb hBa hBb)
  have BA := ((Box.new w (.int .i64 na) (.slice aa wa.length capa) 38).alloc (.cells #[.int .i64 nb, .slice ab wb.length capb] 38)).alloc (.cells #[.int .i64 0, .slice none 0 0] 38)
  have BB := (Box.new (w.alloc (.cells #[.int .i64 na, .slice aa wa.length capa] 38)) (.int .i64 nb) (.slice ab wb.length capb) 38).alloc (.cells #[.int .i64 0, .slice none 0 0] 38)
  have BR := Box.new ((w.alloc (.cells #[.int .i64 na, .slice aa wa.length capa] 38)).alloc (.cells #[.int .i64 nb, .slice ab wb.length capb] 38)) (.int .i64 0) (.slice none 0 0) 38
  simp only [World.size_alloc] at BB BR
  have HW3 := Lib.hid hW3
  generalize hW : ((w.alloc (.cells #[.int .i64 na, .slice aa wa.length capa] 38)).alloc (.cells #[.int .i64 nb, .slice ab wb.length capb] 38)).alloc (.cells #[.int .i64 0, .slice none 0 0] 38) = W3 at *
  clear hva0 hvb0 hWda hWdb hW3
  unfold joinW
  generalize nrm na wa = na' at *
  generalize nrmW na wa = wa' at *
  generalize nrm nb wb = nb' at *
  generalize nrmW nb wb = wb' at *
  obtain ⟨N, hN⟩ : ∃ N, max na' nb' = N := ⟨_, rfl⟩
  rw [hN] at HC ⊢
  obtain ⟨K, hK⟩ : ∃ K, wcount N = K := ⟨_, rfl⟩
  rw [hK] at HC ⊢
  obtain ⟨cw, hcw⟩ : ∃ cw, combW minusN K wa' wb' = cw := ⟨_, rfl⟩
  rw [hcw] at HC ⊢
  clear hN hK hcw
  obtain ⟨a0, a1, _, _⟩ := id BA
  obtain ⟨b0, b1, _, _⟩ := id BB
  go_enter Tryd.func56, Tryd.ntmps56
  go_wp2_with fail
  refine HC.out.mono ?_
  clear HC
  rintro e w4 ⟨g, rfl, hF, hb⟩
  obtain ⟨y0, y1, f0, f1⟩ := BR.below hb BR.lt
  have hlt := BR.lt
  have HB := Lib.hid (HW3.out.trans (hb.mono HW3.out.size))
  have HF := Lib.hid (hF.base HW3.out.size)
  have hg := hF.1
  clear hF hb hW BA BB BR a0 a1 b0 b1
  go_wp2
  have hput := below_put2 HB.out (b := w.heap.size + 1 + 1) (by omega) (.int .i64 (N : Int)) (.slice (some ⟨g, 0, none⟩) K K)
  exact bodyPost_ret (v := .agg #[.int .i64 (N : Int), .slice (some ⟨g, 0, none⟩) K K]) (by simp [results, Tryd.results56, go_sem, y0, y1]) rfl ⟨g, rfl, HF.out.block (heap_put2 _ _ _ _ _ (by omega)), hput⟩

/-- Minus, of sets that may be. -/
theorem Minus_ok (va vb : Value) (n m : Nat) (ws us : List Nat) (w : World) (hva : SV w va (n : Int) ws) (hvb : SV w vb (m : Int) us) (h : Ok n ws) (k : Ok m us) :
    Calls Tryd.prog 56 #[va, vb] w fun e w' => ∃ g, e = .returned (.agg #[.int .i64 (max n m : Nat), .slice (some ⟨g, 0, none⟩) (wcount (max n m)) (wcount (max n m))]) ∧ Fresh w.heap.size w' g (joinW minusN n m ws us) ∧ Below w.heap.size w w' := by
  have h1 := Minus_any va vb n m ws us w hva hvb (by have := h.len16; omega) (by have := k.len16; omega) h.wb k.wb
  rw [(nrm_of_ok h).1, (nrm_of_ok h).2, (nrm_of_ok k).1, (nrm_of_ok k).2] at h1
  exact h1





theorem bitAt_comb (f : Nat → Nat → Nat) (g : Bool → Bool → Bool) (hg : ∀ x y i, x < M64 → y < M64 → i < 64 → (f x y).testBit i = g (x.testBit i) (y.testBit i)) (K : Nat) (wa wb : List Nat) (ha : WB wa) (hb : WB wb) (i : Nat) (hi : i < 64 * K) :
    bitAt (combW f K wa wb) i = g (bitAt wa i) (bitAt wb i) := by
  unfold bitAt combW
  have hq : i / 64 < K := by omega
  rw [List.getElem?_map, List.getElem?_range hq]
  simp only [Option.map_some, Option.getD_some]
  exact hg _ _ _ (ha.at _) (hb.at _) (Nat.mod_lt _ (by decide))

theorem tb_or (x y i : Nat) : (orN x y).testBit i = (x.testBit i || y.testBit i) := Nat.testBit_or _ _ _
theorem tb_and (x y i : Nat) : (andN x y).testBit i = (x.testBit i && y.testBit i) := Nat.testBit_and _ _ _
theorem tb_minus (x y i : Nat) (hy : y < M64) (hi : i < 64) : (minusN x y).testBit i = (x.testBit i && !y.testBit i) := by
  unfold minusN
  rw [Nat.testBit_and]
  congr 1
  have e : 18446744073709551615 - y = 2 ^ 64 - (y + 1) := by have h3 : (2 : Nat) ^ 64 = 18446744073709551616 := rfl; have : y < 18446744073709551616 := hy; omega
  rw [e, Nat.testBit_two_pow_sub_succ (by exact hy)]
  simp [hi]

theorem joinW_wb {f : Nat → Nat → Nat} (hl : ∀ x y, x < M64 → y < M64 → f x y < M64) {n m : Nat} {wa wb : List Nat} (ha : WB wa) (hb : WB wb) : WB (joinW f n m wa wb) := by
  intro x hx
  unfold joinW combW at hx
  obtain ⟨j, _, rfl⟩ := List.mem_map.1 hx
  exact hl _ _ (ha.at _) (hb.at _)

/-- The digits of what two sets make. -/
theorem bitAt_join {f : Nat → Nat → Nat} {g : Bool → Bool → Bool} (hg : ∀ x y i, x < M64 → y < M64 → i < 64 → (f x y).testBit i = g (x.testBit i) (y.testBit i)) (h0 : g false false = false) {n m : Nat} {wa wb : List Nat} (ha : Ok n wa) (hb : Ok m wb) (i : Nat) :
    bitAt (joinW f n m wa wb) i = g (bitAt wa i) (bitAt wb i) := by
  by_cases hi : i < 64 * wcount (max n m)
  · exact bitAt_comb f g hg _ wa wb ha.wb hb.wb i hi
  · have h1 : max n m ≤ i := by unfold wcount at hi; omega
    rw [ha.clear (by omega), hb.clear (by omega), h0]
    apply bitAt_out
    unfold joinW
    rw [combW_length]
    omega

theorem Ok.join {f : Nat → Nat → Nat} {g : Bool → Bool → Bool} (hg : ∀ x y i, x < M64 → y < M64 → i < 64 → (f x y).testBit i = g (x.testBit i) (y.testBit i)) (h0 : g false false = false) (hl : ∀ x y, x < M64 → y < M64 → f x y < M64) {n m : Nat} {wa wb : List Nat} (ha : Ok n wa) (hb : Ok m wb) : Ok (max n m) (joinW f n m wa wb) := by
  refine ok_mk (by have := ha.le; have := hb.le; omega) (by unfold joinW; exact combW_length _ _ _ _) (joinW_wb hl ha.wb hb.wb) ?_
  intro i hi
  rw [bitAt_join hg h0 ha hb, ha.clear (by omega), hb.clear (by omega), h0]

theorem bit_union {n m : Nat} {wa wb : List Nat} (ha : Ok n wa) (hb : Ok m wb) (i : Nat) : bitAt (joinW orN n m wa wb) i = (bitAt wa i || bitAt wb i) := bitAt_join (fun x y i _ _ _ => tb_or x y i) rfl ha hb i
theorem bit_meet {n m : Nat} {wa wb : List Nat} (ha : Ok n wa) (hb : Ok m wb) (i : Nat) : bitAt (joinW andN n m wa wb) i = (bitAt wa i && bitAt wb i) := bitAt_join (fun x y i _ _ _ => tb_and x y i) rfl ha hb i
theorem bit_minus {n m : Nat} {wa wb : List Nat} (ha : Ok n wa) (hb : Ok m wb) (i : Nat) : bitAt (joinW minusN n m wa wb) i = (bitAt wa i && !bitAt wb i) := bitAt_join (g := fun a b => a && !b) (fun x y i _ hy hi => tb_minus x y i hy hi) rfl ha hb i
theorem Ok.union {n m : Nat} {wa wb : List Nat} (ha : Ok n wa) (hb : Ok m wb) : Ok (max n m) (joinW orN n m wa wb) := Ok.join (fun x y i _ _ _ => tb_or x y i) rfl wf_or.lt ha hb



theorem Ok.minus {n m : Nat} {wa wb : List Nat} (ha : Ok n wa) (hb : Ok m wb) : Ok (max n m) (joinW minusN n m wa wb) := Ok.join (g := fun a b => a && !b) (fun x y i _ hy hi => tb_minus x y i hy hi) rfl wf_minus.lt ha hb

/-- How many numbers there are, counted over any range that is wide enough. -/
theorem count_eq {n : Nat} {ws : List Nat} (h : Ok n ws) {M : Nat} (hM : n ≤ M) : (nums ws).length = ((List.range M).filter (fun i => bitAt ws i)).length := by
  have hcut : ∀ A B : Nat, A ≤ B → (∀ i, A ≤ i → bitAt ws i = false) → ((List.range B).filter (fun i => bitAt ws i)) = ((List.range A).filter (fun i => bitAt ws i)) := by
    intro A B hAB hc
    have e : List.range B = List.range A ++ (List.range (B - A)).map (A + ·) := by
      rw [← List.range_add]; congr 1; omega
    rw [e, List.filter_append]
    have f : ((List.range (B - A)).map (A + ·)).filter (fun i => bitAt ws i) = [] := by
      rw [List.filter_eq_nil_iff]
      intro i hi
      obtain ⟨j, _, rfl⟩ := List.mem_map.1 hi
      rw [hc _ (by omega)]
      simp
    rw [f, List.append_nil]
  rw [nums_eq, hcut n (64 * ws.length) (by rw [h.len]; unfold wcount; omega) (fun i hi => h.clear hi), hcut n M hM (fun i hi => h.clear hi)]

theorem filter_split (p q : Nat → Bool) (l : List Nat) : (l.filter p).length = (l.filter (fun i => p i && q i)).length + (l.filter (fun i => p i && !q i)).length := by
  induction l with
  | nil => rfl
  | cons x r ih =>
    simp only [List.filter_cons]
    cases p x <;> cases q x <;> simp <;> omega

theorem filter_or_and (p q : Nat → Bool) (l : List Nat) : (l.filter (fun i => p i || q i)).length + (l.filter (fun i => p i && q i)).length = (l.filter p).length + (l.filter q).length := by
  induction l with
  | nil => rfl
  | cons x r ih =>
    simp only [List.filter_cons]
    cases p x <;> cases q x <;> simp <;> omega

theorem count_zero_iff {n : Nat} {ws : List Nat} (_h : Ok n ws) : (nums ws).length = 0 ↔ ∀ i, bitAt ws i = false := by
  rw [List.length_eq_zero_iff, List.eq_nil_iff_forall_not_mem]
  constructor
  · intro h i
    cases hb : bitAt ws i with
    | true => exact absurd (mem_nums.2 hb) (h i)
    | false => rfl
  · intro h i hi
    have := mem_nums.1 hi
    rw [h i] at this
    cases this

theorem leq_iff {m : Nat} {ws us : List Nat} (k : Ok m us) : leqB ws m us = true ↔ ∀ i, bitAt ws i = true → bitAt us i = true := by
  unfold leqB
  rw [List.all_eq_true]
  constructor
  · intro h i hi
    have := h i (mem_nums.2 hi)
    rw [k.hasB] at this
    exact this
  · intro h i hi
    rw [k.hasB]
    exact h i (mem_nums.1 hi)
end Go.Proofs.YtmcbedlmgffckaaDoor.Bi

namespace Go.Proofs.YtmcbedlmgffckaaDoor.Bi
open Go Go.RowKit Go.Sort

/-- A value that every call takes for the set of n with these words. -/
def Acts (W : World) (v : Value) (n : Nat) (ws : List Nat) : Prop := ∃ (r : Int) (rs : List Nat), SV W v r rs ∧ rs.length ≤ 30 ∧ WB rs ∧ nrm r rs = n ∧ nrmW r rs = ws

theorem Acts.below {W W' : World} {v : Value} {n : Nat} {ws : List Nat} (h : Acts W v n ws) (hb : Below W.heap.size W W') : Acts W' v n ws :=
  let ⟨r, rs, hv, a, b, c, d⟩ := h; ⟨r, rs, hv.below hb, a, b, c, d⟩
theorem Acts.ok {W : World} {v : Value} {n : Nat} {ws : List Nat} (h : Acts W v n ws) : Ok n ws := by
  obtain ⟨r, rs, _, _, hb, rfl, rfl⟩ := h
  exact nrm_ok hb
theorem Acts.raw {W : World} {v : Value} {r : Int} {rs : List Nat} (h : SV W v r rs) (hl : rs.length ≤ 30) (hb : WB rs) : Acts W v (nrm r rs) (nrmW r rs) := ⟨r, rs, h, hl, hb, rfl, rfl⟩
theorem Acts.of_sv {W : World} {v : Value} {n : Nat} {ws : List Nat} (h : SV W v (n : Int) ws) (hok : Ok n ws) : Acts W v n ws :=
  ⟨n, ws, h, by have := hok.len16; omega, hok.wb, (nrm_of_ok hok).1, (nrm_of_ok hok).2⟩
theorem Acts.fresh {n0 : Nat} {W : World} {g N K : Nat} {ws : List Nat} (h : Fresh n0 W g ws) (hok : Ok N ws) (hK : wcount N = K) : Acts W (.agg #[.int .i64 (N : Int), .slice (some ⟨g, 0, none⟩) K K]) N ws :=
  Acts.of_sv ⟨_, K, by rw [hok.len, hK], h.wd⟩ hok

theorem Union_acts {va vb : Value} {n m : Nat} {ws us : List Nat} {W : World} (ha : Acts W va n ws) (hb : Acts W vb m us) {N K : Nat} (hN : max n m = N) (hK : wcount N = K) :
    Calls Tryd.prog 28 #[va, vb] W fun e w' => ∃ g, e = .returned (.agg #[.int .i64 (N : Int), .slice (some ⟨g, 0, none⟩) K K]) ∧ Fresh W.heap.size w' g (joinW orN n m ws us) ∧ Below W.heap.size W w' := by
  obtain ⟨r, rs, hv, a1, a2, rfl, rfl⟩ := ha
  obtain ⟨s, ss, hu, b1, b2, rfl, rfl⟩ := hb
  have h := Union_any va vb r s rs ss W hv hu a1 b1 a2 b2
  rw [hN, hK] at h
  exact h

theorem Minus_acts {va vb : Value} {n m : Nat} {ws us : List Nat} {W : World} (ha : Acts W va n ws) (hb : Acts W vb m us) {N K : Nat} (hN : max n m = N) (hK : wcount N = K) :
    Calls Tryd.prog 56 #[va, vb] W fun e w' => ∃ g, e = .returned (.agg #[.int .i64 (N : Int), .slice (some ⟨g, 0, none⟩) K K]) ∧ Fresh W.heap.size w' g (joinW minusN n m ws us) ∧ Below W.heap.size W w' := by
  obtain ⟨r, rs, hv, a1, a2, rfl, rfl⟩ := ha
  obtain ⟨s, ss, hu, b1, b2, rfl, rfl⟩ := hb
  have h := Minus_any va vb r s rs ss W hv hu a1 b1 a2 b2
  rw [hN, hK] at h
  exact h



theorem Leq_acts {va vb : Value} {n m : Nat} {ws us : List Nat} {W : World} (ha : Acts W va n ws) (hb : Acts W vb m us) (hT : Tab W) {b : Bool} (he : leqB ws m us = b) :
    Calls Tryd.prog 34 #[va, vb] W fun e w' => e = .returned (.bool b) ∧ Below W.heap.size W w' := by
  obtain ⟨r, rs, hv, a1, a2, rfl, rfl⟩ := ha
  obtain ⟨s, ss, hu, b1, b2, rfl, rfl⟩ := hb
  have h := Leq_any va vb r s rs ss W hv hu a1 b1 a2 b2 hT
  rw [he] at h
  exact h

theorem Same_acts {va vb : Value} {n m : Nat} {ws us : List Nat} {W : World} (ha : Acts W va n ws) (hb : Acts W vb m us) {b : Bool} (he : decide (n = m ∧ ws = us) = b) :
    Calls Tryd.prog 43 #[va, vb] W fun e w' => e = .returned (.bool b) ∧ Below W.heap.size W w' := by
  obtain ⟨r, rs, hv, a1, a2, rfl, rfl⟩ := ha
  obtain ⟨s, ss, hu, b1, b2, rfl, rfl⟩ := hb
  have h := Same_any va vb r s rs ss W hv hu a1 b1 a2 b2
  rw [he] at h
  exact h

end Go.Proofs.YtmcbedlmgffckaaDoor.Bi

namespace Go.Proofs.YtmcbedlmgffckaaDoor.Bi
open Go Go.RowKit Go.Sort

/-- Words with one number less. -/
def dropW (n : Nat) (ws : List Nat) (i : Int) : List Nat :=
  if 0 ≤ i ∧ i < n then ws.set (i.toNat / 64) ((ws[i.toNat / 64]?.getD 0) &&& (18446744073709551615 - 2 ^ (i.toNat % 64))) else ws

theorem andNot_word (x k : Nat) (hx : x < M64) (hk : k < 64) : bits .andNot .u64 (x : Int) ((2 ^ k : Nat) : Int) = ((x &&& (18446744073709551615 - 2 ^ k) : Nat) : Int) := by
  have h2 : 2 ^ k < 2 ^ 64 := Nat.pow_lt_pow_right (by decide) hk
  have h3 : (2 : Nat) ^ 64 = 18446744073709551616 := rfl
  rw [u64_andNot_nat x (2 ^ k) hx (by omega)]

set_option maxRecDepth 100000 in
set_option maxHeartbeats 2000000 in
theorem Without_any (v : Value) (n : Int) (ws : List Nat) (i : Int) (w : World) (hv : SV w v n ws) (hl : ws.length ≤ 30) (hB : WB ws) :
    Calls Tryd.prog 62 #[v, .int .i64 i] w fun e w' => ∃ a' cap', e = .returned (.agg #[.int .i64 (nrm n ws : Nat), .slice a' (nrmW n ws).length cap']) ∧ FreshV w.heap.size w' a' (dropW (nrm n ws) (nrmW n ws) i) ∧ Below w.heap.size w w' := by
  have hv0 := hv
  obtain ⟨a, cap, rfl, hWd⟩ := hv
  have hW2 : Below w.heap.size w ((w.alloc (.cells #[.int .i64 n, .slice a ws.length cap] 38)).alloc (.cells #[.int .i64 0, .slice none 0 0] 38)) := ((Below.refl _ _).alloc (Nat.le_refl _) _).alloc (by simp) _
  have HS := Lib.hid (copyOf_any _ n ws _ (hv0.below hW2) hl)
  have HO := Lib.hid (nrm_ok (n := n) hB)
  have BA := (Box.new w (.int .i64 n) (.slice a ws.length cap) 38).alloc (.cells #[.int .i64 0, .slice none 0 0] 38)
  have BB := Box.new (w.alloc (.cells #[.int .i64 n, .slice a ws.length cap] 38)) (.int .i64 0) (.slice none 0 0) 38
  have hz2 : ((w.alloc (.cells #[.int .i64 n, .slice a ws.length cap] 38)).alloc (.cells #[.int .i64 0, .slice none 0 0] 38)).heap.size = w.heap.size + 2 := by simp
  simp only [World.size_alloc] at BB
  have HW2 := Lib.hid hW2
  generalize hW : (w.alloc (.cells #[.int .i64 n, .slice a ws.length cap] 38)).alloc (.cells #[.int .i64 0, .slice none 0 0] 38) = W2 at *
  clear hv0 hWd hW2
  generalize nrm n ws = n' at *
  generalize nrmW n ws = ws' at *
  obtain ⟨a0, a1, _, _⟩ := id BA
  have Z2 := Lib.hid hz2
  clear hz2
  go_enter Tryd.func62, Tryd.ntmps62
  go_wp2_with fail
  refine HS.out.mono ?_
  clear HS
  rintro e w1 ⟨a', cap', rfl, hF, hb⟩
  have hb1 := HW2.out.trans (hb.mono HW2.out.size)
  have BB1 := (BB.below hb BB.lt).alloc (.cells #[.int .i64 (n' : Int), .slice a' ws'.length cap'] 38)
  have BX := Box.new w1 (.int .i64 (n' : Int)) (.slice a' ws'.length cap') 38
  have hA := (Below.refl w1.heap.size w1).alloc (Nat.le_refl _) (.cells #[.int .i64 (n' : Int), .slice a' ws'.length cap'] 38)
  have hb3 : Below w.heap.size w (w1.alloc (.cells #[.int .i64 (n' : Int), .slice a' ws'.length cap'] 38)) := hb1.trans (hA.mono hb1.size)
  have hsz : w.heap.size + 2 ≤ w1.heap.size := by have := hb.size; have := Z2.out; omega
  have hFb := (hF.below hA).base HW2.out.size
  have hFg : ∀ g, a' = some ⟨g, 0, none⟩ → ws' ≠ [] → w.heap.size + 2 ≤ g ∧ g < w1.heap.size := by
    intro g e hne
    rcases hF with h | ⟨g', e', h⟩
    · exact absurd h hne
    · rw [e] at e'
      cases e'
      have := h.1
      have := Z2.out
      exact ⟨by omega, h.lt⟩
  have HFi := Lib.hid (fits_any (n' : Int) i a' ws'.length cap' (w1.alloc (.cells #[.int .i64 (n' : Int), .slice a' ws'.length cap'] 38)))
  have H1 := Lib.hid BB1
  have H2 := Lib.hid BX
  have H3 := Lib.hid hb3
  have H4 := Lib.hid hFb
  have H5 := Lib.hid hFg
  clear hb hb1 BB1 BX hA hb3 hW BA BB a0 a1 hF hFb hFg
  go_wp2_with fail
  by_cases hin : 0 ≤ i ∧ i < n'
  · have hdec : decide (0 ≤ i ∧ i < (n' : Int)) = true := by simp [hin]
    rw [hdec] at HFi
    obtain ⟨j, rfl⟩ := Int.eq_ofNat_of_zero_le hin.1
    have hjn : j < n' := by omega
    have hn' := HO.out.le
    have hq : j / 64 < ws'.length := by rw [HO.out.len]; unfold wcount; omega
    have hwl : ws'.length ≤ 16 := HO.out.len16
    have hne : ws' ≠ [] := by intro e; rw [e] at hq; simp at hq
    obtain ⟨g, hag, hF⟩ : ∃ g, a' = some ⟨g, 0, none⟩ ∧ Fresh w.heap.size (w1.alloc (.cells #[.int .i64 (n' : Int), .slice a' ws'.length cap'] 38)) g ws' := by
      rcases H4.out with h | h
      · exact absurd h hne
      · exact h
    subst hag
    obtain ⟨hg1, hg2⟩ := H5.out g rfl hne
    have hx := HO.out.wb.at (j / 64)
    have hcell := hF.cellAt hq
    have hfr := hF.frozenAt (j / 64)
    have hgl := hF.lt
    have hres : Hid (dropW n' ws' j = ws'.set (j / 64) ((ws'[j / 64]?.getD 0) &&& (18446744073709551615 - 2 ^ (j % 64)))) := by
      show dropW n' ws' j = _
      simp [dropW, hjn]
    obtain ⟨x, hxx⟩ : ∃ x, ws'[j / 64]?.getD 0 = x := ⟨_, rfl⟩
    rw [hxx] at hcell hx hres
    have han := andNot_word x (j % 64) hx (Nat.mod_lt _ (by decide))
    obtain ⟨z, hz⟩ : ∃ z, x &&& (18446744073709551615 - 2 ^ (j % 64)) = z := ⟨_, rfl⟩
    rw [hz] at han hres
    obtain ⟨D, hD⟩ : ∃ D : Nat, 2 ^ (j % 64) = D := ⟨_, rfl⟩
    rw [hD] at han
    have hD' : Hid (2 ^ (Int.toNat (j : Int) % 64) = D) := hD
    obtain ⟨L, hL⟩ : ∃ L, ws'.length = L := ⟨_, rfl⟩
    rw [hL] at hq hwl HFi H1 H2 H3 H4 hcell hfr hF hgl ⊢
    have HL := Lib.hid hL
    have HF := Lib.hid hF
    have g1 : (0 : Int) ≤ (j : Int) / 64 := by omega
    have g2 : (j : Int) / 64 < (L : Int) := by omega
    have g3 : ((j : Int) / 64).toNat = j / 64 := by omega
    have g4 : (0 : Int) ≤ (j : Int) := by omega
    have g5 : (j : Int) < 1024 := by omega
    clear hin hdec hxx hz hD hL hF hjn hx hne
    refine HFi.out.mono ?_
    clear HFi
    rintro e w4 ⟨rfl, hb4⟩
    have hc1 := (hb4.cell (p := ⟨g, j / 64, none⟩) hgl).trans hcell
    have hf1 := (hb4.frozen (p := ⟨g, j / 64, none⟩) hgl).trans hfr
    have BX4 := H2.out.below hb4 H2.out.lt
    have BB4 := H1.out.below hb4 H1.out.lt
    have hB4 := H3.out.trans (hb4.mono H3.out.size)
    have hF4 := HF.out.below hb4 hgl
    obtain ⟨y0, y1, _, _⟩ := id BX4
    have HB4 := Lib.hid hB4
    have HF4 := Lib.hid hF4
    clear hb4 hcell hfr hB4 hF4 H1 H2 H3 H4 H5 HF hgl
    have q1 : IntKind.i64.wrap ((j : Int) / 64) = (j : Int) / 64 := by rw [IntKind.wrap_i64]; omega
    go_upto_region 3 with fail
    go_cut [] (fun wx => Hid (Box wx w1.heap.size (.int .i64 (n' : Int)) (.slice (some ⟨g, 0, none⟩) L cap')) ∧ Hid (Box wx (w.heap.size + 1) (.int .i64 0) (.slice none 0 0)) ∧ Hid (Fresh w.heap.size wx g (dropW n' ws' j)) ∧ Hid (Below w.heap.size w wx))
    case first =>
      go_region_with (go_at_call 97; refine (digit_at _ D _ g4 g5 hD').mono ?_; rintro e w' ⟨rfl, rfl⟩)
      all_goals
        go_wp2_with fail
        go_meet
        have hgr := grownBy_set (Below.refl w4.heap.size w4) g (j / 64) (.int .u64 (z : Int))
        refine ⟨BX4.grown hgr (by simp; omega), BB4.grown hgr (by simp; omega), ?_, Below.grownBy HB4.out hgr HB4.out.size (by omega)⟩
        show Fresh w.heap.size _ g (dropW n' ws' j)
        rw [hres.out]
        exact HF4.out.set _ _
    case rest =>
      obtain ⟨h1, h2, h3, h4⟩ := hcut
      clear hc1 hf1 BX4 BB4 y0 y1 q1 g3
      obtain ⟨x0, x1, _, _⟩ := id h1.out
      obtain ⟨y0, y1, f0, f1⟩ := id h2.out
      go_wp2
      have hput := below_put2 h4.out (b := w.heap.size + 1) (by omega) (.int .i64 (n' : Int)) (.slice (some ⟨g, 0, none⟩) L cap')
      refine bodyPost_ret (v := .agg #[.int .i64 (n' : Int), .slice (some ⟨g, 0, none⟩) L cap']) (by simp [results, Tryd.results62, go_sem, y0, y1]) rfl ⟨some ⟨g, 0, none⟩, cap', by rw [HL.out], .inr ⟨g, rfl, h3.out.block (heap_put2 _ _ _ _ _ (by omega))⟩, hput⟩
  · have hdec : decide (0 ≤ i ∧ i < (n' : Int)) = false := by simp [hin]
    rw [hdec] at HFi
    have hres : Hid (dropW n' ws' i = ws') := by show dropW n' ws' i = ws'; simp [dropW, hin]
    clear hin hdec
    refine HFi.out.mono ?_
    clear HFi
    rintro e w4 ⟨rfl, hb4⟩
    have hB4 := H3.out.trans (hb4.mono H3.out.size)
    have hF4 := H4.out.below hb4
    obtain ⟨x0, x1, _, _⟩ := H2.out.below hb4 H2.out.lt
    obtain ⟨y0, y1, f0, f1⟩ := H1.out.below hb4 H1.out.lt
    have HB4 := Lib.hid hB4
    have HF4 := Lib.hid hF4
    clear hb4 hB4 hF4
    go_wp2
    have hput := below_put2 HB4.out (b := w.heap.size + 1) (by omega) (.int .i64 (n' : Int)) (.slice a' ws'.length cap')
    refine bodyPost_ret (v := .agg #[.int .i64 (n' : Int), .slice a' ws'.length cap']) (by simp [results, Tryd.results62, go_sem, y0, y1]) rfl ⟨a', cap', rfl, ?_, hput⟩
    rw [hres.out]
    rcases HF4.out with h | ⟨g, hg, h⟩
    · exact .inl h
    · by_cases hne : ws' = []
      · exact .inl hne
      · obtain ⟨hg1, _⟩ := H5.out g hg hne
        exact .inr ⟨g, hg, h.block (heap_put2 _ _ _ _ _ (by omega))⟩
end Go.Proofs.YtmcbedlmgffckaaDoor.Bi

namespace Go.Proofs.YtmcbedlmgffckaaDoor.Bi
open Go Go.RowKit

theorem dropW_length (n : Nat) (ws : List Nat) (i : Int) : (dropW n ws i).length = ws.length := by unfold dropW; split <;> simp

theorem dropW_wb {n : Nat} {ws : List Nat} (h : WB ws) (i : Int) : WB (dropW n ws i) := by
  unfold dropW
  split
  · intro x hx
    rcases List.mem_or_eq_of_mem_set hx with hx | rfl
    · exact h x hx
    · exact Nat.lt_of_le_of_lt Nat.and_le_left (h.at _)
  · exact h

theorem dropW_out {n : Nat} {ws : List Nat} {x : Int} (h : ¬ (0 ≤ x ∧ x < n)) : dropW n ws x = ws := by unfold dropW; rw [if_neg h]

theorem testBit_mask (k i : Nat) (hk : k < 64) (hi : i < 64) : (18446744073709551615 - 2 ^ k).testBit i = decide (i ≠ k) := by
  have h2 : 2 ^ k < 2 ^ 64 := Nat.pow_lt_pow_right (by decide) hk
  have e : 18446744073709551615 - 2 ^ k = 2 ^ 64 - (2 ^ k + 1) := by have h3 : (2 : Nat) ^ 64 = 18446744073709551616 := rfl; omega
  rw [e, Nat.testBit_two_pow_sub_succ h2, Nat.testBit_two_pow]
  by_cases h : k = i
  · subst h; simp
  · have : i ≠ k := fun e => h e.symm
    simp [h, this, hi]

theorem bitAt_drop {n : Nat} {ws : List Nat} (hl : ws.length = wcount n) {x : Int} (h0 : 0 ≤ x) (hx : x < n) (i : Nat) : bitAt (dropW n ws x) i = (bitAt ws i && decide (i ≠ x.toNat)) := by
  have hq : x.toNat / 64 < ws.length := by rw [hl]; unfold wcount; omega
  unfold dropW
  rw [if_pos ⟨h0, hx⟩]
  unfold bitAt
  by_cases hk : i / 64 = x.toNat / 64
  · rw [hk]
    simp only [hq, List.getElem?_set_self, Option.getD_some, Nat.testBit_and]
    rw [testBit_mask _ _ (Nat.mod_lt _ (by decide)) (Nat.mod_lt _ (by decide))]
    congr 1
    rw [decide_eq_decide]
    omega
  · rw [List.getElem?_set_ne (fun e => hk e.symm)]
    have : decide (i ≠ x.toNat) = true := by rw [decide_eq_true_eq]; intro e; apply hk; rw [e]
    rw [this, Bool.and_true]

theorem Ok.drop {n : Nat} {ws : List Nat} (h : Ok n ws) (x : Int) : Ok n (dropW n ws x) := by
  by_cases hx : 0 ≤ x ∧ x < n
  · refine ok_mk h.le (by rw [dropW_length]; exact h.len) (dropW_wb h.wb x) ?_
    intro i hi
    rw [bitAt_drop h.len hx.1 hx.2, h.clear hi, Bool.false_and]
  · rw [dropW_out hx]; exact h

theorem hasB_out {n : Nat} {ws : List Nat} {x : Int} (h : ¬ (0 ≤ x ∧ x < n)) : hasB n ws x = false := by simp [hasB, h]
theorem hasB_in {n : Nat} {ws : List Nat} {x : Int} (h : 0 ≤ x ∧ x < n) : hasB n ws x = bitAt ws x.toNat := by simp [hasB, h.1, h.2]

theorem has_put_self {n : Nat} {ws : List Nat} (h : Ok n ws) (x : Int) : hasB n (putW n ws x) x = decide (0 ≤ x ∧ x < n) := by
  by_cases hx : 0 ≤ x ∧ x < n
  · rw [hasB_in hx, bitAt_put h.len hx.1 hx.2]; simp [hx]
  · rw [hasB_out hx]; simp [hx]

theorem has_put_other {n : Nat} {ws : List Nat} (h : Ok n ws) {x k : Int} (hne : x ≠ k) : hasB n (putW n ws x) k = hasB n ws k := by
  by_cases hk : 0 ≤ k ∧ k < n
  · rw [hasB_in hk, hasB_in hk]
    by_cases hx : 0 ≤ x ∧ x < n
    · rw [bitAt_put h.len hx.1 hx.2]
      have : decide (k.toNat = x.toNat) = false := by rw [decide_eq_false_iff_not]; omega
      rw [this, Bool.or_false]
    · rw [putW_out hx]
  · rw [hasB_out hk, hasB_out hk]

theorem has_drop_self {n : Nat} {ws : List Nat} (h : Ok n ws) (x : Int) : hasB n (dropW n ws x) x = false := by
  by_cases hx : 0 ≤ x ∧ x < n
  · rw [hasB_in hx, bitAt_drop h.len hx.1 hx.2]; simp
  · rw [hasB_out hx]

theorem has_drop_other {n : Nat} {ws : List Nat} (h : Ok n ws) {x k : Int} (hne : x ≠ k) : hasB n (dropW n ws x) k = hasB n ws k := by
  by_cases hk : 0 ≤ k ∧ k < n
  · rw [hasB_in hk, hasB_in hk]
    by_cases hx : 0 ≤ x ∧ x < n
    · rw [bitAt_drop h.len hx.1 hx.2]
      have : decide (k.toNat ≠ x.toNat) = true := by rw [decide_eq_true_eq]; omega
      rw [this, Bool.and_true]
    · rw [dropW_out hx]
  · rw [hasB_out hk, hasB_out hk]

theorem drop_put_same {n : Nat} {ws : List Nat} (h : Ok n ws) {x : Int} (hn : hasB n ws x = false) : dropW n (putW n ws x) x = ws := by
  by_cases hx : 0 ≤ x ∧ x < n
  · apply ((h.put x).drop x).ext h
    intro i _
    rw [bitAt_drop (h.put x).len hx.1 hx.2, bitAt_put h.len hx.1 hx.2]
    rw [hasB_in hx] at hn
    by_cases e : i = x.toNat
    · rw [e, hn]; simp
    · simp [e]
  · rw [dropW_out hx, putW_out hx]

theorem leq_of_bits {n m : Nat} {ws us : List Nat} (k : Ok m us) (hb : ∀ i, bitAt ws i = true → bitAt us i = true) (_h : Ok n ws) : leqB ws m us = true := by
  unfold leqB
  rw [List.all_eq_true]
  intro i hi
  rw [k.hasB]
  exact hb i (mem_nums.1 hi)

theorem leq_drop {n : Nat} {ws : List Nat} (h : Ok n ws) (x : Int) : leqB (dropW n ws x) n ws = true := by
  refine leq_of_bits h ?_ (h.drop x)
  intro i hi
  by_cases hx : 0 ≤ x ∧ x < n
  · rw [bitAt_drop h.len hx.1 hx.2, Bool.and_eq_true] at hi
    exact hi.1
  · rw [dropW_out hx] at hi; exact hi

theorem Without_ok (v : Value) (n : Nat) (ws : List Nat) (i : Int) (w : World) (hv : SV w v (n : Int) ws) (h : Ok n ws) :
    Calls Tryd.prog 62 #[v, .int .i64 i] w fun e w' => ∃ a' cap', e = .returned (.agg #[.int .i64 (n : Int), .slice a' ws.length cap']) ∧ FreshV w.heap.size w' a' (dropW n ws i) ∧ Below w.heap.size w w' := by
  have h1 := Without_any v n ws i w hv (by have := h.len16; omega) h.wb
  rw [(nrm_of_ok h).1, (nrm_of_ok h).2] at h1
  exact h1

theorem Sane_ok (n : Nat) (a : Option Addr) (ws : List Nat) (cap : Nat) (w : World) (hv : Wd w.heap.size w a ws) (h : Ok n ws) :
    Calls Tryd.prog 42 #[.agg #[.int .i64 (n : Int), .slice a ws.length cap]] w fun e w' => e = .returned (.bool true) ∧ Below w.heap.size w w' := by
  have h1 := sane_any (n : Int) a ws cap w hv (by have := h.len16; omega)
  rw [saneB_ok h] at h1
  exact h1
end Go.Proofs.YtmcbedlmgffckaaDoor.Bi
