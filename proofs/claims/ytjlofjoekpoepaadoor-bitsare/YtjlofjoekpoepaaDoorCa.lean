import Derived.RangeFuncOwn
import Derived.RangeFuncBound
import Derived.RangeFuncLeaves
import Derived.Shelf.Abstract
import Derived.Test.YtjlofjoekpoepaaDoorN
namespace Go.Proofs.YtjlofjoekpoepaaDoor
open Go Go.RowKit Go.Sort Go.Shelf

set_option maxHeartbeats 1000000 in
theorem wordAt_any (n : Int) (a : Option Addr) (ws : List Nat) (cap k x : Nat) (w : World) (hWd : Wd w.heap.size w a ws) (hx : Hid (ws[k]?.getD 0 = x)) :
    Calls Tryd.prog 61 #[.agg #[.int .i64 n, .slice a ws.length cap], .int .i64 (k : Int)] w fun e w' => e = .returned (.int .u64 (x : Int)) ∧ Below w.heap.size w w' := by
  have hW1 : Below w.heap.size w (w.alloc (.cells #[.int .i64 n, .slice a ws.length cap] 28)) := (Below.refl _ _).alloc (Nat.le_refl _) _
  by_cases hlt : k < ws.length
  · obtain ⟨b, o, rfl, hb, hc⟩ := hWd k hlt
    rw [hx.out] at hc
    have hc1 := (hW1.cell (p := ⟨b, o + k, none⟩) hb).trans hc
    obtain ⟨L, hL⟩ : ∃ L, ws.length = L := ⟨_, rfl⟩
    rw [hL] at hlt hc1 hW1 ⊢
    have d0 : decide ((L : Int) ≤ (k : Int)) = false := by simp; omega
    have d1 : decide (L ≤ k) = false := by simp; omega
    have g1 : (k : Int) < (L : Int) := by omega
    have HW1 := Lib.hid hW1
    clear hL hc hWd hW1
    go_enter Tryd.func61, Tryd.ntmps61
    go_wp2
    go_ret
    exact ⟨rfl, HW1.out⟩
  · have hx0 : x = 0 := by rw [← hx.out, List.getElem?_eq_none (by omega)]; rfl
    subst hx0
    have d0 : decide ((ws.length : Int) ≤ (k : Int)) = true := by simp; omega
    have d1 : decide (ws.length ≤ k) = true := by simp; omega
    have g1 : (ws.length : Int) ≤ (k : Int) := by omega
    have HW1 := Lib.hid hW1
    clear hWd hW1
    go_enter Tryd.func61, Tryd.ntmps61
    go_wp2
    go_ret
    exact ⟨rfl, HW1.out⟩

/-- What a pair of words makes, by the function number cf. -/
structure WordFn (cf : Nat) (f : Nat → Nat → Nat) : Prop where
  enters : ∀ (args : Array Value) (w : World), (callFunc cf args).run Tryd.prog w = .ok (.enter cf args) w
  calls : ∀ (x y : Nat) (w : World), x < M64 → y < M64 → Calls Tryd.prog cf #[.int .u64 (x : Int), .int .u64 (y : Int)] w fun e w' => e = .returned (.int .u64 ((f x y : Nat) : Int)) ∧ w = w'
  lt : ∀ x y, x < M64 → y < M64 → f x y < M64
  zero : f 0 0 = 0

def orN (x y : Nat) : Nat := x ||| y
def andN (x y : Nat) : Nat := x &&& y
def minusN (x y : Nat) : Nat := x &&& (18446744073709551615 - y)

theorem wf_or : WordFn 53 orN := ⟨enters_of Tryd.func53 (by kernel_rfl) rfl, fun x y w hx hy => by
    have e := u64_or_nat x y hx hy
    obtain ⟨z, hz⟩ : ∃ z, x ||| y = z := ⟨_, rfl⟩
    unfold orN
    rw [hz] at e ⊢
    clear hz
    go_enter Tryd.func53, Tryd.ntmps53
    go_wp2
    go_ret
    exact ⟨rfl, rfl⟩, fun x y hx hy => or_lt_M64 hx hy, rfl⟩
theorem wf_minus : WordFn 55 minusN := ⟨enters_of Tryd.func55 (by kernel_rfl) rfl, fun x y w hx hy => by
    have e := u64_andNot_nat x y hx hy
    obtain ⟨z, hz⟩ : ∃ z, x &&& (18446744073709551615 - y) = z := ⟨_, rfl⟩
    unfold minusN
    rw [hz] at e ⊢
    clear hz
    go_enter Tryd.func55, Tryd.ntmps55
    go_wp2
    go_ret
    exact ⟨rfl, rfl⟩, fun x y hx _ => Nat.lt_of_le_of_lt Nat.and_le_left hx, by decide⟩
theorem wf_and : WordFn 56 andN := ⟨enters_of Tryd.func56 (by kernel_rfl) rfl, fun x y w hx hy => by
    have e := u64_and_nat x y hx hy
    obtain ⟨z, hz⟩ : ∃ z, x &&& y = z := ⟨_, rfl⟩
    unfold andN
    rw [hz] at e ⊢
    clear hz
    go_enter Tryd.func56, Tryd.ntmps56
    go_wp2
    go_ret
    exact ⟨rfl, rfl⟩, fun x y hx _ => Nat.lt_of_le_of_lt Nat.and_le_left hx, rfl⟩

/-- What has been made of pairs of words when q of them are done. -/
def combTo (f : Nat → Nat → Nat) (K q : Nat) (wa wb : List Nat) : List Nat := (List.range K).map fun j => if j < q then f (wa[j]?.getD 0) (wb[j]?.getD 0) else 0
def combW (f : Nat → Nat → Nat) (K : Nat) (wa wb : List Nat) : List Nat := (List.range K).map fun j => f (wa[j]?.getD 0) (wb[j]?.getD 0)

theorem combTo_length (f : Nat → Nat → Nat) (K q : Nat) (wa wb : List Nat) : (combTo f K q wa wb).length = K := by simp [combTo]
theorem combTo_zero (f : Nat → Nat → Nat) (K : Nat) (wa wb : List Nat) : combTo f K 0 wa wb = List.replicate K 0 := by
  apply List.ext_getElem
  · simp [combTo]
  · intro i h1 h2; simp [combTo]
theorem combTo_succ (f : Nat → Nat → Nat) (K q : Nat) (wa wb : List Nat) : (combTo f K q wa wb).set q (f (wa[q]?.getD 0) (wb[q]?.getD 0)) = combTo f K (q + 1) wa wb := by
  apply List.ext_getElem
  · simp [combTo]
  · intro i h1 h2
    rw [List.getElem_set]
    simp only [combTo, List.getElem_map, List.getElem_range]
    split
    · rename_i e; subst e; simp
    · rename_i e
      by_cases h : i < q
      · have : i < q + 1 := by omega
        simp [h, this]
      · have : ¬ i < q + 1 := by omega
        simp [h, this]
theorem combTo_all (f : Nat → Nat → Nat) (K : Nat) (wa wb : List Nat) : combTo f K K wa wb = combW f K wa wb := by
  apply List.ext_getElem
  · simp [combTo, combW]
  · intro i h1 h2
    simp [combTo] at h1
    simp [combTo, combW, h1]
theorem combW_length (f : Nat → Nat → Nat) (K : Nat) (wa wb : List Nat) : (combW f K wa wb).length = K := by simp [combW]

theorem grownBy_setc {w w1 : World} (h : Below w.heap.size w w1) (g j : Nat) (v : Value) : w.grownBy (w1.setCell ⟨g, j, none⟩ v) (some g) :=
  ⟨h.os, h.tape, h.output, by have := h.size; simpa [World.setCell] using this, fun k hk hne => (Below.heap_setCell w1 ⟨g, j, none⟩ v k (fun e => hne (by rw [e]))).trans (h.block k hk)⟩
end Go.Proofs.YtjlofjoekpoepaaDoor
