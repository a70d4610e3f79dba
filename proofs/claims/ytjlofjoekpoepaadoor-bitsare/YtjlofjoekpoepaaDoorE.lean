import Derived.Test.YtjlofjoekpoepaaDoorA
import Derived.Test.YtjlofjoekpoepaaDoorMathB
namespace Go.Proofs.YtjlofjoekpoepaaDoor
open Go Go.RowKit Go.Sort

/-- The table that TrailingZeros64 reads lies where it was laid. -/
def Tab (W : World) : Prop := 0 < W.heap.size ∧ ∀ j, j < 64 → W.cell? ⟨0, j, none⟩ = some (.int .u8 ((Lib.deBruijn64tab.getD j 0 : Nat) : Int))

theorem Tab.below {W W' : World} (h : Tab W) (hb : Below W.heap.size W W') : Tab W' :=
  ⟨Nat.lt_of_lt_of_le h.1 hb.size, fun j hj => (hb.cell (p := ⟨0, j, none⟩) h.1).trans (h.2 j hj)⟩

theorem tz_core (X n1 a1 p1 i1 : Nat) (r : Nat) (w : World) (h0 : ((X : Int) == 0) = false)
    (e1 : IntKind.u64.wrap (-(X : Int)) = (n1 : Int)) (e2 : bits .and .u64 (X : Int) (n1 : Int) = (a1 : Int)) (e3 : IntKind.u64.wrap ((a1 : Int) * 285870213051353865) = (p1 : Int)) (e4 : (p1 : Int) / 288230376151711744 = (i1 : Int)) (hi : i1 < 64)
    (hc : w.cell? ⟨0, i1, none⟩ = some (.int .u8 (r : Int))) (hr : r < 64) :
    Calls Tryd.prog 60 #[.int .u64 (X : Int)] w fun e w' => e = .returned (.int .i64 (r : Int)) ∧ w = w' := by
  go_enter Tryd.func60, Tryd.ntmps60
  go_wp2
  go_ret
  exact ⟨rfl, rfl⟩

theorem tz_any (x : Nat) (w : World) (h0 : x ≠ 0) (hx : x < M64) (hT : Tab w) :
    Calls Tryd.prog 60 #[.int .u64 (x : Int)] w fun e w' => e = .returned (.int .i64 (Lib.ctz 64 x : Nat)) ∧ w = w' := by
  have hx' : x < 18446744073709551616 := hx
  obtain ⟨hl, hc⟩ := Lib.lowest_bit 64 x h0 hx
  obtain ⟨ht1, ht2⟩ := Lib.deBruijn64_at (Lib.ctz 64 x) hc
  have hp : 2 ^ Lib.ctz 64 x < 18446744073709551616 := Nat.pow_lt_pow_right (by decide) hc
  refine tz_core x (18446744073709551616 - x) (2 ^ Lib.ctz 64 x) (2 ^ Lib.ctz 64 x * 285870213051353865 % 18446744073709551616) _ _ w ?_ ?_ ?_ ?_ rfl ht1 ?_ hc
  · simpa using h0
  · rw [IntKind.wrap_u64]; omega
  · rw [u64_and_nat x _ hx' (by omega)]
    have : (2 : Nat) ^ 64 = 18446744073709551616 := rfl
    rw [this] at hl
    rw [hl]
  · rw [IntKind.wrap_u64]
    generalize 2 ^ Lib.ctz 64 x = P
    omega
  · have := hT.2 _ ht1
    rw [ht2] at this
    exact this
end Go.Proofs.YtjlofjoekpoepaaDoor
