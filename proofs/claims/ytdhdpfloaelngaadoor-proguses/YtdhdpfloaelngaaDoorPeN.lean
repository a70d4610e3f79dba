/- A number below another. -/
import Derived.Laws.Bits128
import Derived.Test.YtdhdpfloaelngaaDoorPgY
namespace Go.Proofs.YtdhdpfloaelngaaDoor
open Go
theorem i64_and65535 (n : Int) : bits .and .i64 n 65535 = n % 65536 := by
  have h : (BitVec.ofInt 64 65535).toNat = 2 ^ 16 - 1 := by decide
  have key : (BitVec.ofInt 64 n &&& BitVec.ofInt 64 65535).toNat = (n % ((2 ^ 64 : Nat) : Int)).toNat % 2 ^ 16 := by
    rw [BitVec.toNat_and, BitVec.toNat_ofInt, h, Nat.and_two_pow_sub_one_eq_mod]
  show IntKind.i64.wrap ((BitVec.ofInt 64 n &&& BitVec.ofInt 64 65535).toNat : Nat) = n % 65536
  rw [key, IntKind.wrap_i64]
  omega
/-- What the law takes of f: a function's number. -/
theorem taken (f : Int) {L : Nat} (hL : 0 < L) : ∃ n : Nat, n < L ∧ (bits .and .i64 f 65535).tmod (L : Int) = (n : Int) := by
  rw [i64_and65535]
  obtain ⟨m, hm⟩ := Int.eq_ofNat_of_zero_le (show 0 ≤ f % 65536 by omega)
  rw [hm]
  exact ⟨m % L, Nat.mod_lt _ hL, rfl⟩
end Go.Proofs.YtdhdpfloaelngaaDoor
