/- Programs: is a block live; do blocks that may follow rise, and are they live; what an error is. -/
import Derived.Test.YtpegkllhomjocaaGreatDoorPgM
namespace Go.Proofs.YtpegkllhomjocaaGreatDoor
open Go Go.RowKit Go.Sort

/-- An error of package prog: a fault, behind the parts that it is in. -/
inductive EV : Nat → Value → Prop where
  | fault (s : ByteArray) : EV 0 (.iface 79 (.string s))
  | part {d : Nat} {v : Value} (s : ByteArray) (n : Int) (h : EV d v) : EV (d + 1) (.iface 158 (.agg #[.string s, .int .i64 n, v]))
/-- What is told where 'ok' is asked for: nothing, or an error. -/
def Told (ok : Prop) (v : Value) : Prop := (ok ∧ v = .nilIface) ∨ (¬ ok ∧ ∃ d, d ≤ 4 ∧ EV d v)
/-- .. of a depth. -/
def ToldD (D : Nat) (ok : Prop) (v : Value) : Prop := (ok ∧ v = .nilIface) ∨ (¬ ok ∧ ∃ d, d ≤ D ∧ EV d v)

set_option maxHeartbeats 2000000 in
theorem isLive_any (a : Option Addr) (l : List Blk) (cap : Nat) (b : Int) (w : World) (h : BlksIs w.heap.size w a l) (L : Nat) (hL : l.length = L) (r : Bool) (hr : r = true ↔ liveAt l b) :
    Calls Tryz.prog 59 #[.slice a L cap, .int .i64 b] w fun e w' => e = .returned (.bool r) ∧ w' = w := by
  by_cases h0 : 0 ≤ b
  · by_cases h1 : b < L
    · obtain ⟨k, rfl⟩ := Int.eq_ofNat_of_zero_le h0
      have hk : k < l.length := by omega
      obtain ⟨g, o, rfl, hg, hc, -⟩ := h k hk
      have hrr : (blkAt l k).live = r := by
        rw [Bool.eq_iff_iff, hr]
        unfold liveAt
        constructor
        · intro g; exact ⟨by omega, by omega, by simpa using g⟩
        · intro g; simpa using g.2.2
      rw [hrr] at hc
      clear hr hrr h hL hg hk
      go_enter Tryz.func59, Tryz.ntmps59
      go_wp2
      go_ret
      exact ⟨rfl, rfl⟩
    · have h1' : (L : Int) ≤ b := by omega
      have hrr : r = false := by
        cases r with
        | false => rfl
        | true => have := hr.1 rfl; unfold liveAt at this; omega
      subst hrr
      clear hr h hL
      go_enter Tryz.func59, Tryz.ntmps59
      go_wp2
      go_ret
      exact ⟨rfl, rfl⟩
  · have h0' : b < 0 := by omega
    have hrr : r = false := by
      cases r with
      | false => rfl
      | true => have := hr.1 rfl; unfold liveAt at this; omega
    subst hrr
    clear hr h hL
    go_enter Tryz.func59, Tryz.ntmps59
    go_wp2
    go_ret
    exact ⟨rfl, rfl⟩
end Go.Proofs.YtpegkllhomjocaaGreatDoor
