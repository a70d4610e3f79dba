import Derived.Laws.AppendOwn
import Derived.Test.YtpegkllhomjocaaDoorBase
namespace Go.Proofs.YtpegkllhomjocaaDoor
open Go Go.RowKit Go.Sort

theorem info3 : (Tryd.prog.info? 3).map (fun i => (i.zero, i.size, i.bytes)) = some (some (.int .i64 0), 1, 8) := by kernel_rfl

/-- A slice's numbers, read in a world, in blocks below B. -/
def Is (B : Nat) (W : World) (a : Option Addr) (l : List Int) : Prop :=
  ∀ j, j < l.length → ∃ b o, a = some ⟨b, o, none⟩ ∧ b < B ∧ W.cell? ⟨b, o + j, none⟩ = some (.int .i64 (l[j]?.getD 0))

theorem Is.below {B : Nat} {W W' : World} {a : Option Addr} {l : List Int} (h : Is B W a l) (hb : Below B W W') : Is B W' a l :=
  fun j hj => let ⟨b, o, e, hlt, hc⟩ := h j hj; ⟨b, o, e, hlt, (hb.cell (p := ⟨b, o + j, none⟩) hlt).trans hc⟩
theorem Is.mono {B B' : Nat} {W : World} {a : Option Addr} {l : List Int} (h : Is B W a l) (hb : B ≤ B') : Is B' W a l :=
  fun j hj => let ⟨b, o, e, hlt, hc⟩ := h j hj; ⟨b, o, e, Nat.lt_of_lt_of_le hlt hb, hc⟩

theorem owns_base {W : World} {b b' : Nat} {e : TypeId} {size n : Nat} {v : Value} {xs : List Value} (h : W.ownsRow b e size v n xs) (hb : b' ≤ b) : W.ownsRow b' e size v n xs :=
  ⟨h.1, h.2.imp id fun ⟨g, cap, cur, a, hg, r⟩ => ⟨g, cap, cur, a, Nat.le_trans hb hg, r⟩⟩

theorem owns_grown {w0 W W' : World} {b : Nat} {e : TypeId} {size n : Nat} {v : Value} {xs : List Value} (hB : Below b w0 W) (h : W.ownsRow b e size v n xs) (hg : W.grownBy W' v.ownBlock) (hb : b ≤ W.heap.size) : Below b w0 W' :=
  hB.grown hg hb (fun k e => (h.lt k e).1)

/-- Numbers of the call's own, as a slice that is read. -/
theorem is_of_ints {n0 : Nat} {W : World} {u : Value} {l : List Int} {T : Nat} (h : W.ownsRow n0 3 1 u T (l.map (Value.int .i64))) : ∃ a cap, u = .slice a T cap ∧ l.length = T ∧ Is W.heap.size W a l := by
  obtain ⟨hlen, ⟨rfl, h0⟩ | ⟨g, cap, cur, rfl, hb, hc, hle, _, hsz, htk⟩⟩ := h
  · subst h0
    have : l = [] := List.eq_nil_of_length_eq_zero (by simpa using hlen)
    subst this
    exact ⟨none, 0, rfl, rfl, fun j hj => absurd hj (Nat.not_lt_zero _)⟩
  · have hl : l.length = T := by simpa using hlen
    refine ⟨_, cap, rfl, hl, fun j hj => ?_⟩
    refine ⟨g, 0, rfl, (Array.getElem?_eq_some_iff.1 hc).1, ?_⟩
    have e : (cur.toList.take (T * 1))[j]? = (l.map (Value.int .i64))[j]? := by rw [htk]
    rw [Nat.mul_one, List.getElem?_take_of_lt (by omega)] at e
    have e2 : cur[j]? = some (.int .i64 (l[j]?.getD 0)) := by
      rw [← Array.getElem?_toList, e]
      simp [hj]
    rw [Nat.zero_add]
    simp only [World.cell?, hc]
    simpa using e2

end Go.Proofs.YtpegkllhomjocaaDoor