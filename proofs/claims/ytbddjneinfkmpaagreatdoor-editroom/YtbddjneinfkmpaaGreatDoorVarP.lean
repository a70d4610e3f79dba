/- Small facts: a row kept, how many an instruction reads. -/
import Derived.Test.YtbddjneinfkmpaaGreatDoorInsF2
namespace Go.Proofs.YtbddjneinfkmpaaGreatDoor.Bi
open Go Go.RowKit Go.Sort

theorem owns_keep {W W' : World} {b : Nat} {e : TypeId} {size n : Nat} {v : Value} {xs : List Value} (h : W.ownsRow b e size v n xs) (hb : Below W.heap.size W W') : W'.ownsRow b e size v n xs :=
  ⟨h.1, h.2.imp _root_.id fun ⟨g, cap, cur, a, hg, hc, r⟩ => ⟨g, cap, cur, a, hg, (hb.block g (Array.getElem?_eq_some_iff.1 hc).1).trans hc, r⟩⟩
theorem uses_le (i : Ins) : i.uses.length ≤ 5 := by
  unfold Ins.uses
  split
  · have h1 : ∀ (m l : List Int), (m.foldl addL l).length ≤ l.length + m.length := by
      intro m
      induction m with
      | nil => intro l; simp
      | cons x r ih => intro l; have := ih (addL l x); have := addL_length l x; simp only [List.foldl_cons, List.length_cons]; omega
    have h2 := h1 (i.args.take i.n.toNat) (addIf (Go.Proofs.YtbddjneinfkmpaaGreatDoor.hasB i.kind) (addIf (Go.Proofs.YtbddjneinfkmpaaGreatDoor.hasA i.kind) [] i.a) i.b)
    have h3 : (i.args.take i.n.toNat).length ≤ 3 := by rw [List.length_take]; exact Nat.le_trans (Nat.min_le_right _ _) (by simp [Ins.args])
    have h4 : ∀ (p : Bool) (l : List Int) (x : Int), (addIf p l x).length ≤ l.length + 1 := by intro p l x; unfold addIf; split; exact addL_length l x; omega
    have h5 := h4 (Go.Proofs.YtbddjneinfkmpaaGreatDoor.hasB i.kind) (addIf (Go.Proofs.YtbddjneinfkmpaaGreatDoor.hasA i.kind) [] i.a) i.b
    have h6 := h4 (Go.Proofs.YtbddjneinfkmpaaGreatDoor.hasA i.kind) [] i.a
    simp at h6
    omega
  · simp
theorem defn_none (i : Ins) : i.defn < 0 ↔ i.defn = -1 := by
  unfold Ins.defn
  split
  · rename_i h
    have := form_dst h.1
    constructor <;> intro h <;> omega
  · simp
end Go.Proofs.YtbddjneinfkmpaaGreatDoor.Bi
