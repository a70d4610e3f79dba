/- A block of several cells that may be written: what holds of it as it is carried along. -/
import Derived.Test.YtbddjneinfkmpaaGreatDoorBase
namespace Go.Proofs.YtbddjneinfkmpaaGreatDoor
open Go Go.RowKit Go.Sort

/-- The block b holds these cells, from its head on, and they may be written. -/
def BoxL (W : World) (b : Nat) (cs : List Value) : Prop := ∀ j v, cs[j]? = some v → W.cell? ⟨b, j, none⟩ = some v ∧ W.frozen? ⟨b, j, none⟩ = false
theorem BoxL.below {B : Nat} {W W' : World} {b : Nat} {cs : List Value} (h : BoxL W b cs) (hb : Below B W W') (hlt : b < B) : BoxL W' b cs :=
  fun j v hj => ⟨(hb.cell (p := ⟨b, j, none⟩) hlt).trans (h j v hj).1, (hb.frozen (p := ⟨b, j, none⟩) hlt).trans (h j v hj).2⟩
theorem BoxL.new (w : World) (cs : List Value) (t : TypeId) : BoxL (w.alloc (.cells cs.toArray t)) w.heap.size cs := fun j v hj => by
  have hg : (w.alloc (.cells cs.toArray t)).heap[w.heap.size]? = some (.cells cs.toArray t (0, 0)) := heap_alloc_new w _
  refine ⟨?_, by simp only [World.frozen?, hg]; simp⟩
  rw [cell_of_row _ _ j cs.toArray t (0, 0) hg]
  simpa using hj
theorem BoxL.lt {W : World} {b : Nat} {cs : List Value} (h : BoxL W b cs) (hne : 0 < cs.length) : b < W.heap.size :=
  block_lt_of_cell (h 0 cs[0] (by simp [hne])).1
theorem BoxL.alloc {W : World} {b : Nat} {cs : List Value} (h : BoxL W b cs) (hne : 0 < cs.length) (o : Obj) : BoxL (W.alloc o) b cs :=
  h.below ((Below.refl W.heap.size W).alloc (Nat.le_refl _) o) (h.lt hne)
theorem BoxL.drew {W : World} {b : Nat} {cs : List Value} (h : BoxL W b cs) : BoxL W.drew b cs := fun j v hj => h j v hj
/-- One cell written. -/
theorem BoxL.put {W : World} {b : Nat} {cs : List Value} (h : BoxL W b cs) (k : Nat) (x : Value) (hk : k < cs.length) : BoxL (W.setCell ⟨b, k, none⟩ x) b (cs.set k x) := fun j v hj => by
  rw [World.frozen?_setCell]
  by_cases hjk : j = k
  · subst hjk
    have e : x = v := by simpa [hk] using hj
    subst e
    exact ⟨World.cell?_setCell_same' _ _ _ (by rw [(h j cs[j] (by simp [hk])).1]; rfl), (h j cs[j] (by simp [hk])).2⟩
  · rw [List.getElem?_set_ne (Ne.symm hjk)] at hj
    exact ⟨by rw [World.cell?_setCell_other _ _ _ _ (by simp <;> omega)]; exact (h j v hj).1, (h j v hj).2⟩
/-- A cell of another block written. -/
theorem BoxL.far {W : World} {b g : Nat} {cs : List Value} (h : BoxL W b cs) (hne : b ≠ g) (i : Nat) (u : Value) : BoxL (W.setCell ⟨g, i, none⟩ u) b cs := fun j v hj => by
  have e : (W.setCell ⟨g, i, none⟩ u).heap[b]? = W.heap[b]? := Below.heap_setCell _ _ _ _ (by simpa using hne)
  exact ⟨(World.cell?_of_block (w := W) e).trans (h j v hj).1, (World.frozen?_of_block (w := W) e).trans (h j v hj).2⟩
end Go.Proofs.YtbddjneinfkmpaaGreatDoor
