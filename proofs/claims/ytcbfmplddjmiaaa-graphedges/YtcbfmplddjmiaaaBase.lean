import Derived.WalkKit
import Derived.WalkLawsBesides
import Derived.WalkSpells
import Derived.Below
import Derived.Outline
import Derived.BigQuiet
import Derived.Lib.QuietBelow
import Derived.Lib.Hide
import Derived.WalkSmall
import Derived.Deep.RegionWith
import Derived.Deep.DeepCutAuto
import Derived.Test.YtcbfmplddjmiaaaProg
namespace Go.Proofs.Ytcbfmplddjmiaaa
open Go Go.RowKit Go.Sort

theorem ret_int {k : IntKind} {a b : Int} (h : a = b) : Ending.returned (.int k a) = .returned (.int k b) := by rw [h]
theorem ret_bool {a b : Bool} (h : a = b) : Ending.returned (.bool a) = .returned (.bool b) := by rw [h]

/-- One block laid, two, three, four. -/
theorem below1 (w : World) (o : Obj) : Below w.heap.size w (w.alloc o) := (Below.refl _ _).alloc (Nat.le_refl _) _
theorem below2 (w : World) (o o' : Obj) : Below w.heap.size w ((w.alloc o).alloc o') := (below1 w o).alloc (by simp) _
theorem below3 (w : World) (o o' o'' : Obj) : Below w.heap.size w (((w.alloc o).alloc o').alloc o'') := (below2 w o o').alloc (by simp only [World.size_alloc]; omega) _

theorem below4 (w : World) (o1 o2 o3 o4 : Obj) : Below w.heap.size w ((((w.alloc o1).alloc o2).alloc o3).alloc o4) := (below3 w o1 o2 o3).alloc (by simp only [World.size_alloc]; omega) _

/-- A box of two cells that may be written. -/
structure Box (W : World) (b : Nat) (x y : Value) : Prop where
  c0 : W.cell? ⟨b, 0, none⟩ = some x
  c1 : W.cell? ⟨b, 1, none⟩ = some y
  f0 : W.frozen? ⟨b, 0, none⟩ = false
  f1 : W.frozen? ⟨b, 1, none⟩ = false

theorem Box.below {B : Nat} {W W' : World} {b : Nat} {x y : Value} (h : Box W b x y) (hb : Below B W W') (hlt : b < B) : Box W' b x y :=
  ⟨(hb.cell (p := ⟨b, 0, none⟩) hlt).trans h.c0, (hb.cell (p := ⟨b, 1, none⟩) hlt).trans h.c1, (hb.frozen (p := ⟨b, 0, none⟩) hlt).trans h.f0, (hb.frozen (p := ⟨b, 1, none⟩) hlt).trans h.f1⟩
theorem Box.new (w : World) (x y : Value) (t : TypeId) : Box (w.alloc (.cells #[x, y] t)) w.heap.size x y := ⟨by simp, by simp, by simp, by simp⟩
theorem Box.lt {W : World} {b : Nat} {x y : Value} (h : Box W b x y) : b < W.heap.size := block_lt_of_cell h.c0
theorem Box.alloc {W : World} {b : Nat} {x y : Value} (h : Box W b x y) (o : Obj) : Box (W.alloc o) b x y := h.below ((Below.refl W.heap.size W).alloc (Nat.le_refl _) o) h.lt
theorem Box.drew {W : World} {b : Nat} {x y : Value} (h : Box W b x y) : Box W.drew b x y := ⟨h.c0, h.c1, h.f0, h.f1⟩
theorem Box.put {W : World} {b : Nat} {x y : Value} (h : Box W b x y) (x' y' : Value) : Box ((W.setCell ⟨b, 0, none⟩ x').setCell ⟨b, 1, none⟩ y') b x' y' := by
  obtain ⟨c0, c1, f0, f1⟩ := h
  have k0 : (W.setCell ⟨b, 0, none⟩ x').cell? ⟨b, 0, none⟩ = some x' := World.cell?_setCell_same' _ _ _ (by rw [c0]; rfl)
  have k1 : (W.setCell ⟨b, 0, none⟩ x').cell? ⟨b, 1, none⟩ = some y := by rw [World.cell?_setCell_other _ _ _ _ (by simp)]; exact c1
  refine ⟨?_, World.cell?_setCell_same' _ _ _ (by rw [k1]; rfl), by rw [World.frozen?_setCell, World.frozen?_setCell]; exact f0, by rw [World.frozen?_setCell, World.frozen?_setCell]; exact f1⟩
  rw [World.cell?_setCell_other _ _ _ _ (by simp)]; exact k0
theorem heap_put2 (W : World) (b k : Nat) (x y : Value) (h : k ≠ b) : ((W.setCell ⟨b, 0, none⟩ x).setCell ⟨b, 1, none⟩ y).heap[k]? = W.heap[k]? := by
  rw [Below.heap_setCell _ _ _ _ (by simpa using h), Below.heap_setCell _ _ _ _ (by simpa using h)]
theorem below_put2 {B : Nat} {w W : World} (h : Below B w W) {b : Nat} (hb : B ≤ b) (x y : Value) : Below B w ((W.setCell ⟨b, 0, none⟩ x).setCell ⟨b, 1, none⟩ y) :=
  (h.setCell (p := ⟨b, 0, none⟩) hb x).setCell (p := ⟨b, 1, none⟩) hb y
theorem size_put2 (W : World) (b : Nat) (x y : Value) : ((W.setCell ⟨b, 0, none⟩ x).setCell ⟨b, 1, none⟩ y).heap.size = W.heap.size := by simp [World.setCell]
theorem Box.other {W : World} {b : Nat} {x y : Value} (h : Box W b x y) {b' : Nat} (hne : b ≠ b') (x' y' : Value) : Box ((W.setCell ⟨b', 0, none⟩ x').setCell ⟨b', 1, none⟩ y') b x y := by
  have e := heap_put2 W b' b x' y' hne
  exact ⟨(World.cell?_of_block (w := W) e).trans h.c0, (World.cell?_of_block (w := W) e).trans h.c1, (World.frozen?_of_block (w := W) e).trans h.f0, (World.frozen?_of_block (w := W) e).trans h.f1⟩
end Go.Proofs.Ytcbfmplddjmiaaa
