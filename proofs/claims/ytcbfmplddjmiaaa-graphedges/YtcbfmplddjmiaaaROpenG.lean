/- A graph that came in, opened. -/
import Derived.Test.YtcbfmplddjmiaaaRows
import Derived.WalkKit
import Derived.ProofKit
import Derived.OpenShut
import Derived.Lib.SmallJoins
import Derived.Deep.Slices
import Derived.Carry
import Derived.Test.YtcbfmplddjmiaaaGrB
namespace Go.Proofs.Ytcbfmplddjmiaaa
open Go.ChangeShapes Go.WideShapes Go.ChangeAt Go.RowKit Go.Joins

theorem own : ownKnob Try.prog.godebug = none := by kernel_rfl
theorem laidOut : laidOutB Try.prog = true := by kernel_rfl
theorem cells3 : Try.prog.cellsOf 3 = 1 := by kernel_rfl
theorem cellsInts : Try.prog.cellsOf 32 = 1 := by kernel_rfl

theorem list_of {α : Type} (n : Nat) (P : Nat → α → Prop) (d : α) (h : ∀ i, i < n → ∃ x, P i x) : ∃ l : List α, l.length = n ∧ ∀ i, i < n → P i (l[i]?.getD d) := by
  have : Inhabited α := ⟨d⟩
  obtain ⟨f, hf⟩ := Deep.choose_lt h
  refine ⟨(List.range n).map f, by simp, fun i hi => ?_⟩
  have e : ((List.range n).map f)[i]?.getD d = f i := by simp [hi]
  rw [e]
  exact hf i hi

section
variable {H : Type} {enc : TypeId × Value → H} {W : World}

/-- A slice that came in: each element's cells, and their reading. -/
theorem open_any {t e : TypeId} {sz fuel : Nat} {cs : List Value} {x : DataW H × List MemPlace} (ht : Try.prog.underlying t = some (.slice e)) (hc : Try.prog.cellsOf e = sz) (hsz : 0 < sz)
    (h : DataW.trod enc Try.prog W 0 (fun _ => true) true fuel t cs = some x) : ∃ (a : Option Addr) (len cap : Nat), cs = [.slice a len cap] ∧ len ≤ maxLen ∧ ∀ i, i < len → ∃ (b o : Nat) (cs' : List Value) (n : Nat) (y : DataW H × List MemPlace),
      a = some ⟨b, o, none⟩ ∧ b < W.heap.size ∧ cs'.length = sz ∧ (∀ j, j < sz → W.cell? ⟨b, o + i * sz + j, none⟩ = cs'[j]?) ∧ DataW.trod enc Try.prog W 0 (fun _ => true) true n e cs' = some y := by
  rcases Deep.open_slice ht h with ⟨rfl, _⟩ | ⟨a, len, cap, m, n, D, Pl, rfl, _, hl, hcm, hm, _, hx⟩
  · exact ⟨none, 0, 0, rfl, Nat.zero_le _, fun i hi => absurd hi (Nat.not_lt_zero _)⟩
  · refine ⟨some a, len, cap, rfl, Nat.le_trans hl hcm, fun i hi => ?_⟩
    simp only [if_true] at hm
    obtain ⟨cs', h1, h2⟩ := hx i (by omega)
    rw [hc] at h1
    obtain ⟨_, hlen, hcell⟩ := World.cells?_some h1
    obtain ⟨b, o, spot⟩ := a
    have hspot : spot = none := by
      obtain ⟨cs0, g1, _⟩ := hx 0 (by omega)
      rw [hc] at g1
      obtain ⟨_, glen, gcell⟩ := World.cells?_some g1
      have k0 := gcell 0 hsz
      rw [List.getElem?_eq_getElem (by omega)] at k0
      simpa [Addr.add] using World.cell?_spot k0
    subst hspot
    have h0 := hcell 0 hsz
    rw [List.getElem?_eq_getElem (by omega)] at h0
    rw [add_plain] at hcell h0
    rw [add_plain] at h0
    refine ⟨b, o, cs', n, _, rfl, block_lt_of_cell h0, hlen, fun j hj => ?_, h2⟩
    have := hcell j hj
    rwa [add_plain] at this

theorem open_nums {fuel : Nat} {cs : List Value} {x : DataW H × List MemPlace} (h : DataW.trod enc Try.prog W 0 (fun _ => true) true fuel 32 cs = some x) : ∃ (a : Option Addr) (l : List Int) (cap : Nat), cs = [.slice a l.length cap] ∧ Is W.heap.size W a l := by
  obtain ⟨a, len, cap, rfl, _, hx⟩ := open_any Try.underlying32 cells3 (by decide) h
  obtain ⟨l, hl, hP⟩ := list_of len (fun i (x : Int) => ∃ b o, a = some ⟨b, o, none⟩ ∧ b < W.heap.size ∧ W.cell? ⟨b, o + i, none⟩ = some (.int .i64 x)) 0 (fun i hi => by
    obtain ⟨b, o, cs', n, y, h1, h2, h3, h4, h5⟩ := hx i hi
    obtain ⟨z, e, _⟩ := DataW.trod_int Try.underlying3 h5
    subst e
    have := h4 0 (by decide)
    simp at this
    exact ⟨z, b, o, h1, h2, this⟩)
  exact ⟨a, l, cap, by rw [hl], fun j hj => hP j (by omega)⟩

/-- A graph that came in. -/
theorem open_graph {base : Nat} {v : Value} {d : DataW H} {p : List MemPlace} (hv : Value.okWide Try.prog W .any base 22 v) (h : DataW.Trod enc Try.prog W 0 (fun _ => true) true 22 v d p) :
    ∃ (a : Option Addr) (cap : Nat) (g : List (List Int)), v = .slice a g.length cap ∧ g.length ≤ maxLen ∧ GIs W.heap.size W a g := by
  obtain ⟨a0, len0, cap0, rfl⟩ := okWide_slice Try.underlying22 hv
  obtain ⟨fuel, hf⟩ := h
  obtain ⟨a, len, cap, hcs, hlm, hx⟩ := open_any Try.underlying22 cellsInts (by decide) hf
  simp [Value.cells] at hcs
  obtain ⟨rfl, rfl, rfl⟩ := hcs
  obtain ⟨g, hl, hP⟩ := list_of len0 (fun i (l : List Int) => ∃ b o ra rc, a0 = some ⟨b, o, none⟩ ∧ b < W.heap.size ∧ W.cell? ⟨b, o + i, none⟩ = some (.slice ra l.length rc) ∧ Is W.heap.size W ra l) [] (fun i hi => by
    obtain ⟨b, o, cs', n, y, h1, h2, h3, h4, h5⟩ := hx i hi
    obtain ⟨ra, l, rc, rfl, hI⟩ := open_nums h5
    have := h4 0 (by decide)
    simp at this
    exact ⟨l, b, o, ra, rc, h1, h2, this, hI⟩)
  exact ⟨a0, cap0, g, by rw [hl], by omega, fun j hj => hP j (by omega)⟩
end
end Go.Proofs.Ytcbfmplddjmiaaa
