/- Graphs in memory: rows that are read, rows of one's own. -/
import Derived.Deep.OwnRows
import Derived.Test.YtcbfmplddjmiaaaInts
import Derived.Test.YtcbfmplddjmiaaaGrM
namespace Go.Proofs.Ytcbfmplddjmiaaa
open Go Go.RowKit Go.Sort

theorem Is.on {w W : World} {a : Option Addr} {l : List Int} (h : Is w.heap.size w a l) (hb : Below w.heap.size w W) : Is W.heap.size W a l := (h.below hb).mono hb.size

/-- A graph's rows, read. -/
def GIs (B : Nat) (W : World) (a : Option Addr) (g : List (List Int)) : Prop :=
  ∀ j, j < g.length → ∃ b o ra rc, a = some ⟨b, o, none⟩ ∧ b < B ∧ W.cell? ⟨b, o + j, none⟩ = some (.slice ra (g[j]?.getD []).length rc) ∧ Is B W ra (g[j]?.getD [])
theorem GIs.below {B : Nat} {W W' : World} {a : Option Addr} {g : List (List Int)} (h : GIs B W a g) (hb : Below B W W') : GIs B W' a g := fun j hj =>
  let ⟨b, o, ra, rc, e, hlt, hc, hi⟩ := h j hj
  ⟨b, o, ra, rc, e, hlt, (hb.cell (p := ⟨b, o + j, none⟩) hlt).trans hc, hi.below hb⟩
theorem GIs.mono {B B' : Nat} {W : World} {a : Option Addr} {g : List (List Int)} (h : GIs B W a g) (hb : B ≤ B') : GIs B' W a g := fun j hj =>
  let ⟨b, o, ra, rc, e, hlt, hc, hi⟩ := h j hj
  ⟨b, o, ra, rc, e, Nat.lt_of_lt_of_le hlt hb, hc, hi.mono hb⟩
theorem GIs.on {w W : World} {a : Option Addr} {g : List (List Int)} (h : GIs w.heap.size w a g) (hb : Below w.heap.size w W) : GIs W.heap.size W a g := (h.below hb).mono hb.size

/-- Few nodes, few edges. -/
def FewG (g : List (List Int)) : Prop := g.length ≤ 40 ∧ ∀ j : Nat, (g[j]?.getD []).length ≤ 60
theorem few_rows {n : Nat} (hn : n ≤ 40) (E : Nat → Nat → Bool) : FewG (zss (rows n E)) := by
  refine ⟨by simp [zss, rows_length, hn], fun j => ?_⟩
  unfold zss
  rw [List.getElem?_map]
  by_cases hj : j < n
  · rw [rows_get hj]
    simp only [Option.map_some, Option.getD_some, zs_length]
    have := rowE_le n (E j)
    omega
  · rw [List.getElem?_eq_none (by rw [rows_length]; omega)]
    simp

/-- A graph of the call's own: its rows' cells lie in one block, each row in one of its own. -/
structure GOwn (B : Nat) (W : World) (gb n : Nat) (R : Nat → Value) (L : Nat → List Int) : Prop where
  base : B ≤ gb
  top : W.rowIs gb 32 n R
  row : ∀ j, j < n → W.ownsRow B 3 1 (R j) (L j).length ((L j).map (Value.int .i64))
  apart : ∀ j, j < n → (R j).ownBlock ≠ some gb
  sep : ∀ j k, j < n → k < n → j ≠ k → (R j).ownBlock = none ∨ (R j).ownBlock ≠ (R k).ownBlock

theorem owns_kept {W W' : World} {b : Nat} {e : TypeId} {size n : Nat} {v : Value} {xs : List Value} (h : W.ownsRow b e size v n xs) (hb : Below W.heap.size W W') : W'.ownsRow b e size v n xs :=
  ⟨h.1, h.2.imp id fun ⟨g, cap, cur, a, hg, hc, r⟩ => ⟨g, cap, cur, a, hg, (hb.block g (Array.getElem?_eq_some_iff.1 hc).1).trans hc, r⟩⟩
theorem GOwn.below {B : Nat} {W W' : World} {gb n : Nat} {R : Nat → Value} {L : Nat → List Int} (h : GOwn B W gb n R L) (hb : Below W.heap.size W W') : GOwn B W' gb n R L :=
  ⟨h.base, h.top.of_block (hb.block gb h.top.lt), fun j hj => owns_kept (h.row j hj) hb, h.apart, h.sep⟩
theorem GOwn.mono {B B' : Nat} {W : World} {gb n : Nat} {R : Nat → Value} {L : Nat → List Int} (h : GOwn B W gb n R L) (hb : B' ≤ B) : GOwn B' W gb n R L :=
  ⟨Nat.le_trans hb h.base, h.top, fun j hj => owns_base (h.row j hj) hb, h.apart, h.sep⟩
theorem GOwn.congr {B : Nat} {W : World} {gb n : Nat} {R : Nat → Value} {L L' : Nat → List Int} (h : GOwn B W gb n R L) (e : ∀ j, j < n → L j = L' j) : GOwn B W gb n R L' :=
  ⟨h.base, h.top, fun j hj => e j hj ▸ h.row j hj, h.apart, h.sep⟩
/-- A new row laid in a place. -/
theorem GOwn.put {B : Nat} {W : World} {gb n : Nat} {R : Nat → Value} {L : Nat → List Int} (h : GOwn B W gb n R L) {i : Nat} {v : Value} {l : List Int}
    (hv : W.ownsRow B 3 1 v l.length (l.map (Value.int .i64))) (hne : v.ownBlock ≠ some gb) (hsep : ∀ j, j < n → j ≠ i → v.ownBlock = none ∨ v.ownBlock ≠ (R j).ownBlock) :
    GOwn B (W.setCell ⟨gb, i, none⟩ v) gb n (fun j => if j = i then v else R j) (fun j => if j = i then l else L j) := by
  have keep : ∀ (u : Value) (m : Nat) (xs : List Value), W.ownsRow B 3 1 u m xs → u.ownBlock ≠ some gb → (W.setCell ⟨gb, i, none⟩ v).ownsRow B 3 1 u m xs := by
    intro u m xs hu hn
    refine ⟨hu.1, hu.2.imp id fun ⟨g, cap, cur, e, hg, hc, r⟩ => ⟨g, cap, cur, e, hg, ?_, r⟩⟩
    rw [Below.heap_setCell _ _ _ _ (by subst e; simpa [Value.ownBlock] using hn)]
    exact hc
  refine ⟨h.base, h.top.set i v, fun j hj => ?_, fun j hj => ?_, fun j k hj hk hjk => ?_⟩
  · by_cases e : j = i
    · simp only [e, if_true]; exact keep _ _ _ hv hne
    · simp only [e, if_false]; exact keep _ _ _ (h.row j hj) (h.apart j hj)
  · by_cases e : j = i
    · simp only [e, if_true]; exact hne
    · simp only [e, if_false]; exact h.apart j hj
  · by_cases e : j = i
    · have e2 : ¬ k = i := by omega
      simp only [e, e2, if_true, if_false]
      exact hsep k hk e2
    · by_cases e2 : k = i
      · simp only [e, e2, if_true, if_false]
        rcases hsep j hj e with h1 | h1
        · by_cases h3 : (R j).ownBlock = none
          · exact .inl h3
          · right; rw [h1]; exact h3
        · exact .inr fun h2 => h1 h2.symm
      · simp only [e, e2, if_false]; exact h.sep j k hj hk hjk

/-- Read as any graph is. -/
theorem GOwn.gis {B : Nat} {W : World} {gb n : Nat} {R : Nat → Value} {L : Nat → List Int} (h : GOwn B W gb n R L) {g : List (List Int)} (hn : g.length = n) (hL : ∀ j, j < n → g[j]?.getD [] = L j) :
    GIs W.heap.size W (some ⟨gb, 0, none⟩) g := by
  intro j hj
  have hj' : j < n := by omega
  obtain ⟨ra, rc, e, _, hI⟩ := is_of_ints (h.row j hj')
  refine ⟨gb, 0, ra, rc, rfl, h.top.lt, ?_, ?_⟩
  · rw [Nat.zero_add, h.top.cell hj', hL j hj', e]
  · rw [hL j hj']; exact hI

/-- A row of one's own, as one that is read: where it lies. -/
theorem is_own {B : Nat} {W : World} {u : Value} {l : List Int} {T : Nat} (h : W.ownsRow B 3 1 u T (l.map (Value.int .i64))) : ∃ a cap, u = .slice a T cap ∧ T ≤ cap ∧ l.length = T ∧ Is W.heap.size W a l ∧ ∀ p, a = some p → B ≤ p.block := by
  obtain ⟨a, cap, e, hl, hI⟩ := is_of_ints h
  obtain ⟨_, ⟨e2, h0⟩ | ⟨g, cap', cur, e2, hb, hc, hle, _, hsz, htk⟩⟩ := h
  · rw [e] at e2
    simp only [Value.slice.injEq] at e2
    obtain ⟨rfl, rfl, rfl⟩ := e2
    exact ⟨none, 0, e, Nat.le_refl _, hl, hI, fun p hp => by cases hp⟩
  · rw [e] at e2
    simp only [Value.slice.injEq] at e2
    obtain ⟨rfl, _, rfl⟩ := e2
    exact ⟨_, _, e, hle, hl, hI, fun p hp => by cases hp; exact hb⟩

theorem infoInts : (Try.prog.info? 32).map (fun i => (i.zero, i.size, i.bytes)) = some (some (.slice none 0 0), 1, 24) := by kernel_rfl
theorem info4 : (Try.prog.info? 4).map (fun i => (i.zero, i.size, i.bytes)) = some (some (.bool false), 1, 1) := by kernel_rfl

def nils (k : Nat) : Array Value := Array.replicate k (.slice none 0 0)
theorem made_nils (k : Nat) : madeCells (Value.slice none 0 0).cells (k * 1) = nils k := by
  apply Array.ext
  · simp [madeCells, nils]
  · intro i h1 h2
    simp [madeCells, nils, Value.cells, Nat.mod_one]
theorem mk_runG (k : Nat) (hk : k ≤ 1024) (W : World) : (Instr.makeSlice 22 (.int .i64 (k : Int)) (.int .i64 (k : Int))).run Try.prog W = .ok (.slice (some ⟨W.heap.size, 0, none⟩) k k) (W.alloc (.cells (nils k) 32)) := by
  obtain ⟨i, hi, hz0, hz1, hz2⟩ := info_parts infoInts
  have h := run_make (P := Try.prog) W 22 32 i (.slice none 0 0) Try.underlying22 hi hz0 .i64 .i64 k k (by omega) (by omega) (by rw [hz2]; omega) (by omega)
  rw [h, hz1]
  simp only [Int.toNat_natCast]
  rw [made_nils]
def falses (k : Nat) : Array Value := Array.replicate k (.bool false)
theorem made_falses (k : Nat) : madeCells (Value.bool false).cells (k * 1) = falses k := by
  apply Array.ext
  · simp [madeCells, falses]
  · intro i h1 h2
    simp [madeCells, falses, Value.cells, Nat.mod_one]
theorem mk_runB (k : Nat) (hk : k ≤ 1024) (W : World) : (Instr.makeSlice 29 (.int .i64 (k : Int)) (.int .i64 (k : Int))).run Try.prog W = .ok (.slice (some ⟨W.heap.size, 0, none⟩) k k) (W.alloc (.cells (falses k) 4)) := by
  obtain ⟨i, hi, hz0, hz1, hz2⟩ := info_parts info4
  have h := run_make (P := Try.prog) W 29 4 i (.bool false) Try.underlying29 hi hz0 .i64 .i64 k k (by omega) (by omega) (by rw [hz2]; omega) (by omega)
  rw [h, hz1]
  simp only [Int.toNat_natCast]
  rw [made_falses]
theorem nils_own (W : World) (k : Nat) : GOwn W.heap.size (W.alloc (.cells (nils k) 32)) W.heap.size k (fun _ => .slice none 0 0) (fun _ => []) := by
  refine ⟨Nat.le_refl _, ?_, fun j _ => World.ownsRow_nil _ _ _ _, fun j _ => by simp [Value.ownBlock], fun j k _ _ _ => .inl rfl⟩
  have h := World.rowIs_alloc W (nils k) 32 (fun _ => .slice none 0 0) (fun i hi => by simp only [nils, Array.size_replicate] at hi; simp [nils, hi])
  simpa [nils] using h

/-- Bools of the call's own, at the head of a block. -/
def BIs (W : World) (b : Nat) (l : List Bool) : Prop := W.rowIs b 4 l.length (fun j => .bool (l[j]?.getD false))
theorem falses_is (W : World) (k : Nat) : BIs (W.alloc (.cells (falses k) 4)) W.heap.size (List.replicate k false) := by
  have h := World.rowIs_alloc W (falses k) 4 (fun _ => .bool false) (fun i hi => by simp only [falses, Array.size_replicate] at hi; simp [falses, hi])
  unfold BIs
  rw [List.length_replicate]
  refine World.rowIs.congr (f := fun _ => .bool false) (by simpa [falses] using h) fun i hi => by simp [hi]
theorem BIs.set {W : World} {b : Nat} {l : List Bool} (h : BIs W b l) (i : Nat) (x : Bool) (hi : i < l.length) : BIs (W.setCell ⟨b, i, none⟩ (.bool x)) b (l.set i x) := by
  unfold BIs
  rw [List.length_set]
  refine (World.rowIs.set h i (.bool x)).congr fun j hj => ?_
  by_cases e : j = i
  · subst e; simp [hi]
  · simp [e, List.getElem?_set_ne (fun e2 => e e2.symm)]
theorem BIs.below {W W' : World} {b : Nat} {l : List Bool} (h : BIs W b l) (hb : Below W.heap.size W W') : BIs W' b l := World.rowIs.of_block h (hb.block b (World.rowIs.lt h))
theorem BIs.block {W W' : World} {b : Nat} {l : List Bool} (h : BIs W b l) (e : W'.heap[b]? = W.heap[b]?) : BIs W' b l := World.rowIs.of_block h e
end Go.Proofs.Ytcbfmplddjmiaaa
