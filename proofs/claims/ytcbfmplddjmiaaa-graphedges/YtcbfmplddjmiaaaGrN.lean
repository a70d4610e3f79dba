/- The library's sort and its neighbours, over a row of one's own. -/
import Derived.Lib.SlicesCompact
import Derived.Sort.OwnSortedInts
import Derived.Test.YtcbfmplddjmiaaaShelG
import Derived.Test.YtcbfmplddjmiaaaGrB
namespace Go.Proofs.Ytcbfmplddjmiaaa
open Go Go.RowKit Go.Sort

theorem rising_ext : ∀ {l m : List Int}, l.Pairwise (· < ·) → m.Pairwise (· < ·) → (∀ x, x ∈ l ↔ x ∈ m) → l = m
  | [], m, _, _, h => by
    cases m with
    | nil => rfl
    | cons y r => exact absurd ((h y).2 (by simp)) (by simp)
  | x :: l, [], _, _, h => absurd ((h x).1 (by simp)) (by simp)
  | x :: l, y :: m, hl, hm, h => by
    rw [List.pairwise_cons] at hl hm
    have e : x = y := by
      have h1 := (h x).1 (by simp)
      have h2 := (h y).2 (by simp)
      rcases List.mem_cons.1 h1 with e | h1
      · exact e
      · rcases List.mem_cons.1 h2 with e | h2
        · exact e.symm
        · have := hm.1 x h1
          have := hl.1 y h2
          omega
    subst e
    rw [rising_ext hl.2 hm.2 fun z => ?_]
    have hz := h z
    simp only [List.mem_cons] at hz
    constructor
    · intro hzl
      have := hl.1 z hzl
      rcases hz.1 (.inr hzl) with e | h'
      · omega
      · exact h'
    · intro hzm
      have := hm.1 z hzm
      rcases hz.2 (.inr hzm) with e | h'
      · omega
      · exact h'

theorem upTo_rising {zs : List Int} (hs : zs.Pairwise (· ≤ ·)) : ∀ m, m ≤ zs.length → (Lib.compactUpTo zs.toArray m).Pairwise (· < ·) ∧ ∀ x, x ∈ Lib.compactUpTo zs.toArray m ↔ x ∈ zs.take m := by
  intro m
  induction m with
  | zero => intro _; simp [Lib.compactUpTo]
  | succ m ih =>
    intro hm
    obtain ⟨h1, h2⟩ := ih (by omega)
    have hml : m < zs.length := by omega
    have hget : ∀ j, j < zs.length → zs.toArray[j]! = zs[j]?.getD 0 := fun j hj => by simp [hj]
    have htk : zs.take (m + 1) = zs.take m ++ [zs[m]] := List.take_succ_eq_append_getElem hml
    rw [Lib.compactUpTo_succ]
    by_cases hk : Lib.keeps zs.toArray m = true
    · rw [if_pos hk]
      have hx : zs.toArray[m]! = zs[m] := by simp [hml]
      rw [hx]
      refine ⟨List.pairwise_append.2 ⟨h1, by simp, fun y hy z hz => ?_⟩, fun x => by rw [List.mem_append, h2, htk, List.mem_append]⟩
      simp at hz
      subst hz
      have hy' := (h2 y).1 hy
      obtain ⟨j, hj, e⟩ := List.getElem_of_mem hy'
      have hjm : j < m := by rw [List.length_take] at hj; omega
      have ej : zs[j] = y := by rw [← e, List.getElem_take]
      have hle : zs[j]'(by omega) ≤ zs[m - 1]'(by omega) := by
        by_cases hjj : j = m - 1
        · subst hjj; exact Int.le_refl _
        · exact List.pairwise_iff_getElem.1 hs j (m - 1) (by omega) (by omega) (by omega)
      have hle2 : zs[m - 1]'(by omega) ≤ zs[m] := List.pairwise_iff_getElem.1 hs (m - 1) m (by omega) hml (by omega)
      have hne : zs[m - 1]'(by omega) ≠ zs[m] := by
        intro e2
        have hf : Lib.keeps zs.toArray m = false := Lib.keeps_neg (by omega) (by simp [hml, show m - 1 < zs.length by omega, e2])
        rw [hf] at hk
        cases hk
      rw [← ej]
      omega
    · rw [if_neg hk, List.append_nil]
      refine ⟨h1, fun x => ?_⟩
      rw [h2, htk, List.mem_append]
      constructor
      · exact .inl
      · rintro (h | h)
        · exact h
        · simp at h
          subst h
          have hm0 : 0 < m := by
            rcases Nat.eq_zero_or_pos m with rfl | h0
            · exact absurd (Lib.keeps_lt_one zs.toArray 0 (by omega)) hk
            · exact h0
          have he : zs[m] = zs[m - 1]'(by omega) := by
            by_cases e2 : zs[m] = zs[m - 1]'(by omega)
            · exact e2
            · exact absurd (Lib.keeps_pos (by simp [hml, show m - 1 < zs.length by omega, e2])) hk
          rw [he]
          rw [List.mem_take_iff_getElem]
          exact ⟨m - 1, by omega, rfl⟩
/-- A list sorted, its doubles struck: the one rising list of its members. -/
theorem compact_sorted (l m : List Int) (hm : m.Pairwise (· < ·)) (h : ∀ x, x ∈ m ↔ x ∈ l) : Lib.compact (l.mergeSort fun x y => decide (x ≤ y)) = m := by
  have hs : (l.mergeSort fun x y => decide (x ≤ y)).Pairwise (· ≤ ·) := by
    have := List.pairwise_mergeSort (le := fun (x y : Int) => decide (x ≤ y)) (fun a b c h1 h2 => by simp at *; omega) (fun a b => by simp; omega) l
    simpa using this
  obtain ⟨h1, h2⟩ := upTo_rising hs _ (Nat.le_refl _)
  refine rising_ext h1 hm fun x => ?_
  unfold Lib.compact
  rw [h2, List.take_of_length_le (Nat.le_refl _), h, (List.mergeSort_perm l _).mem_iff]
theorem zs_rising {l : List Nat} (h : l.Pairwise (· < ·)) : (zs l).Pairwise (· < ·) := by
  unfold zs
  rw [List.pairwise_map]
  exact h.imp fun h => by omega
/-- What is kept of a row, sorted and its doubles struck, is the row cleaned. -/
theorem clean_row (n : Nat) (l : List Int) : Lib.compact ((l.filter fun x => decide (0 ≤ x) && decide (x < (n : Int))).mergeSort fun x y => decide (x ≤ y)) = zs (rowE n fun b => decide ((b : Int) ∈ l)) := by
  refine compact_sorted _ _ (zs_rising (rowE_rising _ _)) fun x => ?_
  unfold zs
  rw [List.mem_map, List.mem_filter]
  constructor
  · rintro ⟨y, hy, rfl⟩
    obtain ⟨h1, h2⟩ := mem_rowE.1 hy
    exact ⟨by simpa using h2, by simp; omega⟩
  · rintro ⟨h1, h2⟩
    simp only [Bool.and_eq_true, decide_eq_true_eq] at h2
    refine ⟨x.toNat, mem_rowE.2 ⟨by omega, ?_⟩, by omega⟩
    rw [show ((x.toNat : Nat) : Int) = x by omega]
    simpa using h1

theorem grow_nil (w : World) : grow w #[] = w := by
  cases w
  simp [grow]
theorem compact_le (zs : List Int) : (Lib.compact zs).length ≤ zs.length := by
  unfold Lib.compact Lib.compactUpTo
  rw [List.length_map]
  exact Nat.le_trans (List.length_filter_le _ _) (by simp)

set_option maxRecDepth 100000 in
/-- slices.Sort, of a row of one's own that has numbers. -/
theorem SortO {B : Nat} {g T cap : Nat} {l : List Int} {w : World} (hown : w.ownsRow B 3 1 (.slice (some ⟨g, 0, none⟩) T cap) T (l.map (Value.int .i64))) (hB : B ≤ w.heap.size) (hT : T ≤ 1000) :
    Calls Try.prog 43 #[.slice (some ⟨g, 0, none⟩) T cap] w fun e w' => e = .returned (.tuple #[]) ∧ w'.ownsRow B 3 1 (.slice (some ⟨g, 0, none⟩) T cap) T ((l.mergeSort fun x y => decide (x ≤ y)).map (Value.int .i64)) ∧ Below B w w' := by
  obtain ⟨hlen, ⟨hv, h0⟩ | ⟨g', cap', cur, hv, hbase, hc, hle, hle2, hsz, htk⟩⟩ := id hown
  · cases hv
  · cases hv
    have hl : l.length = T := by simpa using hlen
    subst hl
    have hH : Holds (Value.int .i64) w g 0 l.toArray := holds_of_blockI hc (by simpa using htk)
    have hs := Any.slices_Sort_int Try.lays189 g 0 cap l w hH (Array.getElem?_eq_some_iff.1 hc).1 (by omega)
    refine hs.mono ?_
    rintro e w' ⟨rfl, n, os, rfl⟩
    refine ⟨rfl, ownsRow_sortedI (by simp) hbase hc hle hle2 (by simpa using hsz), ?_⟩
    exact owns_grown (Below.refl B w) hown (grownBy_sortedI _) hB

set_option maxRecDepth 100000 in
/-- slices.Compact, of a row of one's own that has numbers. -/
theorem CompactO {B : Nat} {g T cap : Nat} {l : List Int} {w : World} (hown : w.ownsRow B 3 1 (.slice (some ⟨g, 0, none⟩) T cap) T (l.map (Value.int .i64))) (hB : B ≤ w.heap.size) (hT : T ≤ 1000) :
    Calls Try.prog 44 #[.slice (some ⟨g, 0, none⟩) T cap] w fun e w' => ∃ v', e = .returned v' ∧ w'.ownsRow B 3 1 v' (Lib.compact l).length ((Lib.compact l).map (Value.int .i64)) ∧ Below B w w' := by
  obtain ⟨hlen, ⟨hv, h0⟩ | ⟨g', cap', cur, hv, hbase, hc, hle, hle2, hsz, htk⟩⟩ := id hown
  · cases hv
  · cases hv
    have hl : l.length = T := by simpa using hlen
    subst hl
    have hH : Holds (Value.int .i64) w g 0 l.toArray := holds_of_blockI hc (by simpa using htk)
    have hs := Any.slices_Compact_int Try.laysNm220 g 0 cap l w hH (by omega) hle
    refine hs.mono ?_
    rintro e w' ⟨rfl, n, rfl⟩
    have hcl := compact_le l
    have ew : putRow (Value.int .i64) (Sort.ahead w n) g 0 (Lib.compact l ++ List.replicate (l.length - (Lib.compact l).length) 0).toArray = grow (putRow (Value.int .i64) (Sort.ahead w n) g 0 (Lib.compact l ++ List.replicate (l.length - (Lib.compact l).length) 0).toArray) #[] := (grow_nil _).symm
    rw [ew]
    refine ⟨_, rfl, ?_, owns_grown (Below.refl B w) hown (grownBy_sortedI _) hB⟩
    have hcs : cur.size = cap := by simpa using hsz
    refine ⟨by simp, .inr ⟨g, cap, _, rfl, hbase, heap_sortedI _ hc, Nat.le_trans hcl hle, hle2, by simp [putCells, hcs], ?_⟩⟩
    have h := take_putCellsI cur (Lib.compact l ++ List.replicate (l.length - (Lib.compact l).length) 0) (by simp; omega)
    have h2 := congrArg (List.take (Lib.compact l).length) h
    rw [List.take_take, List.map_append, List.take_left' (by simp)] at h2
    rw [Nat.mul_one]
    rw [← h2]
    congr 1
    simp
end Go.Proofs.Ytcbfmplddjmiaaa
