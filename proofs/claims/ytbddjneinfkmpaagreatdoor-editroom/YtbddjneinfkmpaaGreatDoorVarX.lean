/- Instructions: Vars. -/
import Derived.Sort.OwnSortedInts
import Derived.Test.YtbddjneinfkmpaaGreatDoorShelP
import Derived.Test.YtbddjneinfkmpaaGreatDoorVarA
import Derived.Test.YtbddjneinfkmpaaGreatDoorVarP
namespace Go.Proofs.YtbddjneinfkmpaaGreatDoor.Bi
open Go Go.RowKit Go.Sort

theorem grow_nil (w : World) : grow w #[] = w := by
  cases w
  simp [grow]
theorem compact_le (zs : List Int) : (Lib.compact zs).length ≤ zs.length := by
  unfold Lib.compact Lib.compactUpTo
  rw [List.length_map]
  exact Nat.le_trans (List.length_filter_le _ _) (by simp)

set_option maxRecDepth 100000 in
/-- slices.Sort, of a row of one's own that has numbers. -/
theorem SortO {B : Nat} {g T cap : Nat} {l : List Int} {w : World} (hown : w.ownsRow B 3 1 (.slice (some ⟨g, 0, none⟩) T cap) T (l.map (Value.int .i64))) (hB : B ≤ w.heap.size) (hT : T ≤ 100) :
    Calls Tryz.prog 70 #[.slice (some ⟨g, 0, none⟩) T cap] w fun e w' => e = .returned (.tuple #[]) ∧ w'.ownsRow B 3 1 (.slice (some ⟨g, 0, none⟩) T cap) T ((l.mergeSort fun x y => decide (x ≤ y)).map (Value.int .i64)) ∧ Below B w w' := by
  obtain ⟨hlen, ⟨hv, h0⟩ | ⟨g', cap', cur, hv, hbase, hc, hle, hle2, hsz, htk⟩⟩ := id hown
  · cases hv
  · cases hv
    have hl : l.length = T := by simpa using hlen
    subst hl
    have hH : Holds (Value.int .i64) w g 0 l.toArray := holds_of_blockI hc (by simpa using htk)
    have hs := Any.slices_Sort_int Tryz.lays189 g 0 cap l w hH (Array.getElem?_eq_some_iff.1 hc).1 (by omega)
    refine hs.mono ?_
    rintro e w' ⟨rfl, n, os, rfl⟩
    refine ⟨rfl, ownsRow_sortedI (by simp) hbase hc hle hle2 (by simpa using hsz), ?_⟩
    exact owns_grown (Below.refl B w) hown (grownBy_sortedI _) hB

set_option maxRecDepth 100000 in
/-- slices.Compact, of a row of one's own that has numbers. -/
theorem CompactO {B : Nat} {g T cap : Nat} {l : List Int} {w : World} (hown : w.ownsRow B 3 1 (.slice (some ⟨g, 0, none⟩) T cap) T (l.map (Value.int .i64))) (hB : B ≤ w.heap.size) (hT : T ≤ 100) :
    Calls Tryz.prog 178 #[.slice (some ⟨g, 0, none⟩) T cap] w fun e w' => ∃ v', e = .returned v' ∧ w'.ownsRow B 3 1 v' (Lib.compact l).length ((Lib.compact l).map (Value.int .i64)) ∧ Below B w w' := by
  obtain ⟨hlen, ⟨hv, h0⟩ | ⟨g', cap', cur, hv, hbase, hc, hle, hle2, hsz, htk⟩⟩ := id hown
  · cases hv
  · cases hv
    have hl : l.length = T := by simpa using hlen
    subst hl
    have hH : Holds (Value.int .i64) w g 0 l.toArray := holds_of_blockI hc (by simpa using htk)
    have hs := Any.slices_Compact_int Tryz.laysNm220 g 0 cap l w hH (by omega) hle
    refine hs.mono ?_
    rintro e w' ⟨rfl, n, rfl⟩
    have hcl := compact_le l
    have ew : putRow (Value.int .i64) (Sort.ahead w n) g 0 (Lib.compact l ++ List.replicate (l.length - (Lib.compact l).length) 0).toArray = grow (putRow (Value.int .i64) (Sort.ahead w n) g 0 (Lib.compact l ++ List.replicate (l.length - (Lib.compact l).length) 0).toArray) #[] := (grow_nil _).symm
    rw [ew]
    refine ⟨_, rfl, ?_, owns_grown (Below.refl B w) hown (grownBy_sortedI _) hB⟩
    have hcs : cur.size = cap := by simpa using hsz
    refine ⟨by simp, .inr ⟨g, cap, _, rfl, hbase, heap_sortedI _ hc, Nat.le_trans hcl hle, hle2, by simp [putCells, hcs], ?_⟩⟩
    have h := take_putCellsI cur (Lib.compact l ++ List.replicate (l.length - (Lib.compact l).length) 0) (by simp; omega)
    have h2 := congrArg (List.take (Lib.compact l).length) h
    rw [List.take_take, List.map_append, List.take_left' (by simp)] at h2
    rw [Nat.mul_one]
    rw [← h2]
    congr 1
    simp
end Go.Proofs.YtbddjneinfkmpaaGreatDoor.Bi
