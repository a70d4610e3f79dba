/- Edits: the document's example is as it says. -/
import Derived.Test.YtbddjneinfkmpaaGreatDoorEdD
namespace Go.Proofs.YtbddjneinfkmpaaGreatDoor
open Go Go.RowKit Go.Sort

/-- The document's example with the edge from its block to itself. -/
def pg2 (a b c : Addr) : Pg := ⟨some a, 1, [⟨0, 0, some b, 1, [⟨true, none, 0, [], some c, 1, [0]⟩]⟩]⟩
theorem pg2_few (a b c : Addr) : (pg2 a b c).few := by
  refine ⟨by simp [pg2], fun k hk => ?_⟩
  obtain rfl : k = 0 := by simp [pg2] at hk; omega
  refine ⟨by simp [pg2, fdAt], fun j hj => ?_⟩
  obtain rfl : j = 0 := by simp [pg2, fdAt] at hj; omega
  exact ⟨by simp [pg2, fdAt, blkAt], by simp [pg2, fdAt, blkAt]⟩
theorem pg2_sane (a b c : Addr) : (pg2 a b c).sane := by
  refine ⟨by simp [pg2], fun k hk => ?_, by simp [pg2, Pg.ins, Fd.ins, Blk.ins]⟩
  obtain rfl : k = 0 := by simp [pg2] at hk; omega
  refine ⟨by simp [pg2, fdAt, headOk, blkAt], fun j hj => ?_⟩
  obtain rfl : j = 0 := by simp [pg2, fdAt] at hj; omega
  refine ⟨by simp [pg2, fdAt, blkAt], by simp [pg2, fdAt, blkAt], fun k hk => ?_, fun k hk => by simp [pg2, fdAt, blkAt] at hk⟩
  obtain rfl : k = 0 := by simp [pg2, fdAt, blkAt] at hk; omega
  exact ⟨fun h => absurd h (Nat.lt_irrefl _), by simp [pg2, fdAt, blkAt, liveAt, numAt]⟩
theorem pg2_funB (a b c : Addr) : funB (pg2 a b c) 0 = true := by
  unfold funB
  rw [(saneB_iff _).2 (pg2_sane a b c)]
  simp [pg2]
theorem pg2_funR (a b c : Addr) : funR (pg2 a b c) 0 = ⟨0, 0, some b, 1, [⟨true, none, 0, [], some c, 1, [0]⟩]⟩ := by
  unfold funR
  rw [pg2_funB]
  simp [pg2, fdAt]
theorem pg1_blkB (a b : Addr) : blkB (pg1 a b) 0 0 = true := by
  rw [blkB_iff, pg1_funR]
  simp [liveAt, blkAt]
theorem pg2_blkB (a b c : Addr) : blkB (pg2 a b c) 0 0 = true := by
  rw [blkB_iff, pg2_funR]
  simp [liveAt, blkAt]
theorem pg1_edge (a b : Addr) : edgeB (pg1 a b) 0 0 0 = false := by
  unfold edgeB blkR
  rw [pg1_blkB, pg1_funR]
  simp [blkAt]
theorem pg2_edge (a b c : Addr) : edgeB (pg2 a b c) 0 0 0 = true := by
  unfold edgeB blkR
  rw [pg2_blkB, pg2_funR]
  simp [blkAt]
def ed3 : Ed := ⟨3, 0, 0, 0, 0, 0, Ins.none⟩
theorem pg1_chk (a b : Addr) : chk (pg1 a b) ed3 = 0 := by
  unfold chk opE inFunE
  rw [(saneB_iff _).2 (pg1_sane a b)]
  simp [ed3, isOpB, pg1_funB, blocksE, pg1_blkB, pg1_edge, firstE, unl]
theorem pg2_chk (a b c : Addr) : chk (pg2 a b c) ed3 = 5 := by
  unfold chk opE inFunE
  rw [(saneB_iff _).2 (pg2_sane a b c)]
  simp [ed3, isOpB, pg2_funB, blocksE, pg2_blkB, pg2_edge, firstE, unl]
theorem pg2_is (w : World) (t0 t t' t'' : TypeId) : PgIs (w.heap.size + 4) ((((w.alloc (.cells #[.int .i64 0] t0)).alloc (.cells #[.bool true, .slice none 0 0, .slice (some ⟨w.heap.size, 0, none⟩) 1 1] t)).alloc (.cells #[.int .i64 0, .int .i64 0, .slice (some ⟨w.heap.size + 1, 0, none⟩) 1 1] t')).alloc (.cells #[.slice (some ⟨w.heap.size + 1 + 1, 0, none⟩) 1 1] t'')) (pg2 ⟨w.heap.size + 1 + 1, 0, none⟩ ⟨w.heap.size + 1, 0, none⟩ ⟨w.heap.size, 0, none⟩) := by
  have h0 := BoxL.new w [.int .i64 0] t0
  have h1 := BoxL.new (w.alloc (.cells #[.int .i64 0] t0)) [.bool true, .slice none 0 0, .slice (some ⟨w.heap.size, 0, none⟩) 1 1] t
  have h2 := BoxL.new ((w.alloc (.cells #[.int .i64 0] t0)).alloc (.cells #[.bool true, .slice none 0 0, .slice (some ⟨w.heap.size, 0, none⟩) 1 1] t)) [.int .i64 0, .int .i64 0, .slice (some ⟨w.heap.size + 1, 0, none⟩) 1 1] t'
  rw [World.size_alloc] at h1
  rw [World.size_alloc, World.size_alloc] at h2
  replace h0 := ((h0.alloc (Nat.zero_lt_succ _) (.cells #[.bool true, .slice none 0 0, .slice (some ⟨w.heap.size, 0, none⟩) 1 1] t)).alloc (Nat.zero_lt_succ _) (.cells #[.int .i64 0, .int .i64 0, .slice (some ⟨w.heap.size + 1, 0, none⟩) 1 1] t')).alloc (Nat.zero_lt_succ _) (.cells #[.slice (some ⟨w.heap.size + 1 + 1, 0, none⟩) 1 1] t'')
  replace h1 := (h1.alloc (Nat.zero_lt_succ _) (.cells #[.int .i64 0, .int .i64 0, .slice (some ⟨w.heap.size + 1, 0, none⟩) 1 1] t')).alloc (Nat.zero_lt_succ _) (.cells #[.slice (some ⟨w.heap.size + 1 + 1, 0, none⟩) 1 1] t'')
  replace h2 := h2.alloc (Nat.zero_lt_succ _) (.cells #[.slice (some ⟨w.heap.size + 1 + 1, 0, none⟩) 1 1] t'')
  intro j hj
  obtain rfl : j = 0 := by simp [pg2] at hj; omega
  refine ⟨w.heap.size + 1 + 1, 0, rfl, by omega, (h2 0 _ rfl).1, (h2 1 _ rfl).1, (h2 2 _ rfl).1, fun k hk => ?_⟩
  obtain rfl : k = 0 := by simp [pg2, fdAt] at hk; omega
  refine ⟨w.heap.size + 1, 0, rfl, by omega, (h1 0 _ rfl).1, (h1 1 _ rfl).1, (h1 2 _ rfl).1, fun n hn => by simp [pg2, fdAt, blkAt] at hn, fun n hn => ?_⟩
  obtain rfl : n = 0 := by simp [pg2, fdAt, blkAt] at hn; omega
  exact ⟨w.heap.size, 0, rfl, by omega, (h0 0 _ rfl).1⟩
end Go.Proofs.YtbddjneinfkmpaaGreatDoor
