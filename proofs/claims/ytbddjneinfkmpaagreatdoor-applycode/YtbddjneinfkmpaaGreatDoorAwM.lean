/- Apply: the document's example. -/
import Derived.Test.YtbddjneinfkmpaaGreatDoorApQ
namespace Go.Proofs.YtbddjneinfkmpaaGreatDoor
open Go Go.RowKit Go.Sort

/-- The document's example: a function of a block, none, a block. -/
def pg8 (a b : Addr) : Pg := ⟨some a, 1, [⟨0, 0, some b, 3, [newB, Blk.none, newB]⟩]⟩
def ed8 : Ed := ⟨2, 0, 2, 0, 0, 0, Ins.none⟩
theorem pg8_few (a b : Addr) : (pg8 a b).few := by
  refine ⟨by simp [pg8], fun k hk => ?_⟩
  obtain rfl : k = 0 := by simp [pg8] at hk; omega
  refine ⟨by simp [pg8, fdAt], fun j hj => ?_⟩
  have hj : j < 3 := hj
  rcases (by omega : j = 0 ∨ j = 1 ∨ j = 2) with rfl | rfl | rfl <;> exact ⟨by simp [pg8, fdAt, blkAt, newB, Blk.none], by simp [pg8, fdAt, blkAt, newB, Blk.none]⟩
theorem pg8_sane (a b : Addr) : (pg8 a b).sane := by
  refine ⟨by simp [pg8], fun k hk => ?_, by simp [pg8, Pg.ins, Fd.ins, Blk.ins, newB, Blk.none]⟩
  obtain rfl : k = 0 := by simp [pg8] at hk; omega
  refine ⟨by simp [pg8, fdAt, headOk, blkAt, newB], fun j hj => ?_⟩
  have hj : j < 3 := hj
  rcases (by omega : j = 0 ∨ j = 1 ∨ j = 2) with rfl | rfl | rfl <;> refine ⟨by simp [pg8, fdAt, blkAt, newB, Blk.none], by simp [pg8, fdAt, blkAt, newB, Blk.none], fun k hk => by simp [pg8, fdAt, blkAt, newB, Blk.none] at hk, fun k hk => by simp [pg8, fdAt, blkAt, newB, Blk.none] at hk⟩
theorem pg8_wf (a b : Addr) : (pg8 a b).wf := by
  refine ⟨⟨Nat.le_refl _, fun h => nomatch h⟩, fun f hf => ?_⟩
  obtain rfl := List.mem_singleton.1 hf
  refine ⟨⟨Nat.le_refl _, fun h => nomatch h⟩, fun x hx => ?_⟩
  simp only [List.mem_cons, List.not_mem_nil, or_false] at hx
  rcases hx with rfl | rfl | rfl
  · exact newB_wf
  · exact none_wf
  · exact newB_wf
theorem pg8_funB (a b : Addr) : funB (pg8 a b) 0 = true := by
  unfold funB
  rw [(saneB_iff _).2 (pg8_sane a b)]
  simp [pg8]
theorem pg8_funR (a b : Addr) : funR (pg8 a b) 0 = ⟨0, 0, some b, 3, [newB, Blk.none, newB]⟩ := by
  unfold funR
  rw [pg8_funB]
  simp [pg8, fdAt]
theorem pg8_blkB (a b : Addr) : blkB (pg8 a b) 0 2 = true := by
  rw [blkB_iff, pg8_funR]
  simp [liveAt, blkAt, newB]
theorem pg8_chk (a b : Addr) : chk (pg8 a b) ed8 = 0 := by
  unfold chk opE inFunE
  rw [(saneB_iff _).2 (pg8_sane a b)]
  simp [ed8, isOpB, pg8_funB, blocksE, pg8_blkB, firstE, unl]
theorem pg8_len (a b : Addr) : (appP (pg8 a b) ed8).funs.length = 1 := by
  unfold appP
  rw [if_pos (pg8_chk a b)]
  simp [ed8, pg8]
theorem pg8_blocks (a b : Addr) : (fdAt (appP (pg8 a b) ed8).funs 0).blocks.length = 1 := by
  unfold appP
  rw [if_pos (pg8_chk a b)]
  simp [ed8, pg8, fdAt, funA, blksA, trimL, newB, Blk.none, Blk.with, delN, List.dropWhile]

theorem pg8_app (a b : Addr) : appP (pg8 a b) ed8 = ⟨none, 0, [⟨0, 0, none, 0, [newB]⟩]⟩ := by
  unfold appP
  rw [if_pos (pg8_chk a b)]
  simp [ed8, pg8, fdAt, funA, blksA, trimL, newB, Blk.none, Blk.with, delN, List.dropWhile]
theorem pg8_appFew (a b : Addr) : (appP (pg8 a b) ed8).few := by
  rw [pg8_app]
  refine ⟨by simp, fun k hk => ?_⟩
  obtain rfl : k = 0 := by simp at hk; omega
  refine ⟨by simp [fdAt], fun j hj => ?_⟩
  obtain rfl : j = 0 := by simp [fdAt] at hj; omega
  exact ⟨by simp [fdAt, blkAt, newB], by simp [fdAt, blkAt, newB]⟩
theorem app8 (a b : Addr) (w : World) (h : Rd w (pg8 a b)) : Calls Tryz.prog 49 #[.agg #[.slice (some a) 1 1], .agg #[.int .i64 2, .int .i64 0, .int .i64 2, .int .i64 0, .int .i64 0, .int .i64 0, .int .i64 0, .int .i64 0, .int .i64 0, .int .i64 0, .int .i64 0, .int .i64 0, .int .i64 0, .int .i64 0, .int .i64 0, .int .i64 0, .int .i64 0]] w fun x w' => ∃ (q : Pg) (b o : Nat) (ba : Option Addr) (bc : Nat), x = .returned (.tuple #[.agg #[.slice (some ⟨b, o, none⟩) 1 q.pc], .int .i64 0]) ∧ q.val = .agg #[.slice (some ⟨b, o, none⟩) 1 q.pc] ∧ b < w'.heap.size ∧ w'.cell? ⟨b, o + 2, none⟩ = some (.slice ba 1 bc) ∧ Rd w' q ∧ q.sane ∧ q.few ∧ Below w.heap.size w w' := by
  refine Calls.mono (Apply_any (pg8 a b) ed8 w h (pg8_few a b) (pg8_wf a b)) ?_
  rintro x w' ⟨q, rfl, hq, -, hqd, hb⟩
  have hl : q.funs.length = 1 := (len_of_d hqd).trans (pg8_len a b)
  obtain ⟨b', o', e, hlt, -, -, c2, -⟩ := hq 0 (by omega)
  have hbl : (fdAt q.funs 0).blocks.length = 1 := by
    have h1 := congrArg (fun f => f.blocks.length) (fdAt_of_d hqd 0)
    simp only [Fd.d, List.length_map] at h1
    exact h1.trans (pg8_blocks a b)
  have hv : q.val = .agg #[.slice (some ⟨b', o', none⟩) 1 q.pc] := by unfold Pg.val; rw [e, hl]
  rw [hbl, Nat.zero_mul, Nat.add_zero] at c2
  exact ⟨q, b', o', _, _, by rw [hv, pg8_chk], hv, hlt, c2, h.on hb |>.2 |> fun t => ⟨hq, t⟩, (Pg.sane_of_d hqd).2 (sane_app (pg8_chk a b)), (Pg.few_of_d hqd).2 (pg8_appFew a b), hb⟩
theorem pg8_is (w : World) (t t' t'' : TypeId) : PgIs (w.heap.size + 3) (((w.alloc (.cells #[.bool true, .slice none 0 0, .slice none 0 0, .bool false, .slice none 0 0, .slice none 0 0, .bool true, .slice none 0 0, .slice none 0 0] t)).alloc (.cells #[.int .i64 0, .int .i64 0, .slice (some ⟨w.heap.size, 0, none⟩) 3 3] t')).alloc (.cells #[.slice (some ⟨w.heap.size + 1, 0, none⟩) 1 1] t'')) (pg8 ⟨w.heap.size + 1, 0, none⟩ ⟨w.heap.size, 0, none⟩) := by
  have h1 := BoxL.new w [.bool true, .slice none 0 0, .slice none 0 0, .bool false, .slice none 0 0, .slice none 0 0, .bool true, .slice none 0 0, .slice none 0 0] t
  have h2 := BoxL.new (w.alloc (.cells #[.bool true, .slice none 0 0, .slice none 0 0, .bool false, .slice none 0 0, .slice none 0 0, .bool true, .slice none 0 0, .slice none 0 0] t)) [.int .i64 0, .int .i64 0, .slice (some ⟨w.heap.size, 0, none⟩) 3 3] t'
  rw [World.size_alloc] at h2
  replace h1 := (h1.alloc (Nat.zero_lt_succ _) (.cells #[.int .i64 0, .int .i64 0, .slice (some ⟨w.heap.size, 0, none⟩) 3 3] t')).alloc (Nat.zero_lt_succ _) (.cells #[.slice (some ⟨w.heap.size + 1, 0, none⟩) 1 1] t'')
  replace h2 := h2.alloc (Nat.zero_lt_succ _) (.cells #[.slice (some ⟨w.heap.size + 1, 0, none⟩) 1 1] t'')
  intro j hj
  obtain rfl : j = 0 := by simp [pg8] at hj; omega
  refine ⟨w.heap.size + 1, 0, rfl, by omega, (h2 0 _ rfl).1, (h2 1 _ rfl).1, (h2 2 _ rfl).1, fun k hk => ?_⟩
  have hk : k < 3 := hk
  rcases (by omega : k = 0 ∨ k = 1 ∨ k = 2) with rfl | rfl | rfl
  · exact ⟨w.heap.size, 0, rfl, by omega, (h1 0 _ rfl).1, (h1 1 _ rfl).1, (h1 2 _ rfl).1, newB_is _ _⟩
  · exact ⟨w.heap.size, 0, rfl, by omega, (h1 3 _ rfl).1, (h1 4 _ rfl).1, (h1 5 _ rfl).1, none_is _ _⟩
  · exact ⟨w.heap.size, 0, rfl, by omega, (h1 6 _ rfl).1, (h1 7 _ rfl).1, (h1 8 _ rfl).1, newB_is _ _⟩
end Go.Proofs.YtbddjneinfkmpaaGreatDoor
