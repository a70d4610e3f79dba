/- Programs: how often each Id is had. -/
import Derived.Laws.Rows
import Derived.Laws.CopyOwn
import Derived.Laws.Tables
import Derived.Deep.WholeRow
import Derived.Test.YtpegkllhomjocaaGreatDoorPgI
namespace Go.Proofs.YtpegkllhomjocaaGreatDoor
open Go Go.RowKit Go.Sort Go.Shelf

attribute [local go_sem] Oper.semAt_some

set_option maxHeartbeats 1000000 in
/-- The function value that 'instrs' hands back. -/
theorem instrs_any (p : Pg) (w : World) :
    Calls Tryz.prog 68 #[p.val] w fun e w' => e = .returned (.func (.func 101) #[] #[.pointer (some ⟨w.heap.size, 0, none⟩)]) ∧ w' = w.alloc (.cells #[.slice p.pa p.funs.length p.pc] 24) := by
  unfold Pg.val
  go_enter Tryz.func68, Tryz.ntmps68
  go_wp2
  go_ret
  exact ⟨rfl, rfl⟩

/-- An instruction of p, where it stands. -/
structure Of (p : Pg) where
  val : At
  mem : val ∈ p.ats
def Of.enc {p : Pg} (x : Of p) : Array Value := x.1.enc
def vals {p : Pg} (l : List (Of p)) : List At := l.map (·.1)
theorem vals_app {p : Pg} (l : List (Of p)) (x : Of p) : vals (l ++ [x]) = vals l ++ [x.1] := by simp [vals]
/-- All instructions come, in order; or the first of them. -/
theorem instrs_stops (n : Nat) (hn : 1 ≤ n) (Bs n₀ : Nat) (p : Pg) (w : World) (hfew : p.few) (hBl : Bs < w.heap.size) (hn₀ : n₀ ≤ w.heap.size) (hBs : w.cell? ⟨Bs, 0, none⟩ = some (.slice p.pa p.funs.length p.pc)) (hp : PgIs n₀ w p) :
    SeqStopsK Fence.wide n Tryz.prog 101 #[.pointer (some ⟨Bs, 0, none⟩)] (Of.enc (p := p)) (Below n₀) (fun ys => vals ys = p.ats) (fun pre => vals pre <+: p.ats) p.ats.length w := fun l J Jx W hW hJ _ hY h0 => by
  refine (instrs1_in n hn l Bs n₀ p hfew (fun pre W => ∃ pre' : List (Of p), vals pre' = pre ∧ J pre' W) (fun pre W => ∃ pre' : List (Of p), vals pre' = pre ∧ Jx pre' W)
    (fun pre W o ⟨q, e, h⟩ => ⟨q, e, hJ q W _ none h (World.grownBy_alloc W o none) (fun r e => by cases e)⟩) ?_ W ((hW.cell (p := ⟨Bs, 0, none⟩) hBl).trans hBs) (hp.below (hW.mono hn₀)) (Nat.le_trans hn₀ hW.size) ⟨[], rfl, h0⟩).mono ?_
  · rintro pre x W1 ⟨q, rfl, hq⟩ hpre
    have hx : x ∈ p.ats := hpre.subset (by simp)
    have hlen : q.length < p.ats.length := by
      have := hpre.length_le
      simp [vals] at this
      omega
    obtain ⟨fn, tmps, assign, body, hy, hR⟩ := hY q ⟨x, hx⟩ W1 hq hlen
    refine ⟨fn, tmps, assign, body, hy, hR.mono ?_⟩
    rintro e W' (⟨h1, h2, h3⟩ | ⟨h1, h2⟩)
    · exact .inl ⟨h1, ⟨_, vals_app _ _, h2⟩, h3⟩
    · exact .inr ⟨h1, ⟨_, vals_app _ _, h2⟩⟩
  · rintro e W' ⟨h1, ⟨ys, h2, q, h3, h4⟩ | ⟨pre, h2, q, h3, h4⟩⟩
    · exact ⟨h1, .inl ⟨q, h3.trans h2, h4⟩⟩
    · exact ⟨h1, .inr ⟨q, show vals q <+: p.ats by rw [h3]; exact h2, h4⟩⟩

theorem atsC_len (f b : Nat) : ∀ (l : List Ins) (k : Nat), (atsC f b k l).length = l.length
  | [], _ => rfl
  | i :: r, k => by simp [atsC, atsC_len f b r (k + 1)]
theorem atsB_len (f : Nat) : ∀ (l : List Blk) (b : Nat), (∀ x ∈ l, x.code.length ≤ 30) → (atsB f b l).length ≤ 30 * l.length
  | [], _, _ => Nat.le_refl _
  | x :: r, b, h => by
    have h1 := atsB_len f r (b + 1) (fun y hy => h y (List.mem_cons_of_mem _ hy))
    have h2 := h x (by simp)
    simp only [atsB, List.length_append, atsC_len, List.length_cons]
    omega
theorem atsF_len : ∀ (l : List Fd) (f : Nat), (∀ x ∈ l, x.blocks.length ≤ 20 ∧ ∀ y ∈ x.blocks, y.code.length ≤ 30) → (atsF f l).length ≤ 600 * l.length
  | [], _, _ => Nat.le_refl _
  | x :: r, f, h => by
    have h1 := atsF_len r (f + 1) (fun y hy => h y (List.mem_cons_of_mem _ hy))
    have h2 := h x (by simp)
    have h3 := atsB_len f x.blocks 0 h2.2
    simp only [atsF, List.length_append, List.length_cons]
    omega
theorem mem_fdAt {l : List Fd} {x : Fd} (h : x ∈ l) : ∃ k, k < l.length ∧ fdAt l k = x := by
  obtain ⟨k, hk, e⟩ := List.getElem_of_mem h
  exact ⟨k, hk, by simp [fdAt, hk, e]⟩
theorem mem_blkAt {l : List Blk} {x : Blk} (h : x ∈ l) : ∃ k, k < l.length ∧ blkAt l k = x := by
  obtain ⟨k, hk, e⟩ := List.getElem_of_mem h
  exact ⟨k, hk, by simp [blkAt, hk, e]⟩
theorem mem_insAt {l : List Ins} {x : Ins} (h : x ∈ l) : ∃ k, k < l.length ∧ insAt l k = x := by
  obtain ⟨k, hk, e⟩ := List.getElem_of_mem h
  exact ⟨k, hk, by simp [insAt, hk, e]⟩
theorem ats_le {p : Pg} (h : p.few) : p.ats.length ≤ 6000 := by
  have h1 := atsF_len p.funs 0 (fun x hx => by
    obtain ⟨k, hk, rfl⟩ := mem_fdAt hx
    refine ⟨(h.2 k hk).1, fun y hy => ?_⟩
    obtain ⟨j, hj, rfl⟩ := mem_blkAt hy
    exact ((h.2 k hk).2 j hj).1)
  have := h.1
  show (atsF 0 p.funs).length ≤ 6000
  omega

/-- How often each Id is among these. -/
def idCells (l : List Int) : Array Value := ((List.range 96).map fun j : Nat => Value.int .i64 ((l.count (j : Int) : Nat) : Int)).toArray
theorem idCells_nil : idCells [] = Tryz.zeroCells92 := by kernel_rfl
theorem idCells_size (l : List Int) : (idCells l).size = 96 := by simp [idCells]
theorem idCells_at (l : List Int) (k : Nat) (hk : k < 96) : (idCells l)[k]? = some (.int .i64 ((l.count (k : Int) : Nat) : Int)) := by simp [idCells, hk]
theorem idCells_step (l : List Int) (k : Nat) (hk : k < 96) : (idCells l).setIfInBounds k (.int .i64 (((l.count (k : Int) : Nat) : Int) + 1)) = idCells (l ++ [(k : Int)]) := by
  apply Array.ext
  · simp [idCells]
  · intro j h1 h2
    have hj : j < 96 := by simpa [idCells] using h2
    by_cases hjk : j = k
    · subst hjk
      simp [idCells, List.count_append]
    · rw [Array.getElem_setIfInBounds_ne (by rw [idCells_size]; exact hj) (fun e => hjk e.symm)]
      have : ¬ ((k : Int) = (j : Int)) := by omega
      simp [idCells, List.count_append, List.count_singleton, this]
def RowAt (W : World) (B : Nat) (t : TypeId) (cs : Array Value) : Prop := W.heap[B]? = some (.cells cs t (0, 0))
theorem rowAt_own {β : Type} (B : Nat) (t : TypeId) (f : β → Array Value) : Own (fun s W => RowAt W B t (f s)) := fun _ _ _ _ hs hg hrow =>
  (grownBy_keeps_cells hg hrow hs rfl).trans hs
theorem RowAt.below {B n₀ : Nat} {W W' : World} {t : TypeId} {cs : Array Value} (h : RowAt W B t cs) (hb : Below n₀ W W') (hlt : B < n₀) : RowAt W' B t cs := (hb.block B hlt).trans h

theorem run_storeCells_row {P : Program} (w : World) (g : Nat) (t ty : TypeId) (old cells : Array Value) (hg : w.heap[g]? = some (.cells old t (0, 0))) (hi : (P.info? ty).map (·.size) = some cells.size) (ho : old.size = cells.size) (h1 : cells.all (·.oneCell') = true) :
    (storeCells ⟨g, 0, none⟩ cells.toList).run P w = .ok () (w.setRow g cells) := by
  have := run_storeVar_row (P := P) w g t ty old cells hg hi ho h1
  cases hq : P.info? ty with
  | none => simp [hq] at hi
  | some i =>
    have hs : cells.size = i.size := by simp [hq] at hi; omega
    simpa [storeVar, sizeOf, typeInfo, hq, Value.cells, hs] using this
theorem BoxL.own {β : Type} (g : Nat) (cs : β → List Value) : Own (fun s W => BoxL W g (cs s)) := fun _ _ _ _ hs hg hr j v hj =>
  ⟨cell_kept (hs j v hj).1 hg hr, (frozen_kept (hs j v hj).1 hg hr).trans (hs j v hj).2⟩

set_option maxRecDepth 100000 in
set_option maxHeartbeats 4000000 in
theorem idTimes_any (p : Pg) (w : World) (hp : PgIs w.heap.size w p) (hfew : p.few) (hid : ∀ i ∈ p.ins, 0 ≤ i.id ∧ i.id < 96) :
    Calls Tryz.prog 72 #[p.val] w fun e w' => e = .returned (.agg (idCells (p.ins.map Ins.id))) ∧ Below w.heap.size w w' := by
  refine (callsIn_wide (n := 3)).1 ?_
  have HID : Hid (∀ x : Of p, 0 ≤ x.1.i.id ∧ x.1.i.id < 96) := Lib.hid fun x => hid _ (by rw [← ats_i]; exact List.mem_map_of_mem x.2)
  have HLEN : Hid (p.ats.length = p.ins.length) := Lib.hid (by rw [← ats_i, List.length_map])
  have HPL : Hid (p.ats.length ≤ 6000) := Lib.hid (ats_le hfew)
  have HP := Lib.hid hp
  have HFW := Lib.hid hfew
  have HINS := Lib.hid (ats_i p)
  clear hp hfew hid
  unfold Pg.val
  refine callsIn_of_wp_marks Tryz.func72 rfl trivial ?_ rfl
  simp only [Tryz.ntmps72, List.size_toArray, List.length_cons, List.length_nil, Nat.reduceAdd, Nat.reduceSub, Array.replicate_succ, Array.replicate_zero, List.push_toArray, List.append_toArray, List.nil_append, List.cons_append]
  gi_wp2_with (refine ⟨trivial, ?_⟩; gi_at_call 68; refine (callsIn_wide.2 (instrs_any _ _)).mono ?_; rintro e w2 ⟨rfl, rfl⟩)
  rename_i Kq hKq
  have hB4 := below4 w (.cells #[.slice p.pa p.funs.length p.pc] 24) (.cells Tryz.zeroCells92 92) (.cells Tryz.zeroCells92 92) (.cells #[.slice p.pa p.funs.length p.pc] 24)
  have r1 : RowAt ((((w.alloc (.cells #[.slice p.pa p.funs.length p.pc] 24)).alloc (.cells Tryz.zeroCells92 92)).alloc (.cells Tryz.zeroCells92 92)).alloc (.cells #[.slice p.pa p.funs.length p.pc] 24)) (w.heap.size + 1) 92 (idCells []) := by
    rw [idCells_nil]
    have h := heap_alloc_new (w.alloc (.cells #[.slice p.pa p.funs.length p.pc] 24)) (.cells Tryz.zeroCells92 92)
    rw [World.size_alloc] at h
    show _ = _
    rw [heap_alloc_old _ _ (by simp only [World.size_alloc]; omega), heap_alloc_old _ _ (by simp only [World.size_alloc]; omega)]
    exact h
  have r2 : RowAt ((((w.alloc (.cells #[.slice p.pa p.funs.length p.pc] 24)).alloc (.cells Tryz.zeroCells92 92)).alloc (.cells Tryz.zeroCells92 92)).alloc (.cells #[.slice p.pa p.funs.length p.pc] 24)) (w.heap.size + 1 + 1) 92 (idCells []) := by
    rw [idCells_nil]
    have h := heap_alloc_new ((w.alloc (.cells #[.slice p.pa p.funs.length p.pc] 24)).alloc (.cells Tryz.zeroCells92 92)) (.cells Tryz.zeroCells92 92)
    rw [World.size_alloc, World.size_alloc] at h
    show _ = _
    rw [heap_alloc_old _ _ (by simp only [World.size_alloc]; omega)]
    exact h
  have c4 := (BoxL.new (((w.alloc (.cells #[.slice p.pa p.funs.length p.pc] 24)).alloc (.cells Tryz.zeroCells92 92)).alloc (.cells Tryz.zeroCells92 92)) [.slice p.pa p.funs.length p.pc] 24 0 _ rfl).1
  rw [World.size_alloc, World.size_alloc, World.size_alloc] at c4
  have hs : ((((w.alloc (.cells #[.slice p.pa p.funs.length p.pc] 24)).alloc (.cells Tryz.zeroCells92 92)).alloc (.cells Tryz.zeroCells92 92)).alloc (.cells #[.slice p.pa p.funs.length p.pc] 24)).heap.size = w.heap.size + 1 + 1 + 1 + 1 := by simp only [World.size_alloc]
  have c4' : ((((w.alloc (.cells #[.slice p.pa p.funs.length p.pc] 24)).alloc (.cells Tryz.zeroCells92 92)).alloc (.cells Tryz.zeroCells92 92)).alloc (.cells #[.slice p.pa p.funs.length p.pc] 24)).cell? ⟨w.heap.size + 1 + 1 + 1, 0, none⟩ = some (.slice p.pa p.funs.length p.pc) := c4
  clear c4
  generalize (((w.alloc (.cells #[.slice p.pa p.funs.length p.pc] 24)).alloc (.cells Tryz.zeroCells92 92)).alloc (.cells Tryz.zeroCells92 92)).alloc (.cells #[.slice p.pa p.funs.length p.pc] 24) = W4 at *
  refine wpIn_rangeFunc_ownH rfl (by omega) (gf := 101) (lb := #[.pointer (some ⟨w.heap.size + 1 + 1 + 1, 0, none⟩)]) rfl trivial (enters_of Tryz.func101 (by kernel_rfl) rfl)
    (instrs_stops 2 (by omega) (w.heap.size + 1 + 1 + 1) w.heap.size p W4 HFW.out (by omega) hB4.size c4' (HP.out.below hB4)) belowK_t (belowK_b hB4.size) (Below.refl _ _) (fun _ => rfl)
    (fun pre W => RowAt W (w.heap.size + 1 + 1) 92 (idCells ((vals pre).map (·.i.id))) ∧ (RowAt W (w.heap.size + 1) 92 (idCells []) ∧ Below w.heap.size w W))
    (fun _ _ _ => False)
    (OwnFrom.and (Own.from (rowAt_own (w.heap.size + 1 + 1) 92 (fun pre : List (Of p) => idCells ((vals pre).map (·.i.id)))) _) (OwnFrom.and (Own.from (rowAt_own (w.heap.size + 1) 92 (fun _ : List (Of p) => idCells [])) _) (ownFrom_below (Nat.le_refl _) hB4.size)))
    (fun _ _ _ _ _ hs _ _ => hs)
    ⟨r2, r1, hB4⟩
    (fun x a' W => ∃ B, BoxL W B x.1.i.cells ∧ a' = { tmps := #[.agg #[.slice p.pa p.funs.length p.pc], .pointer (some ⟨w.heap.size, 0, none⟩), .pointer (some ⟨w.heap.size + 1, 0, none⟩), .pointer (some ⟨w.heap.size + 1 + 1, 0, none⟩), undef, .pointer (some ⟨B, 0, none⟩), .agg #[.slice p.pa p.funs.length p.pc], .func (.func 101) #[] #[.pointer (some ⟨w.heap.size + 1 + 1 + 1, 0, none⟩)], .agg #[.int .i64 (x.1.f : Int), .int .i64 (x.1.b : Int), .int .i64 (x.1.k : Int)], x.1.i.val, undef, undef, undef, undef, undef, undef, undef], defers := [] })
    ?own ?assign ?body ?done ?stop
  case own =>
    rintro x a' _ X Y row ⟨B, hbx, rfl⟩ hg hr
    exact ⟨B, BoxL.own B (fun _ : Unit => x.1.i.cells) () X Y row hbx hg (fun r e => (hr r e).2), rfl⟩
  case assign =>
    rintro l pre ⟨⟨f, b, k, ⟨id, kind, dst, a, bb, c, ff, nn, x0, x1, x2⟩⟩, hx⟩ W K hI hK
    clear r1 r2 c4'
    unfold Of.enc At.enc Ins.val
    dsimp only
    gi_wp2
    obtain ⟨h1, h2, h3⟩ := hI
    have hgr := World.grownBy_alloc W (.cells #[.int .i64 id, .int .i64 kind, .int .i64 dst, .int .i64 a, .int .i64 bb, .int .i64 c, .int .i64 ff, .int .i64 nn, .int .i64 x0, .int .i64 x1, .int .i64 x2] 40) none
    have hb := below1 W (.cells #[.int .i64 id, .int .i64 kind, .int .i64 dst, .int .i64 a, .int .i64 bb, .int .i64 c, .int .i64 ff, .int .i64 nn, .int .i64 x0, .int .i64 x1, .int .i64 x2] 40)
    refine hK _ _ ((KeepsOthers.alloc _ _).from _) (hb.mono h3.size) ⟨h1.below hb (Array.getElem?_eq_some_iff.1 h1).1, h2.below hb (Array.getElem?_eq_some_iff.1 h2).1, h3.trans (hb.mono h3.size)⟩ ⟨W.heap.size, ?_, rfl⟩
    exact BoxL.new W [.int .i64 id, .int .i64 kind, .int .i64 dst, .int .i64 a, .int .i64 bb, .int .i64 c, .int .i64 ff, .int .i64 nn, .int .i64 x0, .int .i64 x1, .int .i64 x2] 40
  case body =>
    rintro l pre ⟨⟨f, b, k, i⟩, hx⟩ a' W hl hr ⟨hr2, hr1, hB⟩ ⟨B, hbx, rfl⟩ hlt
    have hidd := HID.out ⟨⟨f, b, k, i⟩, hx⟩
    have hcnt : ((vals pre).map (·.i.id)).length < 6000 := by have := HPL.out; simp [vals]; omega
    obtain ⟨ids, hids⟩ : ∃ ids, (vals pre).map (·.i.id) = ids := ⟨_, rfl⟩
    rw [hids] at hr2 hcnt
    have HIDS := Lib.hid hids
    have HR1 := Lib.hid hr1
    have HR2 := Lib.hid hr2
    have HB := Lib.hid hB
    clear hids hr1 hB r1 r2 c4'
    dsimp only at hidd
    obtain ⟨n, hn⟩ := Int.eq_ofNat_of_zero_le hidd.1
    have hn96 : n < 96 := by omega
    have HN := Lib.hid hn
    have cc := cell_of_row W (w.heap.size + 1 + 1) n _ _ _ hr2
    rw [idCells_at _ n hn96] at cc
    have cf := frozen_of_row W (w.heap.size + 1 + 1) n _ _ hr2
    have kb := (hbx 0 _ rfl).1
    rw [hn] at kb
    obtain ⟨ct, hct⟩ : ∃ ct, ids.count (n : Int) = ct := ⟨_, rfl⟩
    rw [hct] at cc
    have HCT := Lib.hid hct
    have hctl : ct < 6000 := by rw [← hct]; exact Nat.lt_of_le_of_lt (List.count_le_length ..) hcnt
    have hni : (n : Int) < 96 := by omega
    clear hr2 hct hn hidd hcnt hbx
    unfold Ins.val
    dsimp only
    gi_wp2
    refine ⟨(KeepsOthers.setCell _ _ _).from _, (Below.refl _ _).setCell (p := ⟨w.heap.size + 1 + 1, n, none⟩) (by show w.heap.size ≤ w.heap.size + 1 + 1; omega) _, ?_, ?_, HB.out.setCell (p := ⟨w.heap.size + 1 + 1, n, none⟩) (by show w.heap.size ≤ w.heap.size + 1 + 1; omega) _⟩
    · have h := heap_setCell_same W (w.heap.size + 1 + 1) n _ _ (.int .i64 ((ct : Int) + 1)) HR2.out
      rw [← HCT.out, idCells_step _ n hn96] at h
      show _ = _
      rw [vals_app, List.map_append, List.map_singleton, HN.out, HIDS.out, ← HCT.out]
      exact h
    · exact (Below.heap_setCell _ _ _ _ (by simp)).trans HR1.out
  case done =>
    rintro D ys W hD hys ⟨hr2, hr1, hB⟩ hK
    have hcs := idCells_size ((vals ys).map (·.i.id))
    have hfin : idCells ((vals ys).map (·.i.id)) = idCells (p.ins.map Ins.id) := by
      rw [hys, ← HINS.out, List.map_map]
      rfl
    rw [hfin] at hr2 hcs
    obtain ⟨cs, hcse⟩ : ∃ cs, idCells (p.ins.map Ins.id) = cs := ⟨_, rfl⟩
    have hall : cs.all (·.oneCell') = true := by
      rw [← hcse]
      simp [idCells, Value.oneCell']
    rw [hcse] at hr2 hcs
    have HCSE := Lib.hid hcse
    clear hcse hfin
    refine hKq _ _ (wpIn_wide.2 ?_)
    go_wp2_with fail
    refine wp_load_row 92 _ rfl (w.heap.size + 1 + 1) rfl 92 cs (0, 0) _ hr2 Tryz.underlying92 rfl (by rw [hcs]; kernel_rfl) ?_
    go_wp2_with fail
    rw [run_storeCells_row W (w.heap.size + 1) 92 92 (idCells []) cs hr1 (by rw [hcs]; kernel_rfl) (by rw [hcs, idCells_size]) hall]
    go_wp2_with fail
    have hK2 : (W.setRow (w.heap.size + 1) cs).heap[D]? = some (.deferred (some [])) := (setRow_other W (w.heap.size + 1) D cs (by omega)).trans hK
    have hrow := setRow_heap W (w.heap.size + 1) (idCells []) cs 92 (0, 0) hr1
    have hB2 := below_setRow hB (Nat.le_succ w.heap.size) cs
    refine ⟨by simp, .inl ⟨_, _, rfl, run_takeDeferred hK2, ?_⟩⟩
    exact ⟨_, results_cell_row rfl _ _ (w.heap.size + 1) 92 cs (0, 0) _ (by rfl) ((World.putObj_heap_other (by omega)).trans hrow) Tryz.underlying92 rfl (by rw [hcs]; kernel_rfl), by rw [HCSE.out], hB2.trans (belowK_b (w := w) (Nat.le_refl _) _ D _ _ (by have := hB4.size; omega) hK2 rfl rfl)⟩
  case stop =>
    rintro D c pre W _ _ h _
    exact h.elim
end Go.Proofs.YtpegkllhomjocaaGreatDoor
