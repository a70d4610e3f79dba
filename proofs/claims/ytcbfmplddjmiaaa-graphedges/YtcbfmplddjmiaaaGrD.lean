/- Graphs: the way down (postorder). -/
import Derived.Deep.LoopGhost
import Derived.Test.YtcbfmplddjmiaaaGrC
import Derived.Test.YtcbfmplddjmiaaaGrA
namespace Go.Proofs.Ytcbfmplddjmiaaa
open Go Go.RowKit Go.Sort

/-- The way down, as it lies in memory. -/
structure MIs (M : Nat) (W : World) (n gb bb : Nat) (R : Nat → Value) (vw vt : Value) (s : St) : Prop where
  gM : gb < M
  top : W.rowIs gb 32 n R
  row : ∀ j, j < n → ∃ ra rc, R j = .slice ra (s.leftOf j).length rc ∧ (s.leftOf j).length ≤ rc ∧ Is M W ra (zs (s.leftOf j)) ∧ ∀ p, ra = some p → p.block ≠ gb
  bM : M ≤ bb
  gone : BIs W bb s.gone
  way : W.ownsRow M 3 1 vw s.way.length ((zs s.way.reverse).map (Value.int .i64))
  told : W.ownsRow M 3 1 vt s.told.length ((zs s.told).map (Value.int .i64))
  wb : vw.ownBlock ≠ some bb
  tb : vt.ownBlock ≠ some bb
  wt : vw.ownBlock = none ∨ vw.ownBlock ≠ vt.ownBlock

theorem MIs.mM {M : Nat} {W : World} {n gb bb : Nat} {R : Nat → Value} {vw vt : Value} {s : St} (h : MIs M W n gb bb R vw vt s) : M < W.heap.size := Nat.lt_of_le_of_lt h.bM (World.rowIs.lt h.gone)

/-- Behind a step that has written one own row alone (and nothing below M). -/
theorem MIs.rows {M : Nat} {W W' : World} {n gb bb : Nat} {R : Nat → Value} {vw vt : Value} {s : St} (h : MIs M W n gb bb R vw vt s) (hb : Below M W W') :
    W'.rowIs gb 32 n R ∧ ∀ j, j < n → ∃ ra rc, R j = .slice ra (s.leftOf j).length rc ∧ (s.leftOf j).length ≤ rc ∧ Is M W' ra (zs (s.leftOf j)) ∧ ∀ p, ra = some p → p.block ≠ gb :=
  ⟨h.top.of_block (hb.block gb h.gM), fun j hj => let ⟨ra, rc, h1, h2, h3, h4⟩ := h.row j hj; ⟨ra, rc, h1, h2, h3.below hb, h4⟩⟩

/-- A node more is told. -/
theorem MIs.tell {M : Nat} {W W' : World} {n gb bb : Nat} {R : Nat → Value} {vw vt vt' : Value} {s : St} (h : MIs M W n gb bb R vw vt s) {a : Nat} {ws : List Nat} (hw : s.way = a :: ws)
    (hg : W.grownBy W' vt.ownBlock) (ho : W'.ownsRow M 3 1 vt' (s.told.length + 1) ((zs s.told).map (Value.int .i64) ++ [.int .i64 (a : Int)])) (hn : vt'.ownBlock = vt.ownBlock ∨ ∃ k, vt'.ownBlock = some k ∧ W.heap.size ≤ k)
    {gw cw : Nat} (hv : vw = .slice (some ⟨gw, 0, none⟩) (ws.length + 1) cw) :
    MIs M W' n gb bb R (.slice (some ⟨gw, 0, none⟩) ws.length cw) vt' { s with way := ws, told := s.told ++ [a] } := by
  have hMt : ∀ k, vt.ownBlock = some k → M ≤ k := fun k hk => (h.told.lt k hk).1
  have hb : Below M W W' := (Below.refl M W).grown hg (by have := h.mM; omega) hMt
  obtain ⟨h1, h2⟩ := h.rows hb
  have hbb : some bb ≠ vt.ownBlock := fun e => h.tb e.symm
  have hwb := h.wb
  rw [hv] at hwb
  refine ⟨h.gM, h1, h2, h.bM, h.gone.block (hg.block bb (World.rowIs.lt h.gone) hbb), ?_, ?_, hwb, ?_, ?_⟩
  · have hk : W'.ownsRow M 3 1 vw s.way.length ((zs s.way.reverse).map (Value.int .i64)) := h.way.kept hg h.wt
    rw [hv, hw] at hk
    obtain ⟨hl, ⟨e, _⟩ | ⟨g, cap, cur, e, hb1, hc, hle, hm, hs, ht⟩⟩ := hk
    · cases e
    · cases e
      refine ⟨by simp [zs], .inr ⟨gw, cw, cur, rfl, hb1, hc, by have hle' : (a :: ws).length ≤ cw := hle; rw [List.length_cons] at hle'; show ws.length ≤ cw; omega, hm, hs, ?_⟩⟩
      have e2 := congrArg (List.take (ws.length * 1)) ht
      rw [List.take_take, Nat.min_eq_left (by simp)] at e2
      rw [e2]
      simp [zs]
  · show W'.ownsRow M 3 1 vt' (s.told ++ [a]).length ((zs (s.told ++ [a])).map _)
    simpa [zs] using ho
  · rcases hn with e | ⟨k, e, hk⟩
    · rw [e]; exact h.tb
    · rw [e]; intro e2; cases e2; have := World.rowIs.lt h.gone; omega
  · have hwt := h.wt
    rw [hv] at hwt
    right
    rcases hwt with e | e
    · cases e
    · rcases hn with e1 | ⟨k, e1, hk⟩
      · rw [e1]; exact e
      · rw [e1]
        intro e2
        have := (h.way.lt gw (by rw [hv]; rfl)).2
        simp [Value.ownBlock] at e2
        omega

/-- A row of which the head is left out. -/
theorem slice_from (b0 o0 L k rc : Nat) (hk : k + 1 ≤ L) (hc : L ≤ rc) : ∃ o', (o' = o0 + (k + 1) ∨ L = k + 1) ∧ ∀ W, (Instr.slice 32 (.slice (some ⟨b0, o0, none⟩) L rc) (some (.int .i64 ((k : Int) + 1))) none none).run Try.prog W = .ok (.slice (some ⟨b0, o', none⟩) (L - (k + 1)) (rc - (k + 1))) W := by
  have h2 : (k : Int) + 1 ≤ (L : Int) := by omega
  have h3 : (k : Int) + 1 ≤ (rc : Int) := by omega
  by_cases h : rc = k + 1
  · refine ⟨o0, .inr (by omega), fun W => ?_⟩
    have h4 : L = k + 1 := by omega
    subst h h4
    simp [go_sem, Try.underlying32]
    intro hh
    omega
  · refine ⟨o0 + (k + 1), .inl rfl, fun W => ?_⟩
    go_simp
    intro hh
    omega

/-- One goes on. -/
theorem MIs.go {M : Nat} {W W' : World} {n gb bb : Nat} {R : Nat → Value} {vw vw' vt : Value} {s : St} (h : MIs M W n gb bb R vw vt s) (hgl : s.gone.length = n) (hll : s.left.length = n) {a b : Nat} {ws pre r : List Nat} (hw : s.way = a :: ws) (ha : a < n) (hbn : b < n)
    (hsp : s.leftOf a = pre ++ b :: r) {ra rc : Nat} {ro : Nat} (hR : R a = .slice (some ⟨ra, ro, none⟩) (s.leftOf a).length rc) {o' : Nat} (ho' : o' = ro + (pre.length + 1) ∨ (s.leftOf a).length = pre.length + 1)
    {W1 : World} (hW1 : W1 = (W.setCell ⟨gb, a, none⟩ (.slice (some ⟨ra, o', none⟩) r.length (rc - (pre.length + 1)))).setCell ⟨bb, b, none⟩ (.bool true))
    (hg : W1.grownBy W' vw.ownBlock) (ho : W'.ownsRow M 3 1 vw' (s.way.length + 1) ((zs s.way.reverse).map (Value.int .i64) ++ [.int .i64 (b : Int)])) (hn : vw'.ownBlock = vw.ownBlock ∨ ∃ k, vw'.ownBlock = some k ∧ W.heap.size ≤ k) :
    MIs M W' n gb bb (fun j => if j = a then .slice (some ⟨ra, o', none⟩) r.length (rc - (pre.length + 1)) else R j) vw' vt ⟨s.left.set a r, s.gone.set b true, b :: a :: ws, s.told⟩ := by
  obtain ⟨sl, hsl⟩ : ∃ sl, Value.slice (some ⟨ra, o', none⟩) r.length (rc - (pre.length + 1)) = sl := ⟨_, rfl⟩
  rw [hsl] at hW1 ⊢
  have hMw : ∀ k, vw.ownBlock = some k → M ≤ k := fun k hk => (h.way.lt k hk).1
  have hsz : W1.heap.size = W.heap.size := by rw [hW1]; simp [World.setCell]
  have hgM := h.gM
  have hbM := h.bM
  have hbl := World.rowIs.lt h.gone
  have hblk1 : ∀ k, k ≠ gb → k ≠ bb → W1.heap[k]? = W.heap[k]? := fun k h1 h2 => by
    rw [hW1, Below.heap_setCell _ _ _ _ (by simpa using h2), Below.heap_setCell _ _ _ _ (by simpa using h1)]
  have hblk : ∀ k, k < W.heap.size → k ≠ gb → k ≠ bb → some k ≠ vw.ownBlock → W'.heap[k]? = W.heap[k]? := fun k h0 h1 h2 h3 => (hg.block k (by omega) h3).trans (hblk1 k h1 h2)
  have hlo : ∀ x, (St.mk (s.left.set a r) (s.gone.set b true) (b :: a :: ws) s.told).leftOf x = if x = a then r else s.leftOf x := leftOf_set s hll ha r _ _ _
  have htop1 : W1.rowIs gb 32 n (fun j => if j = a then sl else R j) := by
    rw [hW1]
    exact (h.top.set a sl).setOther (a := ⟨bb, b, none⟩) (by show gb ≠ bb; omega) _
  have hgone1 : BIs W1 bb (s.gone.set b true) := by
    rw [hW1]
    refine BIs.set (BIs.block h.gone ?_) b true (by omega)
    rw [Below.heap_setCell _ _ _ _ (by show bb ≠ gb; omega)]
  refine ⟨h.gM, htop1.of_block (hg.block gb (by omega) (fun e => by have := hMw gb e.symm; omega)), ?_, h.bM, hgone1.block (hg.block bb (by omega) (fun e => h.wb e.symm)), ?_, ?_, ?_, h.tb, ?_⟩
  · intro j hj
    rw [hlo]
    by_cases e : j = a
    · subst e
      obtain ⟨ra', rc', e1, e2, e3, e4⟩ := h.row j hj
      rw [hR] at e1
      cases e1
      have hlen := congrArg List.length hsp
      simp only [List.length_append, List.length_cons] at hlen
      simp only [if_true]
      have hne : ra ≠ gb := e4 ⟨ra, ro, none⟩ rfl
      refine ⟨some ⟨ra, o', none⟩, rc - (pre.length + 1), by rw [← hsl], by omega, ?_, fun p hp => by cases hp; exact hne⟩
      intro i hi
      rw [zs_length] at hi
      have hpos : pre.length + 1 + i < (zs (s.leftOf j)).length := by rw [zs_length]; omega
      obtain rfl : o' = ro + (pre.length + 1) := by
        rcases ho' with e | e
        · exact e
        · omega
      obtain ⟨b0, o0, ex, hlt, hc⟩ := e3 (pre.length + 1 + i) hpos
      cases ex
      refine ⟨ra, ro + (pre.length + 1), rfl, hlt, ?_⟩
      rw [show ro + (pre.length + 1) + i = ro + (pre.length + 1 + i) by omega]
      have hcell : W'.cell? ⟨ra, ro + (pre.length + 1 + i), none⟩ = W.cell? ⟨ra, ro + (pre.length + 1 + i), none⟩ :=
        World.cell?_of_block (w := W) (hblk ra (by omega) hne (by omega) (fun e => by have := hMw ra e.symm; omega))
      rw [hcell, hc, zs_get, zs_get, hsp, List.getElem?_append_right (by omega)]
      rw [show pre.length + 1 + i - pre.length = i + 1 by omega, List.getElem?_cons_succ]
    · simp only [e, if_false]
      obtain ⟨ra', rc', e1, e2, e3, e4⟩ := h.row j hj
      refine ⟨ra', rc', e1, e2, ?_, e4⟩
      intro i hi
      obtain ⟨b0, o0, ex, hlt, hc⟩ := e3 i hi
      refine ⟨b0, o0, ex, hlt, ?_⟩
      have hne : b0 ≠ gb := e4 ⟨b0, o0, none⟩ ex
      rw [← hc]
      exact World.cell?_of_block (w := W) (hblk b0 (by omega) hne (by omega) (fun e => by have := hMw b0 e.symm; omega))
  · show W'.ownsRow M 3 1 vw' (b :: a :: ws).length ((zs (b :: a :: ws).reverse).map _)
    rw [hw] at ho
    simpa [zs] using ho
  · have h1 : ∀ k, vt.ownBlock = some k → W'.heap[k]? = W.heap[k]? := fun k hk => by
      have hlt := h.told.lt k hk
      refine hblk k hlt.2 (by omega) (fun e => h.tb (e ▸ hk)) (fun e => ?_)
      rcases h.wt with e2 | e2
      · rw [e2] at e; cases e
      · exact e2 (e.symm.trans hk.symm)
    obtain ⟨hl, h2⟩ := h.told
    refine ⟨hl, h2.imp id ?_⟩
    rintro ⟨g, cap, cur, e, hb1, hc, r⟩
    exact ⟨g, cap, cur, e, hb1, by rw [h1 g (by rw [e]; rfl)]; exact hc, r⟩
  · rcases hn with e | ⟨k, e, hk⟩
    · rw [e]; exact h.wb
    · rw [e]; intro e2; cases e2; omega
  · rcases hn with e | ⟨k, e, hk⟩
    · rw [e]; exact h.wt
    · right
      rw [e]
      intro e2
      have := (h.told.lt k e2.symm).2
      omega

theorem dropWhile_app {α : Type} (p : α → Bool) : ∀ (pre : List α) (b : α) (r : List α), (∀ x ∈ pre, p x = true) → p b = false → (pre ++ b :: r).dropWhile p = b :: r
  | [], b, r, _, hb => by simp [hb]
  | x :: pre, b, r, h, hb => by
    rw [List.cons_append, List.dropWhile_cons, if_pos (h x (by simp))]
    exact dropWhile_app p pre b r (fun y hy => h y (List.mem_cons_of_mem _ hy)) hb
theorem dropWhile_all {α : Type} (p : α → Bool) : ∀ (l : List α), (∀ x ∈ l, p x = true) → l.dropWhile p = []
  | [], _ => rfl
  | x :: l, h => by
    rw [List.dropWhile_cons, if_pos (h x (by simp))]
    exact dropWhile_all p l fun y hy => h y (List.mem_cons_of_mem _ hy)
theorem stp_go {s : St} {a b : Nat} {ws pre r : List Nat} (hw : s.way = a :: ws) (hl : s.leftOf a = pre ++ b :: r) (hpre : ∀ x ∈ pre, s.isGone x = true) (hb : s.isGone b = false) :
    stp s = ⟨s.left.set a r, s.gone.set b true, b :: a :: ws, s.told⟩ := by
  unfold stp
  rw [hw]
  show s.next a ws ((s.leftOf a).dropWhile s.isGone) = _
  rw [hl, dropWhile_app _ _ _ _ hpre hb]
  rfl
theorem stp_tell {s : St} {a : Nat} {ws : List Nat} (hw : s.way = a :: ws) (hall : ∀ x ∈ s.leftOf a, s.isGone x = true) :
    stp s = { s with way := ws, told := s.told ++ [a] } := by
  unfold stp
  rw [hw]
  show s.next a ws ((s.leftOf a).dropWhile s.isGone) = _
  rw [dropWhile_all _ _ hall]
  rfl
theorem gone_upto {s : St} {a k : Nat} (hk : k ≤ (s.leftOf a).length) (h : ∀ j, j < k → s.isGone ((s.leftOf a)[j]?.getD 0) = true) : ∀ x ∈ (s.leftOf a).take k, s.isGone x = true := by
  intro x hx
  obtain ⟨j, hj, e⟩ := List.getElem_of_mem hx
  rw [List.length_take] at hj
  have h1 := h j (by omega)
  rw [List.getElem?_eq_getElem (by omega)] at h1
  rw [List.getElem_take] at e
  rw [← e]
  exact h1

/-- One goes on: what the program does. -/
theorem goes {M : Nat} {W W1 W' : World} {n gb bb : Nat} {R : Nat → Value} {vw vw' vt : Value} {s : St} {E : Nat → Nat → Bool} {a0 : Nat} (hP : PInv n E a0 s) (h : MIs M W n gb bb R vw vt s) {a b k L m : Nat} {ws : List Nat} (hw : s.way = a :: ws)
    (hL : (s.leftOf a).length = L) (hkL : k + 1 ≤ L) (hb : (s.leftOf a)[k]?.getD 0 = b) (hpre : ∀ j, j < k → s.isGone ((s.leftOf a)[j]?.getD 0) = true) (hbg : s.isGone b = false)
    {ra ro rc o' : Nat} (hR : R a = .slice (some ⟨ra, ro, none⟩) L rc) (ho' : o' = ro + (k + 1) ∨ L = k + 1)
    (hW1 : (W.setCell ⟨gb, a, none⟩ (.slice (some ⟨ra, o', none⟩) (L - (k + 1)) (rc - (k + 1)))).setCell ⟨bb, b, none⟩ (.bool true) = W1)
    {o : Obj} (hg : (W1.alloc o).grownBy W' vw.ownBlock) (hm : s.way.length = m + 1) (ho : W'.ownsRow M 3 1 vw' (m + 1 + 1) ((zs s.way.reverse).map (Value.int .i64) ++ [.int .i64 (b : Int)]))
    (hn : vw'.ownBlock = vw.ownBlock ∨ ∃ k, vw'.ownBlock = some k ∧ (W1.alloc o).heap.size ≤ k) :
    (∃ R', MIs M W' n gb bb R' vw' vt (stp s)) ∧ ∀ B, B ≤ gb → B ≤ M → Below B W W' := by
  have han : a < n := (hP.rc a (.inr (by rw [hw]; simp))).lt.2
  have hkl : k < (s.leftOf a).length := by omega
  have hbe : (s.leftOf a)[k] = b := by rw [← hb, List.getElem?_eq_getElem hkl]; rfl
  have hsp : s.leftOf a = (s.leftOf a).take k ++ b :: (s.leftOf a).drop (k + 1) := by
    rw [← hbe, List.getElem_cons_drop, List.take_append_drop]
  have hbn : b < n := (hP.st a b (by rw [hsp]; simp)).1
  have hpl : ((s.leftOf a).take k).length = k := by rw [List.length_take]; omega
  have hrl : ((s.leftOf a).drop (k + 1)).length = L - (k + 1) := by rw [List.length_drop, hL]
  have hsz : W1.heap.size = W.heap.size := by rw [← hW1]; simp [World.setCell]
  rw [stp_go hw hsp (gone_upto (by omega) hpre) hbg]
  constructor
  · exact ⟨_, h.go hP.gl hP.ll hw han hbn hsp (by rw [hL]; exact hR) (by rw [hpl, hL]; exact ho') (by rw [hpl, hrl]; exact hW1.symm) (grown_alloc o hg) (by rw [hm]; exact ho)
      (hn.imp _root_.id fun ⟨k, e, hk⟩ => ⟨k, e, by rw [World.size_alloc] at hk; omega⟩)⟩
  · have hMw : ∀ k, vw.ownBlock = some k → M ≤ k := fun k hk => (h.way.lt k hk).1
    intro B hBg hBM
    refine ⟨hg.os.trans (by rw [← hW1]; rfl), hg.tape.trans (by rw [← hW1]; rfl), hg.output.trans (by rw [← hW1]; rfl), ?_, ?_⟩
    · have := hg.size
      rw [World.size_alloc] at this
      omega
    · intro k hk
      have hs := h.mM
      have hbM := h.bM
      rw [(grown_alloc o hg).block k (by omega) (fun e => by have := hMw k e.symm; omega), ← hW1, Below.heap_setCell _ _ _ _ (by show k ≠ bb; omega), Below.heap_setCell _ _ _ _ (by show k ≠ gb; omega)]

/-- A node is told: what the program does. -/
theorem tells {M : Nat} {W W' : World} {n gb bb : Nat} {R : Nat → Value} {vt vt' : Value} {s : St} {gw cw m : Nat} (h : MIs M W n gb bb R (.slice (some ⟨gw, 0, none⟩) (m + 1) cw) vt s) {a T : Nat} {ws : List Nat} (hw : s.way = a :: ws)
    (hm : ws.length = m) (hT : s.told.length = T) (hpre : ∀ j, j < (s.leftOf a).length → s.isGone ((s.leftOf a)[j]?.getD 0) = true)
    {o : Obj} (hg : (W.alloc o).grownBy W' vt.ownBlock) (ho : W'.ownsRow M 3 1 vt' (T + 1) ((zs s.told).map (Value.int .i64) ++ [.int .i64 (a : Int)])) (hn : vt'.ownBlock = vt.ownBlock ∨ ∃ k, vt'.ownBlock = some k ∧ (W.alloc o).heap.size ≤ k) :
    MIs M W' n gb bb R (.slice (some ⟨gw, 0, none⟩) m cw) vt' (stp s) ∧ Below M W W' := by
  have hall := gone_upto (Nat.le_refl _) hpre
  rw [List.take_of_length_le (Nat.le_refl _)] at hall
  rw [stp_tell hw hall]
  have hMt : ∀ k, vt.ownBlock = some k → M ≤ k := fun k hk => (h.told.lt k hk).1
  constructor
  · have h2 := h.tell hw (grown_alloc o hg) (by rw [hT]; exact ho) (hn.imp _root_.id fun ⟨k, e, hk⟩ => ⟨k, e, by rw [World.size_alloc] at hk; omega⟩) (gw := gw) (cw := cw) (by rw [hm])
    rw [hm] at h2
    exact h2
  · exact (Below.refl M W).grown (grown_alloc o hg) (by have := h.mM; omega) hMt
end Go.Proofs.Ytcbfmplddjmiaaa
