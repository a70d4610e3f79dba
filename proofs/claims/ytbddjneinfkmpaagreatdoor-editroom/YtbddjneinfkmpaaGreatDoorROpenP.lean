/- A program that came in, opened. -/
import Derived.Deep.Slices
import Derived.Carry
import Derived.Test.YtbddjneinfkmpaaGreatDoorRBaseI
import Derived.Test.YtbddjneinfkmpaaGreatDoorROpenI
import Derived.Test.YtbddjneinfkmpaaGreatDoorPgU1
namespace Go.Proofs.YtbddjneinfkmpaaGreatDoor
open Go.ChangeShapes Go.WideShapes Go.ChangeAt Go.RowKit Go.Joins

theorem cellsInstr : Tryz.prog.cellsOf 40 = 11 := by kernel_rfl
theorem cellsArr3 : Tryz.prog.cellsOf 38 = 3 := by kernel_rfl
theorem cellsBlock : Tryz.prog.cellsOf 35 = 3 := by kernel_rfl
theorem cellsFun : Tryz.prog.cellsOf 29 = 3 := by kernel_rfl
theorem cellsProg : Tryz.prog.cellsOf 24 = 1 := by kernel_rfl
theorem cellsBlocks : Tryz.prog.cellsOf 27 = 1 := by kernel_rfl
theorem cellsFuns : Tryz.prog.cellsOf 22 = 1 := by kernel_rfl
theorem cellsInstrs : Tryz.prog.cellsOf 32 = 1 := by kernel_rfl
theorem cellsInts : Tryz.prog.cellsOf 33 = 1 := by kernel_rfl

theorem list_of {α : Type} (n : Nat) (P : Nat → α → Prop) (d : α) (h : ∀ i, i < n → ∃ x, P i x) : ∃ l : List α, l.length = n ∧ ∀ i, i < n → P i (l[i]?.getD d) := by
  have : Inhabited α := ⟨d⟩
  obtain ⟨f, hf⟩ := Deep.choose_lt h
  refine ⟨(List.range n).map f, by simp, fun i hi => ?_⟩
  have e : ((List.range n).map f)[i]?.getD d = f i := by simp [hi]
  rw [e]
  exact hf i hi

section
variable {H : Type} {enc : TypeId × Value → H} {W : World}

/-- A slice that came in: each element's cells, and their reading. -/
theorem open_any {t e : TypeId} {sz fuel : Nat} {cs : List Value} {x : DataW H × List MemPlace} (ht : Tryz.prog.underlying t = some (.slice e)) (hc : Tryz.prog.cellsOf e = sz) (hsz : 0 < sz)
    (h : DataW.trod enc Tryz.prog W 0 (fun _ => true) true fuel t cs = some x) : ∃ (a : Option Addr) (len cap : Nat), cs = [.slice a len cap] ∧ ∀ i, i < len → ∃ (b o : Nat) (cs' : List Value) (n : Nat) (y : DataW H × List MemPlace),
      a = some ⟨b, o, none⟩ ∧ b < W.heap.size ∧ cs'.length = sz ∧ (∀ j, j < sz → W.cell? ⟨b, o + i * sz + j, none⟩ = cs'[j]?) ∧ DataW.trod enc Tryz.prog W 0 (fun _ => true) true n e cs' = some y := by
  rcases Deep.open_slice ht h with ⟨rfl, _⟩ | ⟨a, len, cap, m, n, D, Pl, rfl, _, hl, _, hm, _, hx⟩
  · exact ⟨none, 0, 0, rfl, fun i hi => absurd hi (Nat.not_lt_zero _)⟩
  · refine ⟨some a, len, cap, rfl, fun i hi => ?_⟩
    simp only [if_true] at hm
    obtain ⟨cs', h1, h2⟩ := hx i (by omega)
    rw [hc] at h1
    obtain ⟨_, hlen, hcell⟩ := World.cells?_some h1
    obtain ⟨b, o, spot⟩ := a
    have hspot : spot = none := by
      obtain ⟨cs0, g1, _⟩ := hx 0 (by omega)
      rw [hc] at g1
      obtain ⟨_, glen, gcell⟩ := World.cells?_some g1
      have k0 := gcell 0 hsz
      rw [List.getElem?_eq_getElem (by omega)] at k0
      simpa [Addr.add] using World.cell?_spot k0
    subst hspot
    have h0 := hcell 0 hsz
    rw [List.getElem?_eq_getElem (by omega)] at h0
    rw [add_plain] at hcell h0
    rw [add_plain] at h0
    refine ⟨b, o, cs', n, _, rfl, block_lt_of_cell h0, hlen, fun j hj => ?_, h2⟩
    have := hcell j hj
    rwa [add_plain] at this

set_option maxRecDepth 100000 in
theorem ins_cells {fuel : Nat} {cs : List Value} {x : DataW H × List MemPlace} (hf : DataW.trod enc Tryz.prog W 0 (fun _ => true) true fuel 40 cs = some x) : ∃ i : Ins, cs = i.cells := by
  obtain ⟨xs, n, _, _, hl, hx, hi⟩ := DataW.trod_struct Tryz.underlying40 hf
  rw [cellsInstr] at hl
  match cs, hl, xs, hx with
  | [v0, v1, v2, v3, v4, v5, v6, v7, v8, v9, v10], _, [y0, y1, y2, y3, y4, y5, y6, y7, y8], _ =>
    have g0 : DataW.trod enc Tryz.prog W 0 (fun _ => true) true n 3 ((([v0, v1, v2, v3, v4, v5, v6, v7, v8, v9, v10] : List Value).drop 0).take (Tryz.prog.cellsOf 3)) = some y0 := hi 0 _ rfl
    rw [cells3] at g0
    have g1 : DataW.trod enc Tryz.prog W 0 (fun _ => true) true n 3 ((([v0, v1, v2, v3, v4, v5, v6, v7, v8, v9, v10] : List Value).drop 1).take (Tryz.prog.cellsOf 3)) = some y1 := hi 1 _ rfl
    rw [cells3] at g1
    have g2 : DataW.trod enc Tryz.prog W 0 (fun _ => true) true n 3 ((([v0, v1, v2, v3, v4, v5, v6, v7, v8, v9, v10] : List Value).drop 2).take (Tryz.prog.cellsOf 3)) = some y2 := hi 2 _ rfl
    rw [cells3] at g2
    have g3 : DataW.trod enc Tryz.prog W 0 (fun _ => true) true n 3 ((([v0, v1, v2, v3, v4, v5, v6, v7, v8, v9, v10] : List Value).drop 3).take (Tryz.prog.cellsOf 3)) = some y3 := hi 3 _ rfl
    rw [cells3] at g3
    have g4 : DataW.trod enc Tryz.prog W 0 (fun _ => true) true n 3 ((([v0, v1, v2, v3, v4, v5, v6, v7, v8, v9, v10] : List Value).drop 4).take (Tryz.prog.cellsOf 3)) = some y4 := hi 4 _ rfl
    rw [cells3] at g4
    have g5 : DataW.trod enc Tryz.prog W 0 (fun _ => true) true n 3 ((([v0, v1, v2, v3, v4, v5, v6, v7, v8, v9, v10] : List Value).drop 5).take (Tryz.prog.cellsOf 3)) = some y5 := hi 5 _ rfl
    rw [cells3] at g5
    have g6 : DataW.trod enc Tryz.prog W 0 (fun _ => true) true n 3 ((([v0, v1, v2, v3, v4, v5, v6, v7, v8, v9, v10] : List Value).drop 6).take (Tryz.prog.cellsOf 3)) = some y6 := hi 6 _ rfl
    rw [cells3] at g6
    have g7 : DataW.trod enc Tryz.prog W 0 (fun _ => true) true n 3 ((([v0, v1, v2, v3, v4, v5, v6, v7, v8, v9, v10] : List Value).drop 7).take (Tryz.prog.cellsOf 3)) = some y7 := hi 7 _ rfl
    rw [cells3] at g7
    have g8 : DataW.trod enc Tryz.prog W 0 (fun _ => true) true n 38 ((([v0, v1, v2, v3, v4, v5, v6, v7, v8, v9, v10] : List Value).drop 8).take (Tryz.prog.cellsOf 38)) = some y8 := hi 8 _ rfl
    rw [cellsArr3] at g8
    simp at g0 g1 g2 g3 g4 g5 g6 g7 g8
    obtain ⟨n0, e0, _⟩ := DataW.trod_int Tryz.underlying3 g0
    obtain ⟨n1, e1, _⟩ := DataW.trod_int Tryz.underlying3 g1
    obtain ⟨n2, e2, _⟩ := DataW.trod_int Tryz.underlying3 g2
    obtain ⟨n3, e3, _⟩ := DataW.trod_int Tryz.underlying3 g3
    obtain ⟨n4, e4, _⟩ := DataW.trod_int Tryz.underlying3 g4
    obtain ⟨n5, e5, _⟩ := DataW.trod_int Tryz.underlying3 g5
    obtain ⟨n6, e6, _⟩ := DataW.trod_int Tryz.underlying3 g6
    obtain ⟨n7, e7, _⟩ := DataW.trod_int Tryz.underlying3 g7
    obtain ⟨n8, n9, n10, e8⟩ := open_arr3 Tryz.underlying38 Tryz.underlying3 cells3 cellsArr3 g8
    simp at e0 e1 e2 e3 e4 e5 e6 e7 e8
    obtain ⟨e8, e9, e10⟩ := e8
    exact ⟨⟨n0, n1, n2, n3, n4, n5, n6, n7, n8, n9, n10⟩, by simp only [Ins.cells, e0, e1, e2, e3, e4, e5, e6, e7, e8, e9, e10]⟩

set_option maxRecDepth 100000 in
theorem open_code {fuel : Nat} {cs : List Value} {x : DataW H × List MemPlace} (h : DataW.trod enc Tryz.prog W 0 (fun _ => true) true fuel 32 cs = some x) : ∃ (a : Option Addr) (l : List Ins) (cap : Nat), cs = [.slice a l.length cap] ∧ CodeIs W.heap.size W a l := by
  obtain ⟨a, len, cap, rfl, hx⟩ := open_any Tryz.underlying32 cellsInstr (by decide) h
  obtain ⟨l, hl, hP⟩ := list_of len (fun i (x : Ins) => ∃ b o, a = some ⟨b, o, none⟩ ∧ b < W.heap.size ∧ ∀ t, t < 11 → W.cell? ⟨b, o + i * 11 + t, none⟩ = x.cells[t]?) Ins.none (fun i hi => by
    obtain ⟨b, o, cs', n, y, h1, h2, h3, h4, h5⟩ := hx i hi
    obtain ⟨z, rfl⟩ := ins_cells h5
    exact ⟨z, b, o, h1, h2, h4⟩)
  exact ⟨a, l, cap, by rw [hl], fun j hj => hP j (by omega)⟩

theorem open_nums {fuel : Nat} {cs : List Value} {x : DataW H × List MemPlace} (h : DataW.trod enc Tryz.prog W 0 (fun _ => true) true fuel 33 cs = some x) : ∃ (a : Option Addr) (l : List Int) (cap : Nat), cs = [.slice a l.length cap] ∧ Is W.heap.size W a l := by
  obtain ⟨a, len, cap, rfl, hx⟩ := open_any Tryz.underlying33 cells3 (by decide) h
  obtain ⟨l, hl, hP⟩ := list_of len (fun i (x : Int) => ∃ b o, a = some ⟨b, o, none⟩ ∧ b < W.heap.size ∧ W.cell? ⟨b, o + i, none⟩ = some (.int .i64 x)) 0 (fun i hi => by
    obtain ⟨b, o, cs', n, y, h1, h2, h3, h4, h5⟩ := hx i hi
    obtain ⟨z, e, _⟩ := DataW.trod_int Tryz.underlying3 h5
    subst e
    have := h4 0 (by decide)
    simp at this
    exact ⟨z, b, o, h1, h2, this⟩)
  exact ⟨a, l, cap, by rw [hl], fun j hj => hP j (by omega)⟩

set_option maxRecDepth 100000 in
theorem block_cells {fuel : Nat} {cs : List Value} {x : DataW H × List MemPlace} (hf : DataW.trod enc Tryz.prog W 0 (fun _ => true) true fuel 35 cs = some x) : ∃ b : Blk, cs = b.cells ∧ BlkIs W.heap.size W b := by
  obtain ⟨xs, n, _, _, hl, hx, hi⟩ := DataW.trod_struct Tryz.underlying35 hf
  rw [cellsBlock] at hl
  match cs, hl, xs, hx with
  | [v0, v1, v2], _, [y0, y1, y2], _ =>
    have g0 : DataW.trod enc Tryz.prog W 0 (fun _ => true) true n 4 ((([v0, v1, v2] : List Value).drop 0).take (Tryz.prog.cellsOf 4)) = some y0 := hi 0 _ rfl
    rw [cells4] at g0
    have g1 : DataW.trod enc Tryz.prog W 0 (fun _ => true) true n 32 ((([v0, v1, v2] : List Value).drop 1).take (Tryz.prog.cellsOf 32)) = some y1 := hi 1 _ rfl
    rw [cellsInstrs] at g1
    have g2 : DataW.trod enc Tryz.prog W 0 (fun _ => true) true n 33 ((([v0, v1, v2] : List Value).drop 2).take (Tryz.prog.cellsOf 33)) = some y2 := hi 2 _ rfl
    rw [cellsInts] at g2
    simp at g0 g1 g2
    obtain ⟨lv, e0, _⟩ := DataW.trod_bool Tryz.underlying4 g0
    obtain ⟨ca, code, cc, e1, hc⟩ := open_code g1
    obtain ⟨sa, succ, sc, e2, hs⟩ := open_nums g2
    simp at e0 e1 e2
    exact ⟨⟨lv, ca, cc, code, sa, sc, succ⟩, by simp only [Blk.cells, e0, e1, e2], hc, hs⟩

set_option maxRecDepth 100000 in
theorem open_blocks {fuel : Nat} {cs : List Value} {x : DataW H × List MemPlace} (h : DataW.trod enc Tryz.prog W 0 (fun _ => true) true fuel 27 cs = some x) : ∃ (a : Option Addr) (l : List Blk) (cap : Nat), cs = [.slice a l.length cap] ∧ BlksIs W.heap.size W a l := by
  obtain ⟨a, len, cap, rfl, hx⟩ := open_any Tryz.underlying27 cellsBlock (by decide) h
  obtain ⟨l, hl, hP⟩ := list_of len (fun i (x : Blk) => ∃ b o, a = some ⟨b, o, none⟩ ∧ b < W.heap.size ∧ W.cell? ⟨b, o + i * 3, none⟩ = some (.bool x.live) ∧ W.cell? ⟨b, o + i * 3 + 1, none⟩ = some (.slice x.ca x.code.length x.cc) ∧ W.cell? ⟨b, o + i * 3 + 2, none⟩ = some (.slice x.sa x.succ.length x.sc) ∧ BlkIs W.heap.size W x) Blk.none (fun i hi => by
    obtain ⟨b, o, cs', n, y, h1, h2, h3, h4, h5⟩ := hx i hi
    obtain ⟨z, rfl, hz⟩ := block_cells h5
    exact ⟨z, b, o, h1, h2, h4 0 (by decide), h4 1 (by decide), h4 2 (by decide), hz⟩)
  exact ⟨a, l, cap, by rw [hl], fun j hj => hP j (by omega)⟩

set_option maxRecDepth 100000 in
theorem fun_cells {fuel : Nat} {cs : List Value} {x : DataW H × List MemPlace} (hf : DataW.trod enc Tryz.prog W 0 (fun _ => true) true fuel 29 cs = some x) : ∃ f : Fd, cs = f.cells ∧ FdIs W.heap.size W f := by
  obtain ⟨xs, n, _, _, hl, hx, hi⟩ := DataW.trod_struct Tryz.underlying29 hf
  rw [cellsFun] at hl
  match cs, hl, xs, hx with
  | [v0, v1, v2], _, [y0, y1, y2], _ =>
    have g0 : DataW.trod enc Tryz.prog W 0 (fun _ => true) true n 3 ((([v0, v1, v2] : List Value).drop 0).take (Tryz.prog.cellsOf 3)) = some y0 := hi 0 _ rfl
    rw [cells3] at g0
    have g1 : DataW.trod enc Tryz.prog W 0 (fun _ => true) true n 3 ((([v0, v1, v2] : List Value).drop 1).take (Tryz.prog.cellsOf 3)) = some y1 := hi 1 _ rfl
    rw [cells3] at g1
    have g2 : DataW.trod enc Tryz.prog W 0 (fun _ => true) true n 27 ((([v0, v1, v2] : List Value).drop 2).take (Tryz.prog.cellsOf 27)) = some y2 := hi 2 _ rfl
    rw [cellsBlocks] at g2
    simp at g0 g1 g2
    obtain ⟨ar, e0, _⟩ := DataW.trod_int Tryz.underlying3 g0
    obtain ⟨vr, e1, _⟩ := DataW.trod_int Tryz.underlying3 g1
    obtain ⟨ba, bl, bc, e2, hb⟩ := open_blocks g2
    simp at e0 e1 e2
    exact ⟨⟨ar, vr, ba, bc, bl⟩, by simp only [Fd.cells, e0, e1, e2], hb⟩

set_option maxRecDepth 100000 in
/-- A program that came in, opened. -/
theorem open_prog {base : Nat} {v : Value} {d : DataW H} {p : List MemPlace} (hv : Value.okWide Tryz.prog W .any base 24 v) (h : DataW.Trod enc Tryz.prog W 0 (fun _ => true) true 24 v d p) : ∃ P : Pg, v = P.val ∧ PgIs W.heap.size W P := by
  obtain ⟨cs, rfl, hsz⟩ := okWide_struct Tryz.underlying24 hv
  obtain ⟨fuel, hf⟩ := h
  obtain ⟨xs, n, _, _, _, hx, hi⟩ := DataW.trod_struct Tryz.underlying24 hf
  rw [cellsProg] at hsz
  obtain ⟨l⟩ := cs
  have hl : l.length = 1 := by simpa using hsz
  match l, hl, xs, hx with
  | [v0], _, [y0], _ =>
    have g0 : DataW.trod enc Tryz.prog W 0 (fun _ => true) true n 22 ((([v0] : List Value).drop 0).take (Tryz.prog.cellsOf 22)) = some y0 := hi 0 _ rfl
    rw [cellsFuns] at g0
    simp at g0
    obtain ⟨a, len, cap, e0, hx⟩ := open_any Tryz.underlying22 cellsFun (by decide) g0
    obtain ⟨fs, hl, hP⟩ := list_of len (fun i (x : Fd) => ∃ b o, a = some ⟨b, o, none⟩ ∧ b < W.heap.size ∧ W.cell? ⟨b, o + i * 3, none⟩ = some (.int .i64 x.ar) ∧ W.cell? ⟨b, o + i * 3 + 1, none⟩ = some (.int .i64 x.vr) ∧ W.cell? ⟨b, o + i * 3 + 2, none⟩ = some (.slice x.ba x.blocks.length x.bc) ∧ FdIs W.heap.size W x) Fd.none (fun i hi => by
      obtain ⟨b, o, cs', n, y, h1, h2, h3, h4, h5⟩ := hx i hi
      obtain ⟨z, rfl, hz⟩ := fun_cells h5
      exact ⟨z, b, o, h1, h2, h4 0 (by decide), h4 1 (by decide), h4 2 (by decide), hz⟩)
    simp at e0
    refine ⟨⟨a, cap, fs⟩, by rw [e0]; unfold Pg.val; rw [hl], fun j hj => hP j (by rw [← hl]; exact hj)⟩
end
end Go.Proofs.YtbddjneinfkmpaaGreatDoor
