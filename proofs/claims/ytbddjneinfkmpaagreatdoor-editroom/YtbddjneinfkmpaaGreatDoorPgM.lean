/- Programs: the pure side, and how one lies in memory. -/
import Derived.Test.YtbddjneinfkmpaaGreatDoorInts
import Derived.Test.YtbddjneinfkmpaaGreatDoorInsA
namespace Go.Proofs.YtbddjneinfkmpaaGreatDoor
open Go Go.RowKit Go.Sort

/-- A block: its numbers, and where its lists lie. -/
structure Blk where
  live : Bool
  ca : Option Addr
  cc : Nat
  code : List Ins
  sa : Option Addr
  sc : Nat
  succ : List Int
structure Fd where
  ar : Int
  vr : Int
  ba : Option Addr
  bc : Nat
  blocks : List Blk
structure Pg where
  pa : Option Addr
  pc : Nat
  funs : List Fd
def Ins.none : Ins := ⟨0, 0, 0, 0, 0, 0, 0, 0, 0, 0, 0⟩
def Blk.none : Blk := ⟨false, .none, 0, [], .none, 0, []⟩
def Fd.none : Fd := ⟨0, 0, .none, 0, []⟩
def Blk.val (b : Blk) : Value := .agg #[.bool b.live, .slice b.ca b.code.length b.cc, .slice b.sa b.succ.length b.sc]
def Fd.val (f : Fd) : Value := .agg #[.int .i64 f.ar, .int .i64 f.vr, .slice f.ba f.blocks.length f.bc]
def Pg.val (p : Pg) : Value := .agg #[.slice p.pa p.funs.length p.pc]
def insAt (l : List Ins) (k : Nat) : Ins := l[k]?.getD Ins.none
def blkAt (l : List Blk) (k : Nat) : Blk := l[k]?.getD Blk.none
def fdAt (l : List Fd) (k : Nat) : Fd := l[k]?.getD Fd.none
def numAt (l : List Int) (k : Nat) : Int := l[k]?.getD 0
/-- Is there such a block, that is live? -/
def liveAt (l : List Blk) (b : Int) : Prop := 0 ≤ b ∧ b < l.length ∧ (blkAt l b.toNat).live = true
def succOk (l : List Blk) (s : List Int) : Prop := ∀ k, k < s.length → (0 < k → numAt s (k - 1) < numAt s k) ∧ liveAt l (numAt s k)
def insOk (p : Pg) (f : Fd) (i : Ins) : Prop := i.form ∧ (∀ v ∈ i.vars, v < f.vr) ∧ (i.kind = 7 → i.f < p.funs.length ∧ (fdAt p.funs i.f.toNat).ar = i.n)
def codeOk (p : Pg) (f : Fd) (l : List Ins) : Prop := ∀ k, k < l.length → insOk p f (insAt l k)
def blkOk (p : Pg) (f : Fd) (b : Blk) : Prop := (b.live = false → b.code.length = 0 ∧ b.succ.length = 0) ∧ b.code.length ≤ 16 ∧ succOk f.blocks b.succ ∧ codeOk p f b.code
def blksOk (p : Pg) (f : Fd) : Prop := ∀ k, k < f.blocks.length → blkOk p f (blkAt f.blocks k)
def headOk (f : Fd) : Prop := 0 ≤ f.ar ∧ f.ar ≤ 3 ∧ f.ar ≤ f.vr ∧ f.vr ≤ 6 ∧ 1 ≤ f.blocks.length ∧ f.blocks.length ≤ 12 ∧ (blkAt f.blocks 0).live = true ∧ (blkAt f.blocks (f.blocks.length - 1)).live = true
def fdOk (p : Pg) (f : Fd) : Prop := headOk f ∧ blksOk p f
def Blk.ins (b : Blk) : List Ins := b.code
def Fd.ins (f : Fd) : List Ins := f.blocks.flatMap Blk.ins
def Pg.ins (p : Pg) : List Ins := p.funs.flatMap Fd.ins
def fdsOk (p : Pg) : Prop := ∀ k, k < p.funs.length → fdOk p (fdAt p.funs k)
def Pg.sane (p : Pg) : Prop := p.funs.length ≤ 6 ∧ fdsOk p ∧ (p.ins.map Ins.id).Nodup
/-- Has a program few parts? -/
def fewB (b : Blk) : Prop := b.code.length ≤ 30 ∧ b.succ.length ≤ 30
def fewF (f : Fd) : Prop := f.blocks.length ≤ 20 ∧ ∀ k, k < f.blocks.length → fewB (blkAt f.blocks k)
def Pg.few (p : Pg) : Prop := p.funs.length ≤ 10 ∧ ∀ k, k < p.funs.length → fewF (fdAt p.funs k)

/-- Instructions, read in a world, in blocks below B. -/
def CodeIs (B : Nat) (W : World) (a : Option Addr) (l : List Ins) : Prop :=
  ∀ j, j < l.length → ∃ b o, a = some ⟨b, o, .none⟩ ∧ b < B ∧ ∀ t, t < 11 → W.cell? ⟨b, o + j * 11 + t, .none⟩ = (insAt l j).cells[t]?
def BlkIs (B : Nat) (W : World) (b : Blk) : Prop := CodeIs B W b.ca b.code ∧ Is B W b.sa b.succ
def BlksIs (B : Nat) (W : World) (a : Option Addr) (l : List Blk) : Prop :=
  ∀ j, j < l.length → ∃ b o, a = some ⟨b, o, .none⟩ ∧ b < B ∧ W.cell? ⟨b, o + j * 3, .none⟩ = some (.bool (blkAt l j).live) ∧ W.cell? ⟨b, o + j * 3 + 1, .none⟩ = some (.slice (blkAt l j).ca (blkAt l j).code.length (blkAt l j).cc) ∧
    W.cell? ⟨b, o + j * 3 + 2, .none⟩ = some (.slice (blkAt l j).sa (blkAt l j).succ.length (blkAt l j).sc) ∧ BlkIs B W (blkAt l j)
def FdIs (B : Nat) (W : World) (f : Fd) : Prop := BlksIs B W f.ba f.blocks
def PgIs (B : Nat) (W : World) (p : Pg) : Prop :=
  ∀ j, j < p.funs.length → ∃ b o, p.pa = some ⟨b, o, .none⟩ ∧ b < B ∧ W.cell? ⟨b, o + j * 3, .none⟩ = some (.int .i64 (fdAt p.funs j).ar) ∧ W.cell? ⟨b, o + j * 3 + 1, .none⟩ = some (.int .i64 (fdAt p.funs j).vr) ∧
    W.cell? ⟨b, o + j * 3 + 2, .none⟩ = some (.slice (fdAt p.funs j).ba (fdAt p.funs j).blocks.length (fdAt p.funs j).bc) ∧ FdIs B W (fdAt p.funs j)

theorem CodeIs.below {B : Nat} {W W' : World} {a : Option Addr} {l : List Ins} (h : CodeIs B W a l) (hb : Below B W W') : CodeIs B W' a l :=
  fun j hj => let ⟨b, o, e, hlt, hc⟩ := h j hj; ⟨b, o, e, hlt, fun t ht => (hb.cell (p := ⟨b, o + j * 11 + t, .none⟩) hlt).trans (hc t ht)⟩
theorem CodeIs.mono {B B' : Nat} {W : World} {a : Option Addr} {l : List Ins} (h : CodeIs B W a l) (hb : B ≤ B') : CodeIs B' W a l :=
  fun j hj => let ⟨b, o, e, hlt, hc⟩ := h j hj; ⟨b, o, e, Nat.lt_of_lt_of_le hlt hb, hc⟩
theorem BlkIs.below {B : Nat} {W W' : World} {b : Blk} (h : BlkIs B W b) (hb : Below B W W') : BlkIs B W' b := ⟨h.1.below hb, h.2.below hb⟩
theorem BlkIs.mono {B B' : Nat} {W : World} {b : Blk} (h : BlkIs B W b) (hb : B ≤ B') : BlkIs B' W b := ⟨h.1.mono hb, h.2.mono hb⟩
theorem BlksIs.below {B : Nat} {W W' : World} {a : Option Addr} {l : List Blk} (h : BlksIs B W a l) (hb : Below B W W') : BlksIs B W' a l :=
  fun j hj => let ⟨b, o, e, hlt, h0, h1, h2, hk⟩ := h j hj
    ⟨b, o, e, hlt, (hb.cell (p := ⟨b, o + j * 3, .none⟩) hlt).trans h0, (hb.cell (p := ⟨b, o + j * 3 + 1, .none⟩) hlt).trans h1, (hb.cell (p := ⟨b, o + j * 3 + 2, .none⟩) hlt).trans h2, hk.below hb⟩
theorem BlksIs.mono {B B' : Nat} {W : World} {a : Option Addr} {l : List Blk} (h : BlksIs B W a l) (hb : B ≤ B') : BlksIs B' W a l :=
  fun j hj => let ⟨b, o, e, hlt, h0, h1, h2, hk⟩ := h j hj; ⟨b, o, e, Nat.lt_of_lt_of_le hlt hb, h0, h1, h2, hk.mono hb⟩
theorem FdIs.below {B : Nat} {W W' : World} {f : Fd} (h : FdIs B W f) (hb : Below B W W') : FdIs B W' f := BlksIs.below h hb
theorem FdIs.mono {B B' : Nat} {W : World} {f : Fd} (h : FdIs B W f) (hb : B ≤ B') : FdIs B' W f := BlksIs.mono h hb
theorem PgIs.below {B : Nat} {W W' : World} {p : Pg} (h : PgIs B W p) (hb : Below B W W') : PgIs B W' p :=
  fun j hj => let ⟨b, o, e, hlt, h0, h1, h2, hk⟩ := h j hj
    ⟨b, o, e, hlt, (hb.cell (p := ⟨b, o + j * 3, .none⟩) hlt).trans h0, (hb.cell (p := ⟨b, o + j * 3 + 1, .none⟩) hlt).trans h1, (hb.cell (p := ⟨b, o + j * 3 + 2, .none⟩) hlt).trans h2, hk.below hb⟩
theorem PgIs.mono {B B' : Nat} {W : World} {p : Pg} (h : PgIs B W p) (hb : B ≤ B') : PgIs B' W p :=
  fun j hj => let ⟨b, o, e, hlt, h0, h1, h2, hk⟩ := h j hj; ⟨b, o, e, Nat.lt_of_lt_of_le hlt hb, h0, h1, h2, hk.mono hb⟩
/-- As a world goes on. -/
theorem PgIs.on {w W : World} {p : Pg} (h : PgIs w.heap.size w p) (hb : Below w.heap.size w W) : PgIs W.heap.size W p := (h.below hb).mono hb.size
theorem FdIs.on {w W : World} {f : Fd} (h : FdIs w.heap.size w f) (hb : Below w.heap.size w W) : FdIs W.heap.size W f := (h.below hb).mono hb.size
theorem BlkIs.on {w W : World} {b : Blk} (h : BlkIs w.heap.size w b) (hb : Below w.heap.size w W) : BlkIs W.heap.size W b := (h.below hb).mono hb.size
theorem BlksIs.on {w W : World} {a : Option Addr} {l : List Blk} (h : BlksIs w.heap.size w a l) (hb : Below w.heap.size w W) : BlksIs W.heap.size W a l := (h.below hb).mono hb.size
theorem CodeIs.on {w W : World} {a : Option Addr} {l : List Ins} (h : CodeIs w.heap.size w a l) (hb : Below w.heap.size w W) : CodeIs W.heap.size W a l := (h.below hb).mono hb.size
theorem Is.on {w W : World} {a : Option Addr} {l : List Int} (h : Is w.heap.size w a l) (hb : Below w.heap.size w W) : Is W.heap.size W a l := (h.below hb).mono hb.size

/-- An instruction of a list: its eleven cells. -/
theorem CodeIs.at {B : Nat} {W : World} {a : Option Addr} {l : List Ins} (h : CodeIs B W a l) (j : Nat) (hj : j < l.length) : ∃ b o, a = some ⟨b, o, .none⟩ ∧ b < B ∧
    W.cell? ⟨b, o + j * 11, .none⟩ = some (.int .i64 (insAt l j).id) ∧ W.cell? ⟨b, o + j * 11 + 1, .none⟩ = some (.int .i64 (insAt l j).kind) ∧ W.cell? ⟨b, o + j * 11 + 2, .none⟩ = some (.int .i64 (insAt l j).dst) ∧
    W.cell? ⟨b, o + j * 11 + 3, .none⟩ = some (.int .i64 (insAt l j).a) ∧ W.cell? ⟨b, o + j * 11 + 4, .none⟩ = some (.int .i64 (insAt l j).b) ∧ W.cell? ⟨b, o + j * 11 + 5, .none⟩ = some (.int .i64 (insAt l j).c) ∧
    W.cell? ⟨b, o + j * 11 + 6, .none⟩ = some (.int .i64 (insAt l j).f) ∧ W.cell? ⟨b, o + j * 11 + 7, .none⟩ = some (.int .i64 (insAt l j).n) ∧ W.cell? ⟨b, o + j * 11 + 8, .none⟩ = some (.int .i64 (insAt l j).x0) ∧
    W.cell? ⟨b, o + j * 11 + 9, .none⟩ = some (.int .i64 (insAt l j).x1) ∧ W.cell? ⟨b, o + j * 11 + 10, .none⟩ = some (.int .i64 (insAt l j).x2) := by
  obtain ⟨b, o, e, hlt, hc⟩ := h j hj
  exact ⟨b, o, e, hlt, hc 0 (by omega), hc 1 (by omega), hc 2 (by omega), hc 3 (by omega), hc 4 (by omega), hc 5 (by omega), hc 6 (by omega), hc 7 (by omega), hc 8 (by omega), hc 9 (by omega), hc 10 (by omega)⟩
theorem Pg.few.f {p : Pg} (h : p.few) (k : Nat) : fewF (fdAt p.funs k) := by
  by_cases hk : k < p.funs.length
  · exact h.2 k hk
  · unfold fdAt
    rw [List.getElem?_eq_none (by omega)]
    exact ⟨by simp [Fd.none], fun k hk => by simp [Fd.none] at hk⟩
theorem fewF.b {f : Fd} (h : fewF f) (k : Nat) : fewB (blkAt f.blocks k) := by
  by_cases hk : k < f.blocks.length
  · exact h.2 k hk
  · unfold blkAt
    rw [List.getElem?_eq_none (by omega)]
    exact ⟨by simp [Blk.none], by simp [Blk.none]⟩
end Go.Proofs.YtbddjneinfkmpaaGreatDoor
