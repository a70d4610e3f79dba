/- Edits: the pure side. -/
import Derived.Test.YtbddjneinfkmpaaGreatDoorPgX
import Derived.Test.YtbddjneinfkmpaaGreatDoorEdL
namespace Go.Proofs.YtbddjneinfkmpaaGreatDoor
open Go Go.RowKit Go.Sort

/-- An edit: its numbers, and its instruction. -/
structure Ed where
  op : Int
  f : Int
  b : Int
  tob : Int
  other : Int
  pos : Int
  i : Ins
def Ed.val (e : Ed) : Value := .agg #[.int .i64 e.op, .int .i64 e.f, .int .i64 e.b, .int .i64 e.tob, .int .i64 e.other, .int .i64 e.pos, .int .i64 e.i.id, .int .i64 e.i.kind, .int .i64 e.i.dst, .int .i64 e.i.a, .int .i64 e.i.b, .int .i64 e.i.c, .int .i64 e.i.f, .int .i64 e.i.n, .int .i64 e.i.x0, .int .i64 e.i.x1, .int .i64 e.i.x2]
noncomputable def edgeB (p : Pg) (f b tob : Int) : Bool := decide (tob ∈ (blkR p f b).succ)
/-- Are these blocks there? -/
noncomputable def blocksE (p : Pg) (f : Int) : List Int → Int
  | [] => 0
  | b :: l => if blkB p f b then blocksE p f l else 2
noncomputable def varsE (x : Fd) (i : Ins) : Int := if ∀ v ∈ i.vars, v < x.vr then 0 else 4
noncomputable def callE (p : Pg) (i : Ins) : Int := if i.kind = 7 then firstE [unl (funB p i.f) 1, unl (decide ((funR p i.f).ar = i.n)) 7] else 0
def addFunE (p : Pg) (b tob : Int) : Int := firstE [unl (inB b 0 3) 9, unl (inB tob b 6) 9, unl (decide ((p.funs.length : Int) < 6)) 8]
/-- Is there room for a block, for an Id? -/
def roomP (p : Pg) (f : Int) : Prop := funB p f = true ∧ ∃ k : Nat, k < 12 ∧ ¬ liveAt (funR p f).blocks (k : Int)
def idP (p : Pg) : Prop := p.sane ∧ ∃ k : Nat, k < 96 ∧ (k : Int) ∉ p.ins.map Ins.id
noncomputable def roomB (p : Pg) (f : Int) : Bool := @decide (roomP p f) (Classical.propDecidable _)
noncomputable def idB (p : Pg) : Bool := @decide (idP p) (Classical.propDecidable _)
theorem roomB_iff (p : Pg) (f : Int) : roomB p f = true ↔ roomP p f := @decide_eq_true_iff _ (Classical.propDecidable _)
theorem idB_iff (p : Pg) : idB p = true ↔ idP p := @decide_eq_true_iff _ (Classical.propDecidable _)
noncomputable def insertE (p : Pg) (f b pos : Int) (i : Ins) : Int :=
  firstE [unl (blkB p f b) 2, unl (inB pos 0 ((blkR p f b).code.length : Int)) 3, unl (decide (i.id = 0) && decide i.form) 9, varsE (funR p f) i, callE p i, unl (decide (((blkR p f b).code.length : Int) < 16)) 8, unl (idB p) 8]
noncomputable def inFunE (p : Pg) (e : Ed) : Int :=
  if e.op = 1 then unl (roomB p e.f) 8
  else if e.op = 2 then firstE [blocksE p e.f [e.b], unl (!decide (e.b = 0)) 6]
  else if e.op = 3 then firstE [blocksE p e.f [e.b, e.tob], unl (!edgeB p e.f e.b e.tob) 5]
  else if e.op = 4 then firstE [blocksE p e.f [e.b, e.tob], unl (edgeB p e.f e.b e.tob) 5]
  else if e.op = 5 then firstE [blocksE p e.f [e.b, e.tob, e.other], unl (edgeB p e.f e.b e.tob) 5, unl (decide (e.other = e.tob) || !edgeB p e.f e.b e.other) 5]
  else if e.op = 6 then insertE p e.f e.b e.pos e.i
  else if e.op = 7 then firstE [blocksE p e.f [e.b], unl (atB p e.f e.b e.pos) 3]
  else 0
noncomputable def opE (p : Pg) (e : Ed) : Int := if e.op = 0 then addFunE p e.b e.tob else firstE [unl (funB p e.f) 1, inFunE p e]
noncomputable def chk (p : Pg) (e : Ed) : Int := firstE [unl p.saneB 11, unl (isOpB e.op) 9, opE p e]

theorem blocksE_zero (p : Pg) (f : Int) (l : List Int) : blocksE p f l = 0 ↔ ∀ b ∈ l, blkB p f b = true := by
  induction l with
  | nil => simp [blocksE]
  | cons b l ih =>
    unfold blocksE
    cases h : blkB p f b <;> simp [h, ih]
theorem newBlk_room {p : Pg} {f z : Int} (h : NewBlkIs p f z) : decide (0 ≤ z) = roomB p f := by
  rw [Bool.eq_iff_iff, decide_eq_true_eq, roomB_iff]
  unfold NewBlkIs at h
  unfold roomP
  by_cases hf : funB p f = true
  · rw [if_pos hf] at h
    rcases h with ⟨rfl, h⟩ | ⟨k, hk, rfl, h1, -⟩
    · constructor
      · intro h0; omega
      · rintro ⟨-, k, hk, hn⟩; exact absurd hn (h k hk)
    · exact ⟨fun _ => ⟨hf, k, hk, h1⟩, fun _ => by omega⟩
  · rw [if_neg hf] at h
    subst h
    constructor
    · intro h0; omega
    · rintro ⟨h1, -⟩; exact absurd h1 hf
theorem newId_room {p : Pg} {z : Int} (h : NewIdIs p z) : decide (0 ≤ z) = idB p := by
  rw [Bool.eq_iff_iff, decide_eq_true_eq, idB_iff]
  unfold NewIdIs at h
  unfold idP
  rcases h with ⟨hs, h⟩ | ⟨hs, rfl⟩
  · rcases h with ⟨rfl, h⟩ | ⟨k, hk, rfl, h1, -⟩
    · constructor
      · intro h0; omega
      · rintro ⟨-, k, hk, hn⟩; exact absurd (List.count_eq_zero.2 hn) (h k hk)
    · exact ⟨fun _ => ⟨hs, k, hk, List.count_eq_zero.1 h1⟩, fun _ => by omega⟩
  · constructor
    · intro h0; omega
    · rintro ⟨h1, -⟩; exact absurd h1 hs

/-- A program in memory, with the tables. -/
def Rd (W : World) (p : Pg) : Prop := PgIs W.heap.size W p ∧ KTab W ∧ ETab W
theorem Rd.on {W W' : World} {p : Pg} (h : Rd W p) (hb : Below W.heap.size W W') : Rd W' p := ⟨h.1.on hb, h.2.1.on hb, h.2.2.on hb⟩
/-- The box of an edit. -/
def Ed.cells (e : Ed) : List Value := [.int .i64 e.op, .int .i64 e.f, .int .i64 e.b, .int .i64 e.tob, .int .i64 e.other, .int .i64 e.pos, .int .i64 e.i.id, .int .i64 e.i.kind, .int .i64 e.i.dst, .int .i64 e.i.a, .int .i64 e.i.b, .int .i64 e.i.c, .int .i64 e.i.f, .int .i64 e.i.n, .int .i64 e.i.x0, .int .i64 e.i.x1, .int .i64 e.i.x2]
/-- Numbers that are errors, as a slice that was just built. -/
theorem new_errs (w : World) (l : List Int) (t : TypeId) (n : Nat) (hn : l.length = n) : ∀ k, k < n → (w.alloc (.cells (l.map (Value.int .i64)).toArray t)).cell? ⟨w.heap.size, 0 + k, none⟩ = some (.int .i64 (numAt l k)) := fun k hk => by
  rw [Nat.zero_add, cell_of_row _ _ k _ t (0, 0) (heap_alloc_new w _)]
  unfold numAt
  have : k < l.length := by omega
  simp [this]
theorem new_errs_d (w : World) (l : List Int) (t : TypeId) (n : Nat) (hn : l.length = n) : ∀ k, k < n → ((w.alloc (.cells (l.map (Value.int .i64)).toArray t)).drew).cell? ⟨w.heap.size, 0 + k, none⟩ = some (.int .i64 (numAt l k)) := new_errs w l t n hn
theorem is_new (w : World) (l : List Int) (t : TypeId) : Is (w.heap.size + 1) (w.alloc (.cells (l.map (Value.int .i64)).toArray t)) (some ⟨w.heap.size, 0, none⟩) l := fun j hj => by
  refine ⟨w.heap.size, 0, rfl, Nat.lt_succ_self _, ?_⟩
  rw [Nat.zero_add, cell_of_row _ _ j _ t (0, 0) (heap_alloc_new w _)]
  simp [hj]
theorem is_new_s (w : World) (l : List Int) (t : TypeId) : Is (w.alloc (.cells (l.map (Value.int .i64)).toArray t)).heap.size (w.alloc (.cells (l.map (Value.int .i64)).toArray t)) (some ⟨w.heap.size, 0, none⟩) l := by
  have h := is_new w l t
  rwa [← World.size_alloc w (.cells (l.map (Value.int .i64)).toArray t)] at h
theorem is_new_2 (w : World) (o : Obj) (l : List Int) (t : TypeId) : Is ((w.alloc o).alloc (.cells (l.map (Value.int .i64)).toArray t)).heap.size ((w.alloc o).alloc (.cells (l.map (Value.int .i64)).toArray t)) (some ⟨w.heap.size + 1, 0, none⟩) l := by
  have h := is_new_s (w.alloc o) l t
  rwa [World.size_alloc w o] at h
theorem is_new_d (w : World) (l : List Int) (t : TypeId) : Is ((w.alloc (.cells (l.map (Value.int .i64)).toArray t)).drew).heap.size ((w.alloc (.cells (l.map (Value.int .i64)).toArray t)).drew) (some ⟨w.heap.size, 0, none⟩) l := is_new_s w l t
end Go.Proofs.YtbddjneinfkmpaaGreatDoor
