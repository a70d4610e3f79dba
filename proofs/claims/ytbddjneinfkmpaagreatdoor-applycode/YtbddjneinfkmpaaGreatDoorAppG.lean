/- AppG: several texts in one: AppM AppS AppT AppU AppV AppW AppX AppQ AppO. -/
import Derived.Test.YtbddjneinfkmpaaGreatDoorEdM

namespace Go.Proofs.YtbddjneinfkmpaaGreatDoor
open Go Go.RowKit Go.Sort

/-- A block, a function, a program, wherever its lists lie. -/
def Blk.d (b : Blk) : Blk := ⟨b.live, .none, 0, b.code, .none, 0, b.succ⟩
def Fd.d (f : Fd) : Fd := ⟨f.ar, f.vr, .none, 0, f.blocks.map Blk.d⟩
def Pg.d (p : Pg) : Pg := ⟨.none, 0, p.funs.map Fd.d⟩
theorem Blk.d_d (b : Blk) : b.d.d = b.d := rfl
theorem Fd.d_d (f : Fd) : f.d.d = f.d := by simp [Fd.d, Blk.d]
theorem Pg.d_d (p : Pg) : p.d.d = p.d := by simp [Pg.d, Fd.d, Blk.d]
theorem blkAt_d (l : List Blk) (k : Nat) : blkAt (l.map Blk.d) k = (blkAt l k).d := by
  unfold blkAt
  rw [List.getElem?_map]
  cases l[k]? <;> rfl
theorem fdAt_d (l : List Fd) (k : Nat) : fdAt (l.map Fd.d) k = (fdAt l k).d := by
  unfold fdAt
  rw [List.getElem?_map]
  cases l[k]? <;> rfl
theorem liveAt_d (l : List Blk) (b : Int) : liveAt (l.map Blk.d) b ↔ liveAt l b := by
  unfold liveAt
  rw [blkAt_d, List.length_map]
  rfl
theorem ins_dB (b : Blk) : b.d.ins = b.ins := rfl
theorem ins_dF (f : Fd) : f.d.ins = f.ins := by
  show (f.blocks.map Blk.d).flatMap Blk.ins = f.blocks.flatMap Blk.ins
  rw [List.flatMap_map]
  rfl
theorem ins_d (p : Pg) : p.d.ins = p.ins := by
  show (p.funs.map Fd.d).flatMap Fd.ins = p.funs.flatMap Fd.ins
  rw [List.flatMap_map]
  congr 1
  funext f
  exact ins_dF f
theorem insOk_d (p : Pg) (f : Fd) (i : Ins) : insOk p.d f.d i ↔ insOk p f i := by
  unfold insOk
  simp only [Pg.d, fdAt_d, List.length_map]
  rfl
theorem blkOk_d (p : Pg) (f : Fd) (b : Blk) : blkOk p.d f.d b.d ↔ blkOk p f b := by
  unfold blkOk succOk codeOk
  simp only [insOk_d]
  simp only [Blk.d, Fd.d, liveAt_d]
theorem fdOk_d (p : Pg) (f : Fd) : fdOk p.d f.d ↔ fdOk p f := by
  unfold fdOk headOk blksOk
  have h : ∀ k, blkAt f.d.blocks k = (blkAt f.blocks k).d := fun k => blkAt_d _ _
  simp only [h, blkOk_d]
  simp only [Fd.d, List.length_map, Blk.d]
theorem sane_d (p : Pg) : p.d.sane ↔ p.sane := by
  unfold Pg.sane fdsOk
  rw [ins_d]
  have h : ∀ k, fdAt p.d.funs k = (fdAt p.funs k).d := fun k => fdAt_d _ _
  simp only [h, fdOk_d]
  simp only [Pg.d, List.length_map]
theorem few_d (p : Pg) : p.d.few ↔ p.few := by
  unfold Pg.few fewF fewB
  have h : ∀ k, fdAt p.d.funs k = (fdAt p.funs k).d := fun k => fdAt_d _ _
  have h2 : ∀ (f : Fd) k, blkAt f.d.blocks k = (blkAt f.blocks k).d := fun f k => blkAt_d _ _
  simp only [h, h2]
  simp only [Pg.d, Fd.d, Blk.d, List.length_map]
theorem Pg.sane_of_d {p q : Pg} (h : p.d = q.d) : p.sane ↔ q.sane := by rw [← sane_d p, h, sane_d]
theorem Pg.few_of_d {p q : Pg} (h : p.d = q.d) : p.few ↔ q.few := by rw [← few_d p, h, few_d]
theorem Pg.ins_of_d {p q : Pg} (h : p.d = q.d) : p.ins = q.ins := by rw [← ins_d p, h, ins_d]
theorem len_of_d {p q : Pg} (h : p.d = q.d) : p.funs.length = q.funs.length := by
  have := congrArg (fun p => p.funs.length) h
  simpa [Pg.d] using this
theorem fdAt_of_d {p q : Pg} (h : p.d = q.d) (k : Nat) : (fdAt p.funs k).d = (fdAt q.funs k).d := by
  rw [← fdAt_d, ← fdAt_d]
  exact congrArg (fun p : Pg => fdAt p.funs k) h
theorem saneB_d (p : Pg) : p.d.saneB = p.saneB := by
  rw [Bool.eq_iff_iff, saneB_iff, saneB_iff, sane_d]
theorem funB_d (p : Pg) (f : Int) : funB p.d f = funB p f := by
  unfold funB
  rw [saneB_d]
  simp [Pg.d]
theorem funR_d (p : Pg) (f : Int) : funR p.d f = (funR p f).d := by
  unfold funR
  rw [funB_d]
  cases funB p f
  · rfl
  · exact fdAt_d _ _
theorem blkB_d (p : Pg) (f b : Int) : blkB p.d f b = blkB p f b := by
  unfold blkB
  rw [funR_d]
  simp only [Fd.d, List.length_map, blkAt_d, Blk.d]
theorem blkR_d (p : Pg) (f b : Int) : blkR p.d f b = (blkR p f b).d := by
  unfold blkR
  rw [blkB_d, funR_d]
  cases blkB p f b
  · rfl
  · exact blkAt_d _ _
theorem edgeB_d (p : Pg) (f b t : Int) : edgeB p.d f b t = edgeB p f b t := by
  unfold edgeB
  rw [blkR_d]
  rfl
theorem atB_d (p : Pg) (f b k : Int) : atB p.d f b k = atB p f b k := by
  unfold atB
  rw [blkR_d]
  rfl
theorem atR_d (p : Pg) (f b k : Int) : atR p.d f b k = atR p f b k := by
  unfold atR
  rw [atB_d, blkR_d]
  rfl
theorem roomB_d (p : Pg) (f : Int) : roomB p.d f = roomB p f := by
  rw [Bool.eq_iff_iff, roomB_iff, roomB_iff]
  unfold roomP
  rw [funB_d, funR_d]
  simp only [Fd.d, liveAt_d]
theorem idB_d (p : Pg) : idB p.d = idB p := by
  rw [Bool.eq_iff_iff, idB_iff, idB_iff]
  unfold idP
  rw [sane_d, ins_d]
theorem blocksE_d (p : Pg) (f : Int) (l : List Int) : blocksE p.d f l = blocksE p f l := by
  induction l with
  | nil => rfl
  | cons b l ih => unfold blocksE; rw [blkB_d, ih]
theorem varsE_d (x : Fd) (i : Ins) : varsE x.d i = varsE x i := rfl
theorem callE_d (p : Pg) (i : Ins) : callE p.d i = callE p i := by
  unfold callE
  rw [funB_d, funR_d]
  rfl
theorem addFunE_d (p : Pg) (b t : Int) : addFunE p.d b t = addFunE p b t := by
  unfold addFunE
  simp only [Pg.d, List.length_map]
theorem insertE_d (p : Pg) (f b k : Int) (i : Ins) : insertE p.d f b k i = insertE p f b k i := by
  unfold insertE
  rw [blkB_d, blkR_d, funR_d, varsE_d, callE_d, idB_d]
  rfl
theorem chk_d (p : Pg) (e : Ed) : chk p.d e = chk p e := by
  unfold chk opE inFunE
  simp only [addFunE_d, insertE_d, saneB_d, funB_d, roomB_d, blocksE_d, edgeB_d, atB_d]
theorem newBlkIs_d (p : Pg) (f z : Int) : NewBlkIs p.d f z ↔ NewBlkIs p f z := by
  unfold NewBlkIs First
  rw [funB_d, funR_d]
  simp only [Fd.d, liveAt_d]
theorem newIdIs_d (p : Pg) (z : Int) : NewIdIs p.d z ↔ NewIdIs p z := by
  unfold NewIdIs First
  rw [sane_d, ins_d]
theorem chk_of_d {p q : Pg} (h : p.d = q.d) (e : Ed) : chk p e = chk q e := by rw [← chk_d p, h, chk_d]

theorem First.ex (n : Nat) (P : Nat → Prop) : ∃ z, First n P z := by
  induction n with
  | zero => exact ⟨-1, .inl ⟨rfl, fun k hk => absurd hk (Nat.not_lt_zero k)⟩⟩
  | succ n ih =>
    obtain ⟨z, hz⟩ := ih
    rcases hz with ⟨rfl, h⟩ | ⟨k, hk, rfl, h1, h2⟩
    · by_cases hn : P n
      · exact ⟨n, .inr ⟨n, Nat.lt_succ_self n, rfl, hn, h⟩⟩
      · refine ⟨-1, .inl ⟨rfl, fun k hk => ?_⟩⟩
        by_cases e : k = n
        · exact e ▸ hn
        · exact h k (by omega)
    · exact ⟨k, .inr ⟨k, by omega, rfl, h1, h2⟩⟩
theorem newBlk_ex (p : Pg) (f : Int) : ∃ z, NewBlkIs p f z := by
  unfold NewBlkIs
  by_cases h : funB p f = true
  · simp only [h, if_true]; exact First.ex _ _
  · exact ⟨-1, by rw [if_neg h]⟩
theorem newId_ex (p : Pg) : ∃ z, NewIdIs p z := by
  unfold NewIdIs
  by_cases h : p.sane
  · obtain ⟨z, hz⟩ := First.ex 96 (fun k => (p.ins.map Ins.id).count (k : Int) = 0)
    exact ⟨z, .inl ⟨h, hz⟩⟩
  · exact ⟨-1, .inr ⟨h, rfl⟩⟩
noncomputable def newBlk (p : Pg) (f : Int) : Int := Classical.choose (newBlk_ex p f)
noncomputable def newId (p : Pg) : Int := Classical.choose (newId_ex p)
theorem newBlk_is (p : Pg) (f : Int) : NewBlkIs p f (newBlk p f) := Classical.choose_spec (newBlk_ex p f)
theorem newId_is (p : Pg) : NewIdIs p (newId p) := Classical.choose_spec (newId_ex p)
theorem newBlk_eq {p : Pg} {f z : Int} (h : NewBlkIs p f z) : z = newBlk p f := by
  have h2 := newBlk_is p f
  unfold NewBlkIs at h h2
  by_cases hf : funB p f = true
  · rw [if_pos hf] at h h2; exact First.one h h2
  · rw [if_neg hf] at h h2; rw [h, h2]
theorem newId_eq {p : Pg} {z : Int} (h : NewIdIs p z) : z = newId p := by
  have h2 := newId_is p
  unfold NewIdIs at h h2
  rcases h with ⟨hs, h⟩ | ⟨hs, rfl⟩
  · rcases h2 with ⟨-, h2⟩ | ⟨h3, -⟩
    · exact First.one h h2
    · exact absurd hs h3
  · rcases h2 with ⟨h3, -⟩ | ⟨-, h2⟩
    · exact absurd h3 hs
    · exact h2.symm
theorem newBlk_of_d {p q : Pg} (h : p.d = q.d) (f : Int) : newBlk p f = newBlk q f :=
  newBlk_eq ((newBlkIs_d q f _).1 (h ▸ (newBlkIs_d p f _).2 (newBlk_is p f)))
theorem newId_of_d {p q : Pg} (h : p.d = q.d) : newId p = newId q :=
  newId_eq ((newIdIs_d q _).1 (h ▸ (newIdIs_d p _).2 (newId_is p)))

/-- What an edit makes of lists. -/
def putL {α : Type} (l : List α) (k : Nat) (x : α) : List α := l.take k ++ x :: l.drop k
def addN (l : List Int) (n : Int) : List Int := l.takeWhile (fun x => decide (x < n)) ++ n :: l.dropWhile (fun x => decide (x < n))
def delN (l : List Int) (n : Int) : List Int := l.filter (fun x => !decide (x = n))
def trimL (l : List Blk) : List Blk := (l.reverse.dropWhile (fun b => !b.live)).reverse
def newB : Blk := ⟨true, .none, 0, [], .none, 0, []⟩
def Blk.with (x : Blk) (code : List Ins) (succ : List Int) : Blk := ⟨x.live, .none, 0, code, .none, 0, succ⟩
noncomputable def blkA (p : Pg) (e : Ed) (x : Blk) : Blk :=
  if e.op = 3 then x.with x.code (addN x.succ e.tob)
  else if e.op = 4 then x.with x.code (delN x.succ e.tob)
  else if e.op = 5 then x.with x.code (addN (delN x.succ e.tob) e.other)
  else if e.op = 6 then x.with (putL x.code e.pos.toNat { e.i with id := newId p }) x.succ
  else x.with (x.code.eraseIdx e.pos.toNat) x.succ
noncomputable def blksA (p : Pg) (e : Ed) (l : List Blk) : List Blk :=
  if e.op = 1 then (if newBlk p e.f = l.length then l ++ [newB] else l.set (newBlk p e.f).toNat newB)
  else if e.op = 2 then trimL ((l.set e.b.toNat Blk.none).map fun x => x.with x.code (delN x.succ e.b))
  else l.set e.b.toNat (blkA p e (blkAt l e.b.toNat))
noncomputable def funA (p : Pg) (e : Ed) (x : Fd) : Fd := ⟨x.ar, x.vr, .none, 0, blksA p e x.blocks⟩
noncomputable def appP (p : Pg) (e : Ed) : Pg :=
  if chk p e = 0 then (if e.op = 0 then ⟨.none, 0, p.funs ++ [⟨e.b, e.tob, .none, 0, [newB]⟩]⟩ else ⟨.none, 0, p.funs.set e.f.toNat (funA p e (fdAt p.funs e.f.toNat))⟩) else p
end Go.Proofs.YtbddjneinfkmpaaGreatDoor

namespace Go.Proofs.YtbddjneinfkmpaaGreatDoor
open Go Go.RowKit Go.Sort

theorem chk_zero {p : Pg} {e : Ed} (h : chk p e = 0) : p.sane ∧ (0 ≤ e.op ∧ e.op ≤ 7) ∧ opE p e = 0 := by
  unfold chk at h
  rw [firstE_zero] at h
  simp only [List.mem_cons, List.not_mem_nil, or_false, forall_eq_or_imp, forall_eq] at h
  obtain ⟨h1, h2, h3⟩ := h
  rw [unl_zero (by decide)] at h1 h2
  rw [saneB_iff] at h1
  exact ⟨h1, by simpa [isOpB] using h2, h3⟩
theorem chk_ne0 {p : Pg} {e : Ed} (h : chk p e = 0) (h0 : e.op ≠ 0) : 0 ≤ e.f ∧ e.f < p.funs.length ∧ inFunE p e = 0 := by
  obtain ⟨hs, -, ho⟩ := chk_zero h
  unfold opE at ho
  rw [if_neg h0, firstE_zero] at ho
  simp only [List.mem_cons, List.not_mem_nil, or_false, forall_eq_or_imp, forall_eq] at ho
  rw [unl_zero (by decide)] at ho
  exact ⟨((funB_iff hs _).1 ho.1).1, ((funB_iff hs _).1 ho.1).2, ho.2⟩

theorem blkAt_set (l : List Blk) (n k : Nat) (g : Blk) : blkAt (l.set n g) k = if k = n ∧ n < l.length then g else blkAt l k := by
  unfold blkAt
  rw [List.getElem?_set]
  by_cases h : n = k
  · subst h
    by_cases h2 : n < l.length
    · simp [h2]
    · simp [h2]
  · rw [if_neg h, if_neg (fun h2 => h h2.1.symm)]
theorem fdAt_set (l : List Fd) (n k : Nat) (g : Fd) : fdAt (l.set n g) k = if k = n ∧ n < l.length then g else fdAt l k := by
  unfold fdAt
  rw [List.getElem?_set]
  by_cases h : n = k
  · subst h
    by_cases h2 : n < l.length
    · simp [h2]
    · simp [h2]
  · rw [if_neg h, if_neg (fun h2 => h h2.1.symm)]
theorem fdAt_append (l : List Fd) (k : Nat) (g : Fd) : fdAt (l ++ [g]) k = if k = l.length then g else fdAt l k := by
  unfold fdAt
  by_cases h : k < l.length
  · rw [List.getElem?_append_left h, if_neg (by omega)]
  · by_cases h2 : k = l.length
    · subst h2; simp
    · rw [if_neg h2, List.getElem?_eq_none (by simp; omega), List.getElem?_eq_none (by omega)]
theorem blkAt_append (l : List Blk) (k : Nat) (g : Blk) : blkAt (l ++ [g]) k = if k = l.length then g else blkAt l k := by
  unfold blkAt
  by_cases h : k < l.length
  · rw [List.getElem?_append_left h, if_neg (by omega)]
  · by_cases h2 : k = l.length
    · subst h2; simp
    · rw [if_neg h2, List.getElem?_eq_none (by simp; omega), List.getElem?_eq_none (by omega)]
theorem blkAt_map (l : List Blk) (F : Blk → Blk) (hF : F Blk.none = Blk.none) (k : Nat) : blkAt (l.map F) k = F (blkAt l k) := by
  unfold blkAt
  rw [List.getElem?_map]
  cases l[k]?
  · exact hF.symm
  · rfl
theorem fdAt_split {l : List Fd} {n : Nat} (hn : n < l.length) : l = l.take n ++ fdAt l n :: l.drop (n + 1) := by
  have : fdAt l n = l[n] := by unfold fdAt; simp [hn]
  rw [this]
  simp
theorem blkAt_split {l : List Blk} {n : Nat} (hn : n < l.length) : l = l.take n ++ blkAt l n :: l.drop (n + 1) := by
  have : blkAt l n = l[n] := by unfold blkAt; simp [hn]
  rw [this]
  simp
theorem fset_split {l : List Fd} {n : Nat} (hn : n < l.length) (g : Fd) : l.set n g = l.take n ++ g :: l.drop (n + 1) := by
  rw [List.set_eq_take_append_cons_drop, if_pos hn]
theorem bset_split {l : List Blk} {n : Nat} (hn : n < l.length) (g : Blk) : l.set n g = l.take n ++ g :: l.drop (n + 1) := by
  rw [List.set_eq_take_append_cons_drop, if_pos hn]

/-- All instructions, where one function is another. -/
theorem ins_split {p : Pg} {n : Nat} (hn : n < p.funs.length) : p.ins = (p.funs.take n).flatMap Fd.ins ++ ((fdAt p.funs n).ins ++ (p.funs.drop (n + 1)).flatMap Fd.ins) := by
  show p.funs.flatMap Fd.ins = _
  conv => lhs; rw [fdAt_split hn]
  rw [List.flatMap_append, List.flatMap_cons]
theorem ins_set {p : Pg} {n : Nat} (hn : n < p.funs.length) (g : Fd) (a : Option Addr) (c : Nat) : (Pg.mk a c (p.funs.set n g)).ins = (p.funs.take n).flatMap Fd.ins ++ (g.ins ++ (p.funs.drop (n + 1)).flatMap Fd.ins) := by
  show (p.funs.set n g).flatMap Fd.ins = _
  rw [fset_split hn, List.flatMap_append, List.flatMap_cons]
theorem bins_split {f : Fd} {n : Nat} (hn : n < f.blocks.length) : f.ins = (f.blocks.take n).flatMap Blk.ins ++ ((blkAt f.blocks n).code ++ (f.blocks.drop (n + 1)).flatMap Blk.ins) := by
  show f.blocks.flatMap Blk.ins = _
  conv => lhs; rw [blkAt_split hn]
  rw [List.flatMap_append, List.flatMap_cons]
  rfl
theorem bins_set {l : List Blk} {n : Nat} (hn : n < l.length) (g : Blk) : (l.set n g).flatMap Blk.ins = (l.take n).flatMap Blk.ins ++ (g.code ++ (l.drop (n + 1)).flatMap Blk.ins) := by
  rw [bset_split hn, List.flatMap_append, List.flatMap_cons]
  rfl

theorem insOk_set {p : Pg} {n : Nat} {g : Fd} (har : g.ar = (fdAt p.funs n).ar) (a : Option Addr) (c : Nat) {f : Fd} {i : Ins} (h : insOk p f i) : insOk (Pg.mk a c (p.funs.set n g)) f i := by
  refine ⟨h.1, h.2.1, fun hk => ⟨by simpa using (h.2.2 hk).1, ?_⟩⟩
  have h2 := (h.2.2 hk).2
  show (fdAt (p.funs.set n g) i.f.toNat).ar = i.n
  rw [fdAt_set]
  split
  · rename_i h3
    rw [har, ← h3.1]
    exact h2
  · exact h2
theorem blkOk_set {p : Pg} {n : Nat} {g : Fd} (har : g.ar = (fdAt p.funs n).ar) (a : Option Addr) (c : Nat) {f : Fd} {x : Blk} (h : blkOk p f x) : blkOk (Pg.mk a c (p.funs.set n g)) f x :=
  ⟨h.1, h.2.1, h.2.2.1, fun k hk => insOk_set har a c (h.2.2.2 k hk)⟩
theorem sane_set {p : Pg} (h : p.sane) {n : Nat} (hn : n < p.funs.length) (g : Fd) (har : g.ar = (fdAt p.funs n).ar) (hg : headOk g) (hb : ∀ k, k < g.blocks.length → blkOk p g (blkAt g.blocks k))
    (hid : (((p.funs.take n).flatMap Fd.ins ++ (g.ins ++ (p.funs.drop (n + 1)).flatMap Fd.ins)).map Ins.id).Nodup) (a : Option Addr) (c : Nat) : (Pg.mk a c (p.funs.set n g)).sane := by
  refine ⟨by simpa using h.1, fun k hk => ?_, ?_⟩
  · have hk' : k < p.funs.length := by simpa using hk
    show fdOk _ (fdAt (p.funs.set n g) k)
    rw [fdAt_set]
    split
    · exact ⟨hg, fun j hj => blkOk_set har a c (hb j hj)⟩
    · exact ⟨(h.2.1 k hk').1, fun j hj => blkOk_set har a c ((h.2.1 k hk').2 j hj)⟩
  · rw [ins_set hn]
    exact hid
theorem ids_sub {p : Pg} (h : p.sane) {n : Nat} (hn : n < p.funs.length) {g : Fd} (hs : g.ins.Sublist (fdAt p.funs n).ins) :
    (((p.funs.take n).flatMap Fd.ins ++ (g.ins ++ (p.funs.drop (n + 1)).flatMap Fd.ins)).map Ins.id).Nodup := by
  have h2 := h.2.2
  rw [ins_split hn] at h2
  exact h2.sublist (((List.Sublist.refl _).append (hs.append (List.Sublist.refl _))).map _)
theorem blkOk_mono {p : Pg} {f g : Fd} (hl : ∀ b, liveAt f.blocks b → liveAt g.blocks b) (hv : g.vr = f.vr) {x : Blk} (h : blkOk p f x) : blkOk p g x :=
  ⟨h.1, h.2.1, fun k hk => ⟨(h.2.2.1 k hk).1, hl _ (h.2.2.1 k hk).2⟩, fun k hk => ⟨(h.2.2.2 k hk).1, by rw [hv]; exact (h.2.2.2 k hk).2.1, (h.2.2.2 k hk).2.2⟩⟩

/-- Edges as they rise. -/
def Rises (l : List Int) : Prop := l.Pairwise (· < ·)
theorem rises_iff (l : List Int) : (∀ k, k < l.length → 0 < k → numAt l (k - 1) < numAt l k) ↔ Rises l := by
  constructor
  · intro h
    have h2 : ∀ d i, i + d + 1 < l.length → numAt l i < numAt l (i + d + 1) := by
      intro d
      induction d with
      | zero => intro i hi; exact h (i + 1) hi (by omega)
      | succ d ih =>
        intro i hi
        have h3 := ih i (by omega)
        have h4 := h (i + d + 2) hi (by omega)
        have e : i + d + 2 - 1 = i + d + 1 := by omega
        rw [e] at h4
        exact Int.lt_trans h3 h4
    unfold Rises
    rw [List.pairwise_iff_getElem]
    intro i j hi hj hij
    have := h2 (j - i - 1) i (by omega)
    have e : i + (j - i - 1) + 1 = j := by omega
    rw [e] at this
    unfold numAt at this
    simpa [hi, hj] using this
  · intro h k hk h0
    unfold Rises at h
    rw [List.pairwise_iff_getElem] at h
    have := h (k - 1) k (by omega) hk (by omega)
    unfold numAt
    have h1 : k - 1 < l.length := by omega
    simpa [h1, hk] using this
theorem succOk_iff (l : List Blk) (s : List Int) : succOk l s ↔ Rises s ∧ ∀ x ∈ s, liveAt l x := by
  rw [← rises_iff]
  constructor
  · intro h
    refine ⟨fun k hk h0 => (h k hk).1 h0, fun x hx => ?_⟩
    obtain ⟨j, hj, e⟩ := List.getElem_of_mem hx
    have := (h j hj).2
    unfold numAt at this
    rw [List.getElem?_eq_getElem hj] at this
    simpa [e] using this
  · rintro ⟨h1, h2⟩ k hk
    refine ⟨h1 k hk, h2 _ ?_⟩
    unfold numAt
    rw [List.getElem?_eq_getElem hk]
    exact List.getElem_mem hk
theorem delN_mem (l : List Int) (n x : Int) : x ∈ delN l n ↔ x ∈ l ∧ x ≠ n := by unfold delN; simp
theorem delN_rises {l : List Int} (h : Rises l) (n : Int) : Rises (delN l n) := h.sublist List.filter_sublist
theorem addN_mem (l : List Int) (n x : Int) : x ∈ addN l n ↔ x ∈ l ∨ x = n := by
  unfold addN
  rw [List.mem_append, List.mem_cons]
  constructor
  · rintro (h | h | h)
    · exact .inl ((List.takeWhile_sublist _).mem h)
    · exact .inr h
    · exact .inl ((List.dropWhile_sublist _).mem h)
  · rintro (h | h)
    · rw [← List.takeWhile_append_dropWhile (p := fun x => decide (x < n)) (l := l), List.mem_append] at h
      rcases h with h | h
      · exact .inl h
      · exact .inr (.inr h)
    · exact .inr (.inl h)
theorem addN_rises {l : List Int} (h : Rises l) {n : Int} (hn : n ∉ l) : Rises (addN l n) := by
  induction l with
  | nil => simp [addN, Rises]
  | cons x l ih =>
    unfold Rises at h
    rw [List.pairwise_cons] at h
    by_cases hx : x < n
    · have e : addN (x :: l) n = x :: addN l n := by simp [addN, hx]
      rw [e]
      unfold Rises
      rw [List.pairwise_cons]
      refine ⟨fun y hy => ?_, ih h.2 (fun h2 => hn (by simp [h2]))⟩
      rcases (addN_mem l n y).1 hy with h2 | rfl
      · exact h.1 y h2
      · exact hx
    · have e : addN (x :: l) n = n :: x :: l := by simp [addN, hx]
      have hxn : n < x := by
        have : x ≠ n := fun e => hn (by simp [e])
        omega
      rw [e]
      unfold Rises
      rw [List.pairwise_cons, List.pairwise_cons]
      refine ⟨fun y hy => ?_, h⟩
      rcases List.mem_cons.1 hy with rfl | h2
      · exact hxn
      · exact Int.lt_trans hxn (h.1 y h2)
theorem trimL_spec (l : List Blk) : ∃ m, m ≤ l.length ∧ trimL l = l.take m ∧ (∀ k, m ≤ k → (blkAt l k).live = false) ∧ (0 < m → (blkAt l (m - 1)).live = true) := by
  suffices h : ∀ r : List Blk, ∃ m, m ≤ r.reverse.length ∧ trimL r.reverse = r.reverse.take m ∧ (∀ k, m ≤ k → (blkAt r.reverse k).live = false) ∧ (0 < m → (blkAt r.reverse (m - 1)).live = true) by
    have := h l.reverse
    rwa [List.reverse_reverse] at this
  intro r
  induction r with
  | nil => exact ⟨0, by simp, by simp [trimL], fun k _ => by simp [blkAt, Blk.none], fun h => absurd h (by omega)⟩
  | cons x r ih =>
    obtain ⟨m, hm, h1, h2, h3⟩ := ih
    rw [List.reverse_cons]
    cases hx : x.live with
    | false =>
      refine ⟨m, by simp at hm ⊢; omega, ?_, fun k hk => ?_, fun h0 => ?_⟩
      · rw [List.take_append_of_le_length hm, ← h1]
        simp [trimL, hx]
      · rw [blkAt_append]
        split
        · exact hx
        · exact h2 k hk
      · rw [blkAt_append, if_neg (by omega)]
        exact h3 h0
    | true =>
      refine ⟨r.reverse.length + 1, by simp, ?_, fun k hk => ?_, fun _ => ?_⟩
      · rw [List.take_of_length_le (by simp)]
        simp [trimL, hx]
      · unfold blkAt
        rw [List.getElem?_eq_none (by simp at hk ⊢; omega)]
        rfl
      · rw [blkAt_append, if_pos (by simp)]
        exact hx
theorem blkAt_take (l : List Blk) (m k : Nat) : blkAt (l.take m) k = if k < m then blkAt l k else Blk.none := by
  unfold blkAt
  rw [List.getElem?_take]
  split <;> rfl
end Go.Proofs.YtbddjneinfkmpaaGreatDoor

namespace Go.Proofs.YtbddjneinfkmpaaGreatDoor
open Go Go.RowKit Go.Sort

theorem liveAt_set {l : List Blk} {n : Nat} {g : Blk} (hg : (blkAt l n).live = true → g.live = true) {b : Int} (h : liveAt l b) : liveAt (l.set n g) b := by
  refine ⟨h.1, by rw [List.length_set]; exact h.2.1, ?_⟩
  rw [blkAt_set]
  split
  · rename_i h2
    exact hg (h2.1 ▸ h.2.2)
  · exact h.2.2
theorem newBlk_here {p : Pg} {f : Int} (hf : funB p f = true) (hr : roomB p f = true) : ∃ k : Nat, newBlk p f = k ∧ k < 12 ∧ k ≤ (funR p f).blocks.length ∧ ¬ liveAt (funR p f).blocks k ∧ ∀ j : Nat, j < k → liveAt (funR p f).blocks j := by
  have h := newBlk_is p f
  unfold NewBlkIs at h
  rw [if_pos hf] at h
  obtain ⟨-, k0, hk0, hn0⟩ := (roomB_iff p f).1 hr
  rcases h with ⟨-, h⟩ | ⟨k, hk, he, h1, h2⟩
  · exact absurd hn0 (fun h3 => h k0 hk0 h3)
  · have h3 : ∀ j : Nat, j < k → liveAt (funR p f).blocks j := fun j hj => Classical.byContradiction (fun h => h2 j hj h)
    refine ⟨k, he, hk, ?_, h1, h3⟩
    rcases Nat.eq_zero_or_pos k with rfl | hp
    · omega
    · have := (h3 (k - 1) (by omega)).2.1
      omega
/-- What is known of an edit that may be: its function. -/
theorem edit_fun {p : Pg} {e : Ed} (h : chk p e = 0) (h0 : e.op ≠ 0) : ∃ n : Nat, e.f = n ∧ n < p.funs.length ∧ funB p e.f = true ∧ funR p e.f = fdAt p.funs n ∧ fdOk p (fdAt p.funs n) ∧ inFunE p e = 0 := by
  obtain ⟨hs, -, -⟩ := chk_zero h
  obtain ⟨h1, h2, h3⟩ := chk_ne0 h h0
  obtain ⟨n, hn⟩ := Int.eq_ofNat_of_zero_le h1
  have hn2 : n < p.funs.length := by omega
  refine ⟨n, hn, hn2, ?_, ?_, hs.2.1 n hn2, h3⟩
  · rw [hn]; exact (funR_in hs hn2).1
  · rw [hn]; exact (funR_in hs hn2).2
theorem blkB_at {p : Pg} {f b : Int} (h : blkB p f b = true) : ∃ n : Nat, b = n ∧ n < (funR p f).blocks.length ∧ blkR p f b = blkAt (funR p f).blocks n ∧ (blkAt (funR p f).blocks n).live = true := by
  have hl := (blkB_iff p f b).1 h
  obtain ⟨n, rfl⟩ := Int.eq_ofNat_of_zero_le hl.1
  refine ⟨n, rfl, by have := hl.2.1; omega, ?_, hl.2.2⟩
  unfold blkR
  rw [h]
  rfl
theorem head_set {f : Fd} (hh : headOk f) {n : Nat} {g : Blk} (hg : (blkAt f.blocks n).live = true → g.live = true) (a : Option Addr) (c : Nat) : headOk ⟨f.ar, f.vr, a, c, f.blocks.set n g⟩ := by
  obtain ⟨h1, h2, h3, h4, h5, h6, h7, h8⟩ := hh
  refine ⟨h1, h2, h3, h4, by simpa using h5, by simpa using h6, ?_, ?_⟩
  · have := (liveAt_set (g := g) hg (b := 0) ⟨by omega, by omega, h7⟩).2.2
    simpa using this
  · have := (liveAt_set (g := g) hg (b := ((f.blocks.length - 1 : Nat) : Int)) ⟨by omega, by omega, by simpa using h8⟩).2.2
    simpa using this

/-- One block of a function is another. -/
theorem sane_block {p : Pg} (h : p.sane) {n : Nat} (hn : n < p.funs.length) {b : Nat} (hb : b < (fdAt p.funs n).blocks.length) (g : Blk) (hl : (blkAt (fdAt p.funs n).blocks b).live = true → g.live = true)
    (hg : blkOk p ⟨(fdAt p.funs n).ar, (fdAt p.funs n).vr, .none, 0, (fdAt p.funs n).blocks.set b g⟩ g)
    (hid : (((p.funs.take n).flatMap Fd.ins ++ (((fdAt p.funs n).blocks.take b).flatMap Blk.ins ++ (g.code ++ ((fdAt p.funs n).blocks.drop (b + 1)).flatMap Blk.ins) ++ (p.funs.drop (n + 1)).flatMap Fd.ins)).map Ins.id).Nodup) (a : Option Addr) (c : Nat) :
    (Pg.mk a c (p.funs.set n ⟨(fdAt p.funs n).ar, (fdAt p.funs n).vr, .none, 0, (fdAt p.funs n).blocks.set b g⟩)).sane := by
  have hf := h.2.1 n hn
  refine sane_set h hn ⟨(fdAt p.funs n).ar, (fdAt p.funs n).vr, .none, 0, (fdAt p.funs n).blocks.set b g⟩ rfl (head_set hf.1 hl _ _) (fun k hk => ?_) ?_ a c
  · rw [blkAt_set]
    split
    · exact hg
    · exact blkOk_mono (f := fdAt p.funs n) (g := ⟨(fdAt p.funs n).ar, (fdAt p.funs n).vr, .none, 0, (fdAt p.funs n).blocks.set b g⟩) (fun c hc => liveAt_set hl hc) rfl (hf.2 k (by simpa using hk))
  · show (((p.funs.take n).flatMap Fd.ins ++ (((fdAt p.funs n).blocks.set b g).flatMap Blk.ins ++ (p.funs.drop (n + 1)).flatMap Fd.ins)).map Ins.id).Nodup
    rw [bins_set hb]
    exact hid
theorem ids_block {p : Pg} {n : Nat} (hn : n < p.funs.length) {b : Nat} (hb : b < (fdAt p.funs n).blocks.length) : p.ins = (p.funs.take n).flatMap Fd.ins ++ (((fdAt p.funs n).blocks.take b).flatMap Blk.ins ++ ((blkAt (fdAt p.funs n).blocks b).code ++ ((fdAt p.funs n).blocks.drop (b + 1)).flatMap Blk.ins) ++ (p.funs.drop (n + 1)).flatMap Fd.ins) := by
  rw [ins_split hn, bins_split hb]
theorem ids_block_sub {p : Pg} (h : p.sane) {n : Nat} (hn : n < p.funs.length) {b : Nat} (hb : b < (fdAt p.funs n).blocks.length) {l : List Ins} (hs : l.Sublist (blkAt (fdAt p.funs n).blocks b).code) :
    (((p.funs.take n).flatMap Fd.ins ++ (((fdAt p.funs n).blocks.take b).flatMap Blk.ins ++ (l ++ ((fdAt p.funs n).blocks.drop (b + 1)).flatMap Blk.ins) ++ (p.funs.drop (n + 1)).flatMap Fd.ins)).map Ins.id).Nodup := by
  have h2 := h.2.2
  rw [ids_block hn hb] at h2
  exact h2.sublist (((List.Sublist.refl _).append (((List.Sublist.refl _).append (hs.append (List.Sublist.refl _))).append (List.Sublist.refl _))).map _)
theorem nodup_put {a b c d : List Int} {z : Int} (h : (a ++ (b ++ c ++ d)).Nodup) (hz : z ∉ a ++ (b ++ c ++ d)) : (a ++ (b ++ z :: c ++ d)).Nodup := by
  have e1 : a ++ (b ++ c ++ d) = (a ++ b) ++ (c ++ d) := by simp
  have e2 : a ++ (b ++ z :: c ++ d) = (a ++ b) ++ z :: (c ++ d) := by simp
  rw [e1] at h hz
  rw [e2]
  rw [(List.perm_middle (a := z) (l₁ := a ++ b) (l₂ := c ++ d)).nodup_iff]
  exact List.nodup_cons.2 ⟨hz, h⟩
theorem vars_id {i : Ins} (hi : i.form) {z : Int} (h0 : 0 ≤ z) (h1 : z ≤ 95) : Ins.form { i with id := z } ∧ Ins.vars { i with id := z } = i.vars := by
  have hf : Ins.form { i with id := z } := by
    unfold Ins.form at hi ⊢
    exact ⟨hi.1, hi.2.1, h0, h1, hi.2.2.2.2⟩
  refine ⟨hf, ?_⟩
  unfold Ins.vars Ins.defn Ins.uses
  simp only [hf, hi, if_true, true_and]
  rfl

theorem newId_here {p : Pg} (h : idB p = true) : 0 ≤ newId p ∧ newId p ≤ 95 ∧ newId p ∉ p.ins.map Ins.id := by
  obtain ⟨hs, k0, hk0, hn0⟩ := (idB_iff p).1 h
  rcases newId_is p with ⟨-, h⟩ | ⟨h, -⟩
  · rcases h with ⟨-, h⟩ | ⟨k, hk, he, h1, -⟩
    · exact absurd (List.count_eq_zero.2 hn0) (h k0 hk0)
    · rw [he]
      exact ⟨by omega, by omega, List.count_eq_zero.1 h1⟩
  · exact absurd hs h
end Go.Proofs.YtbddjneinfkmpaaGreatDoor

namespace Go.Proofs.YtbddjneinfkmpaaGreatDoor
open Go Go.RowKit Go.Sort

theorem edgeB_iff {p : Pg} {f b : Int} {n m : Nat} (hfr : funR p f = fdAt p.funs n) (hb : b = m) (hbr : blkB p f b = true) (t : Int) : edgeB p f b t = true ↔ t ∈ (blkAt (fdAt p.funs n).blocks m).succ := by
  unfold edgeB blkR
  rw [hbr, hfr, hb]
  simp
theorem in3 {p : Pg} {e : Ed} (h : inFunE p e = 0) (ho : e.op = 3 ∨ e.op = 4 ∨ e.op = 5) : blkB p e.f e.b = true ∧ blkB p e.f e.tob = true ∧ (e.op = 5 → blkB p e.f e.other = true) ∧ (edgeB p e.f e.b e.tob = true ↔ e.op ≠ 3) ∧ (e.op = 5 → e.other = e.tob ∨ edgeB p e.f e.b e.other = false) := by
  unfold inFunE at h
  rcases ho with ho | ho | ho
  · rw [if_neg (by omega), if_neg (by omega), if_pos ho, firstE_zero] at h
    simp only [List.mem_cons, List.not_mem_nil, or_false, forall_eq_or_imp, forall_eq] at h
    rw [blocksE_zero, unl_zero (by decide)] at h
    simp only [List.mem_cons, List.not_mem_nil, or_false, forall_eq_or_imp, forall_eq] at h
    exact ⟨h.1.1, h.1.2, fun h5 => by omega, by simpa [ho] using h.2, fun h5 => by omega⟩
  · rw [if_neg (by omega), if_neg (by omega), if_neg (by omega), if_pos ho, firstE_zero] at h
    simp only [List.mem_cons, List.not_mem_nil, or_false, forall_eq_or_imp, forall_eq] at h
    rw [blocksE_zero, unl_zero (by decide)] at h
    simp only [List.mem_cons, List.not_mem_nil, or_false, forall_eq_or_imp, forall_eq] at h
    exact ⟨h.1.1, h.1.2, fun h5 => by omega, by simpa [ho] using h.2, fun h5 => by omega⟩
  · rw [if_neg (by omega), if_neg (by omega), if_neg (by omega), if_neg (by omega), if_pos ho, firstE_zero] at h
    simp only [List.mem_cons, List.not_mem_nil, or_false, forall_eq_or_imp, forall_eq] at h
    rw [blocksE_zero, unl_zero (by decide), unl_zero (by decide)] at h
    simp only [List.mem_cons, List.not_mem_nil, or_false, forall_eq_or_imp, forall_eq] at h
    refine ⟨h.1.1, h.1.2.1, fun _ => h.1.2.2, by simpa [ho] using h.2.1, fun _ => ?_⟩
    have := h.2.2
    simpa using this
theorem in2 {p : Pg} {e : Ed} (h : inFunE p e = 0) (ho : e.op = 2) : blkB p e.f e.b = true ∧ e.b ≠ 0 := by
  unfold inFunE at h
  rw [if_neg (by omega), if_pos ho, firstE_zero] at h
  simp only [List.mem_cons, List.not_mem_nil, or_false, forall_eq_or_imp, forall_eq] at h
  rw [blocksE_zero, unl_zero (by decide)] at h
  simp only [List.mem_cons, List.not_mem_nil, or_false, forall_eq] at h
  exact ⟨h.1, by simpa using h.2⟩
theorem in7 {p : Pg} {e : Ed} (h : inFunE p e = 0) (ho : e.op = 7) : blkB p e.f e.b = true ∧ atB p e.f e.b e.pos = true := by
  unfold inFunE at h
  rw [if_neg (by omega), if_neg (by omega), if_neg (by omega), if_neg (by omega), if_neg (by omega), if_neg (by omega), if_pos ho, firstE_zero] at h
  simp only [List.mem_cons, List.not_mem_nil, or_false, forall_eq_or_imp, forall_eq] at h
  rw [blocksE_zero, unl_zero (by decide)] at h
  simp only [List.mem_cons, List.not_mem_nil, or_false, forall_eq] at h
  exact h
theorem in6 {p : Pg} {e : Ed} (h : inFunE p e = 0) (ho : e.op = 6) : blkB p e.f e.b = true ∧ (0 ≤ e.pos ∧ e.pos ≤ ((blkR p e.f e.b).code.length : Int)) ∧ (e.i.id = 0 ∧ e.i.form) ∧ (∀ v ∈ e.i.vars, v < (funR p e.f).vr) ∧
    (e.i.kind = 7 → funB p e.i.f = true ∧ (funR p e.i.f).ar = e.i.n) ∧ ((blkR p e.f e.b).code.length : Int) < 16 ∧ idB p = true := by
  unfold inFunE at h
  rw [if_neg (by omega), if_neg (by omega), if_neg (by omega), if_neg (by omega), if_neg (by omega), if_pos ho] at h
  unfold insertE at h
  rw [firstE_zero] at h
  simp only [List.mem_cons, List.not_mem_nil, or_false, forall_eq_or_imp, forall_eq] at h
  obtain ⟨h1, h2, h3, h4, h5, h6, h7⟩ := h
  rw [unl_zero (by decide)] at h1 h2 h3 h6 h7
  refine ⟨h1, by simpa [inB] using h2, by simpa using h3, ?_, fun hk => ?_, by simpa using h6, h7⟩
  · unfold varsE at h4
    exact Classical.byContradiction (fun hn => by rw [if_neg hn] at h4; cases h4)
  · unfold callE at h5
    rw [if_pos hk, firstE_zero] at h5
    simp only [List.mem_cons, List.not_mem_nil, or_false, forall_eq_or_imp, forall_eq] at h5
    rw [unl_zero (by decide), unl_zero (by decide)] at h5
    exact ⟨h5.1, by simpa using h5.2⟩
theorem in1 {p : Pg} {e : Ed} (h : inFunE p e = 0) (ho : e.op = 1) : roomB p e.f = true := by
  unfold inFunE at h
  rw [if_pos ho, unl_zero (by decide)] at h
  exact h

theorem blkOk_at {p : Pg} {f : Fd} (hf : fdOk p f) {m : Nat} (hm : m < f.blocks.length) : blkOk p f (blkAt f.blocks m) := hf.2 m hm
theorem liveAt_same {l : List Blk} {n : Nat} {g : Blk} (hl : (blkAt l n).live = g.live) (b : Int) : liveAt (l.set n g) b ↔ liveAt l b := by
  constructor
  · intro h
    refine ⟨h.1, by simpa using h.2.1, ?_⟩
    have h2 := h.2.2
    rw [blkAt_set] at h2
    split at h2
    · rename_i h3
      rw [h3.1, hl]; exact h2
    · exact h2
  · exact fun h => liveAt_set (fun h => hl ▸ h) h

/-- A program behind an edit of a block's edges or code. -/
theorem sane_blkA {p : Pg} {e : Ed} (h : chk p e = 0) (h3 : 3 ≤ e.op) : (appP p e).sane := by
  obtain ⟨hs, ⟨-, h7⟩, -⟩ := chk_zero h
  obtain ⟨n, hn, hn2, hfb, hfr, hfo, hin⟩ := edit_fun h (by omega)
  unfold appP
  rw [if_pos h, if_neg (by omega), show e.f.toNat = n by omega]
  have hbk : blkB p e.f e.b = true := by
    rcases (by omega : (e.op = 3 ∨ e.op = 4 ∨ e.op = 5) ∨ e.op = 6 ∨ e.op = 7) with ho | ho | ho
    · exact (in3 hin ho).1
    · exact (in6 hin ho).1
    · exact (in7 hin ho).1
  obtain ⟨m, hm, hml, hbr, hlive⟩ := blkB_at hbk
  rw [hfr] at hml hbr hlive
  have hok := blkOk_at hfo hml
  have he : funA p e (fdAt p.funs n) = ⟨(fdAt p.funs n).ar, (fdAt p.funs n).vr, .none, 0, (fdAt p.funs n).blocks.set m (blkA p e (blkAt (fdAt p.funs n).blocks m))⟩ := by
    unfold funA blksA
    rw [if_neg (by omega), if_neg (by omega), show e.b.toNat = m by omega]
  rw [he]
  obtain ⟨x, hx⟩ : ∃ x, blkAt (fdAt p.funs n).blocks m = x := ⟨_, rfl⟩
  have hsx := hok.2.2.1
  rw [succOk_iff, hx] at hsx
  rw [hx] at hok hlive
  have hedge : ∀ t, edgeB p e.f e.b t = true ↔ t ∈ x.succ := fun t => by rw [edgeB_iff hfr hm hbk, hx]
  have hto : ∀ t, blkB p e.f t = true → liveAt (fdAt p.funs n).blocks t := fun t ht => by
    have := (blkB_iff p e.f t).1 ht
    rwa [hfr] at this
  have hlv : (blkA p e x).live = x.live := by
    unfold blkA
    repeat' split
    all_goals rfl
  have hsame : (blkAt (fdAt p.funs n).blocks m).live = (blkA p e x).live := by rw [hx, hlv]
  have hno : ¬ (blkA p e x).live = false := by rw [hlv, hlive]; decide
  -- the block's edges and code, apart
  have main : ((blkA p e x).code.length ≤ 16 ∧ (Rises (blkA p e x).succ ∧ ∀ y ∈ (blkA p e x).succ, liveAt (fdAt p.funs n).blocks y) ∧ (∀ i ∈ (blkA p e x).code, insOk p (fdAt p.funs n) i)) ∧
      (((p.funs.take n).flatMap Fd.ins ++ (((fdAt p.funs n).blocks.take m).flatMap Blk.ins ++ ((blkA p e x).code ++ ((fdAt p.funs n).blocks.drop (m + 1)).flatMap Blk.ins) ++ (p.funs.drop (n + 1)).flatMap Fd.ins)).map Ins.id).Nodup := by
    have hcode : ∀ i ∈ x.code, insOk p (fdAt p.funs n) i := fun i hi => by
      obtain ⟨k, hk, rfl⟩ := mem_insAt hi
      exact hok.2.2.2 k hk
    rcases (by omega : e.op = 3 ∨ e.op = 4 ∨ e.op = 5 ∨ e.op = 6 ∨ e.op = 7) with ho | ho | ho | ho | ho
    · obtain ⟨-, ht, -, hed, -⟩ := in3 hin (by omega)
      have hA : blkA p e x = x.with x.code (addN x.succ e.tob) := by unfold blkA; rw [if_pos ho]
      rw [hA]
      have hnt : e.tob ∉ x.succ := fun h => by
        have := (hedge _).2 h
        exact absurd ho (hed.1 this)
      refine ⟨⟨hok.2.1, ⟨addN_rises hsx.1 hnt, fun y hy => ?_⟩, hcode⟩, ids_block_sub hs hn2 hml (by rw [hx]; exact List.Sublist.refl _)⟩
      rcases (addN_mem _ _ _).1 hy with h | rfl
      · exact hsx.2 y h
      · exact hto _ ht
    · have hA : blkA p e x = x.with x.code (delN x.succ e.tob) := by unfold blkA; rw [if_neg (by omega), if_pos ho]
      rw [hA]
      exact ⟨⟨hok.2.1, ⟨delN_rises hsx.1 _, fun y hy => hsx.2 y ((delN_mem _ _ _).1 hy).1⟩, hcode⟩, ids_block_sub hs hn2 hml (by rw [hx]; exact List.Sublist.refl _)⟩
    · obtain ⟨-, ht, hoth, hed, hno⟩ := in3 hin (by omega)
      have hA : blkA p e x = x.with x.code (addN (delN x.succ e.tob) e.other) := by unfold blkA; rw [if_neg (by omega), if_neg (by omega), if_pos ho]
      rw [hA]
      have hnt : e.other ∉ delN x.succ e.tob := fun h => by
        obtain ⟨h1, h2⟩ := (delN_mem _ _ _).1 h
        rcases hno ho with h3 | h3
        · exact h2 h3
        · rw [(hedge _).2 h1] at h3; cases h3
      refine ⟨⟨hok.2.1, ⟨addN_rises (delN_rises hsx.1 _) hnt, fun y hy => ?_⟩, hcode⟩, ids_block_sub hs hn2 hml (by rw [hx]; exact List.Sublist.refl _)⟩
      rcases (addN_mem _ _ _).1 hy with h | rfl
      · exact hsx.2 y ((delN_mem _ _ _).1 h).1
      · exact hto _ (hoth ho)
    · obtain ⟨-, hpos, ⟨hid0, hform⟩, hvars, hcall, hlen, hidb⟩ := in6 hin ho
      obtain ⟨hz0, hz1, hz2⟩ := newId_here hidb
      have hA : blkA p e x = x.with (putL x.code e.pos.toNat { e.i with id := newId p }) x.succ := by unfold blkA; rw [if_neg (by omega), if_neg (by omega), if_neg (by omega), if_pos ho]
      rw [hA]
      rw [hbr, hx] at hlen hpos
      obtain ⟨hf2, hv2⟩ := vars_id hform hz0 hz1
      refine ⟨⟨?_, hsx, fun i hi => ?_⟩, ?_⟩
      · show (putL x.code _ _).length ≤ 16
        simp only [putL, List.length_append, List.length_take, List.length_cons, List.length_drop]
        omega
      · have hi2 : i ∈ putL x.code e.pos.toNat { e.i with id := newId p } := hi
        unfold putL at hi2
        rw [List.mem_append, List.mem_cons] at hi2
        rcases hi2 with h | rfl | h
        · exact hcode i (List.mem_of_mem_take h)
        · refine ⟨hf2, by rw [hv2, ← hfr]; exact hvars, fun hk => ?_⟩
          obtain ⟨h1, h2⟩ := hcall hk
          have h4 := (funB_iff hs _).1 h1
          refine ⟨h4.2, ?_⟩
          unfold funR at h2
          rw [h1] at h2
          simpa using h2
        · exact hcode i (List.mem_of_mem_drop h)
      · have h2 := hs.2.2
        rw [ids_block hn2 hml, hx] at h2
        rw [ids_block hn2 hml, hx] at hz2
        show (((p.funs.take n).flatMap Fd.ins ++ (((fdAt p.funs n).blocks.take m).flatMap Blk.ins ++ (putL x.code e.pos.toNat { e.i with id := newId p } ++ ((fdAt p.funs n).blocks.drop (m + 1)).flatMap Blk.ins) ++ (p.funs.drop (n + 1)).flatMap Fd.ins)).map Ins.id).Nodup
        have e0 : x.code = x.code.take e.pos.toNat ++ x.code.drop e.pos.toNat := (List.take_append_drop _ _).symm
        rw [e0] at h2 hz2
        unfold putL
        simp only [List.map_append, List.map_cons, List.append_assoc, List.cons_append] at h2 hz2 ⊢
        have h5 := nodup_put (a := (p.funs.take n).flatMap Fd.ins |>.map Ins.id) (b := (((fdAt p.funs n).blocks.take m).flatMap Blk.ins).map Ins.id ++ (x.code.take e.pos.toNat).map Ins.id) (c := (x.code.drop e.pos.toNat).map Ins.id) (d := (((fdAt p.funs n).blocks.drop (m + 1)).flatMap Blk.ins).map Ins.id ++ ((p.funs.drop (n + 1)).flatMap Fd.ins).map Ins.id) (z := newId p) (by simpa only [List.append_assoc] using h2) (by simpa only [List.append_assoc] using hz2)
        simpa only [List.append_assoc, List.cons_append] using h5
    · have hA : blkA p e x = x.with (x.code.eraseIdx e.pos.toNat) x.succ := by unfold blkA; rw [if_neg (by omega), if_neg (by omega), if_neg (by omega), if_neg (by omega)]
      rw [hA]
      refine ⟨⟨Nat.le_trans (List.length_eraseIdx_le _ _) hok.2.1, hsx, fun i hi => hcode i (List.mem_of_mem_eraseIdx hi)⟩, ids_block_sub hs hn2 hml (by rw [hx]; exact List.eraseIdx_sublist _ _)⟩
  obtain ⟨⟨m1, ⟨m2, m3⟩, m4⟩, m5⟩ := main
  rw [hx]
  refine sane_block hs hn2 hml (blkA p e x) (fun _ => by rw [hlv]; exact hlive) ⟨fun h => absurd h hno, m1, ?_, fun k hk => ?_⟩ m5 _ _
  · rw [succOk_iff]
    exact ⟨m2, fun y hy => (liveAt_same hsame y).2 (m3 y hy)⟩
  · have := m4 (insAt (blkA p e x).code k) (by unfold insAt; simp [hk])
    exact this
end Go.Proofs.YtbddjneinfkmpaaGreatDoor

namespace Go.Proofs.YtbddjneinfkmpaaGreatDoor
open Go Go.RowKit Go.Sort

/-- A program behind a new function. -/
theorem sane_add {p : Pg} {e : Ed} (h : chk p e = 0) (h0 : e.op = 0) : (appP p e).sane := by
  obtain ⟨hs, -, ho⟩ := chk_zero h
  unfold opE at ho
  rw [if_pos h0] at ho
  unfold addFunE at ho
  rw [firstE_zero] at ho
  simp only [List.mem_cons, List.not_mem_nil, or_false, forall_eq_or_imp, forall_eq] at ho
  rw [unl_zero (by decide), unl_zero (by decide), unl_zero (by decide)] at ho
  simp only [inB, decide_eq_true_eq] at ho
  unfold appP
  rw [if_pos h, if_pos h0]
  have hins : ∀ (f : Fd) (i : Ins), 0 < p.funs.length → insOk p f i → insOk ⟨.none, 0, p.funs ++ [⟨e.b, e.tob, .none, 0, [newB]⟩]⟩ f i := fun f i hp hi => by
    refine ⟨hi.1, hi.2.1, fun hk => ?_⟩
    obtain ⟨h1, h2⟩ := hi.2.2 hk
    refine ⟨by simp; omega, ?_⟩
    show (fdAt (p.funs ++ _) _).ar = _
    rw [fdAt_append, if_neg (by omega)]
    exact h2
  refine ⟨by simp; omega, fun k hk => ?_, ?_⟩
  · show fdOk _ (fdAt (p.funs ++ _) k)
    rw [fdAt_append]
    split
    · refine ⟨⟨ho.1.1, ho.1.2, ho.2.1.1, ho.2.1.2, by simp, by simp, rfl, rfl⟩, fun j hj => ?_⟩
      have : j = 0 := by simpa using hj
      subst this
      exact ⟨fun h => by simp [blkAt, newB] at h, by simp [blkAt, newB], fun k hk => by simp [blkAt, newB] at hk, fun k hk => by simp [blkAt, newB] at hk⟩
    · have hk' : k < p.funs.length := by simp at hk; omega
      have := hs.2.1 k hk'
      exact ⟨this.1, fun j hj => ⟨(this.2 j hj).1, (this.2 j hj).2.1, (this.2 j hj).2.2.1, fun q hq => hins _ _ (by omega) ((this.2 j hj).2.2.2 q hq)⟩⟩
  · have h3 : (Pg.mk .none 0 (p.funs ++ [⟨e.b, e.tob, .none, 0, [newB]⟩])).ins = p.ins := by
      show (p.funs ++ _).flatMap Fd.ins = p.funs.flatMap Fd.ins
      rw [List.flatMap_append]
      simp [Fd.ins, newB, Blk.ins]
    rw [h3]
    exact hs.2.2

/-- Behind a new block. -/
theorem sane_newB {p : Pg} {e : Ed} (h : chk p e = 0) (h1 : e.op = 1) : (appP p e).sane := by
  obtain ⟨hs, -, -⟩ := chk_zero h
  obtain ⟨n, hn, hn2, hfb, hfr, hfo, hin⟩ := edit_fun h (by omega)
  obtain ⟨k, hk, hk12, hkl, hkn, hkj⟩ := newBlk_here hfb (in1 hin h1)
  rw [hfr] at hkl hkn hkj
  unfold appP
  rw [if_pos h, if_neg (by omega), show e.f.toNat = n by omega]
  obtain ⟨f, hf⟩ : ∃ f, fdAt p.funs n = f := ⟨_, rfl⟩
  have hfo' := hfo
  rw [hf] at hkl hkn hkj hfo ⊢
  by_cases hkk : k = f.blocks.length
  · have he : funA p e f = ⟨f.ar, f.vr, .none, 0, f.blocks ++ [newB]⟩ := by
      unfold funA blksA
      rw [if_pos h1, hk, if_pos (by omega)]
    rw [he]
    obtain ⟨⟨a1, a2, a3, a4, a5, a6, a7, a8⟩, hb⟩ := hfo
    refine sane_set hs hn2 ⟨f.ar, f.vr, .none, 0, f.blocks ++ [newB]⟩ (by rw [hf]) ⟨a1, a2, a3, a4, by simp, by simp; omega, ?_, ?_⟩ (fun j hj => ?_) ?_ _ _
    · show (blkAt (f.blocks ++ [newB]) 0).live = true
      rw [blkAt_append, if_neg (by omega)]
      exact a7
    · show (blkAt (f.blocks ++ [newB]) _).live = true
      rw [blkAt_append, if_pos (by simp)]
      rfl
    · show blkOk p _ (blkAt (f.blocks ++ [newB]) j)
      rw [blkAt_append]
      split
      · exact ⟨fun h => by simp [newB] at h, by simp [newB], fun k hk => by simp [newB] at hk, fun k hk => by simp [newB] at hk⟩
      · refine blkOk_mono (f := f) (g := ⟨f.ar, f.vr, .none, 0, f.blocks ++ [newB]⟩) (fun b hb => ⟨hb.1, by have := hb.2.1; simp; omega, ?_⟩) rfl (hb j (by simp at hj; omega))
        show (blkAt (f.blocks ++ [newB]) _).live = true
        rw [blkAt_append, if_neg (by have := hb.1; have := hb.2.1; omega)]
        exact hb.2.2
    · refine ids_sub hs hn2 ?_
      rw [hf]
      show ((f.blocks ++ [newB]).flatMap Blk.ins).Sublist (f.blocks.flatMap Blk.ins)
      rw [List.flatMap_append]
      simp [newB, Blk.ins]
  · have hkl2 : k < f.blocks.length := by omega
    have hlv : (blkAt f.blocks k).live = false := by
      cases hx : (blkAt f.blocks k).live with
      | false => rfl
      | true => exact absurd ⟨by omega, by omega, by simpa using hx⟩ hkn
    have he : funA p e f = ⟨f.ar, f.vr, .none, 0, f.blocks.set k newB⟩ := by
      unfold funA blksA
      rw [if_pos h1, hk, if_neg (by omega)]
      rfl
    rw [he]
    subst hf
    have hbk := hfo.2 k hkl2
    refine sane_block hs hn2 hkl2 newB (fun _ => rfl) ⟨fun h => by simp [newB] at h, by simp [newB], fun k hk => by simp [newB] at hk, fun k hk => by simp [newB] at hk⟩ ?_ _ _
    exact ids_block_sub hs hn2 hkl2 (by simp [newB])

/-- Behind a block that is gone. -/
theorem sane_del {p : Pg} {e : Ed} (h : chk p e = 0) (h2 : e.op = 2) : (appP p e).sane := by
  obtain ⟨hs, -, -⟩ := chk_zero h
  obtain ⟨n, hn, hn2, hfb, hfr, hfo, hin⟩ := edit_fun h (by omega)
  obtain ⟨hbk, hb0⟩ := in2 hin h2
  obtain ⟨m, hm, hml, hbr, hlive⟩ := blkB_at hbk
  rw [hfr] at hml hbr hlive
  unfold appP
  rw [if_pos h, if_neg (by omega), show e.f.toNat = n by omega]
  obtain ⟨f, hf⟩ : ∃ f, fdAt p.funs n = f := ⟨_, rfl⟩
  rw [hf] at hml hfo ⊢
  obtain ⟨l2, hl2⟩ : ∃ l2, (f.blocks.set m Blk.none).map (fun x => x.with x.code (delN x.succ e.b)) = l2 := ⟨_, rfl⟩
  obtain ⟨q, hq, ht, hq1, hq2⟩ := trimL_spec l2
  have he : funA p e f = ⟨f.ar, f.vr, .none, 0, l2.take q⟩ := by
    unfold funA blksA
    rw [if_neg (by omega), if_pos h2, show e.b.toNat = m by omega, hl2, ht]
  rw [he]
  have hlen : l2.length = f.blocks.length := by rw [← hl2]; simp
  have hat : ∀ k, blkAt l2 k = (if k = m then Blk.none else (blkAt f.blocks k).with (blkAt f.blocks k).code (delN (blkAt f.blocks k).succ e.b)) := fun k => by
    rw [← hl2, blkAt_map _ _ rfl, blkAt_set]
    by_cases hk : k = m
    · rw [if_pos hk, if_pos ⟨hk, hml⟩]; rfl
    · rw [if_neg hk, if_neg (fun h => hk h.1)]
  obtain ⟨⟨a1, a2, a3, a4, a5, a6, a7, a8⟩, hb⟩ := hfo
  have hm0 : 0 ≠ m := fun h => hb0 (by omega)
  have h0l : (blkAt l2 0).live = true := by rw [hat, if_neg hm0]; exact a7
  have hqp : 0 < q := by
    rcases Nat.eq_zero_or_pos q with h | h
    · rw [hq1 0 (by omega)] at h0l; cases h0l
    · exact h
  have hlen2 : (l2.take q).length = q := by rw [List.length_take]; omega
  have hlv : ∀ b : Int, liveAt f.blocks b → b ≠ e.b → liveAt (l2.take q) b := fun b hb hne => by
    obtain ⟨k, hk⟩ := Int.eq_ofNat_of_zero_le hb.1
    have h3 := hb.2.2
    have h4 : (blkAt l2 k).live = true := by
      rw [hat, if_neg (by omega)]
      rw [hk] at h3
      exact h3
    have h5 : k < q := by
      rcases Nat.lt_or_ge k q with h | h
      · exact h
      · rw [hq1 k h] at h4; cases h4
    refine ⟨hb.1, by rw [hlen2]; omega, ?_⟩
    rw [blkAt_take, hk]
    simp only [Int.toNat_natCast]
    rw [if_pos h5]
    exact h4
  refine sane_set hs hn2 ⟨f.ar, f.vr, .none, 0, l2.take q⟩ (by rw [hf]) ⟨a1, a2, a3, a4, by show 1 ≤ (l2.take q).length; omega, by show (l2.take q).length ≤ 12; omega, ?_, ?_⟩ (fun j hj => ?_) ?_ _ _
  · show (blkAt (l2.take q) 0).live = true
    rw [blkAt_take, if_pos hqp]
    exact h0l
  · show (blkAt (l2.take q) ((l2.take q).length - 1)).live = true
    rw [blkAt_take, hlen2, if_pos (by omega)]
    exact hq2 hqp
  · have hj2 : j < q := by
      have : j < (l2.take q).length := hj
      omega
    show blkOk p _ (blkAt (l2.take q) j)
    rw [blkAt_take, if_pos hj2, hat]
    split
    · exact ⟨fun _ => ⟨rfl, rfl⟩, by simp [Blk.none], fun k hk => by simp [Blk.none] at hk, fun k hk => by simp [Blk.none] at hk⟩
    · have hbj := hb j (by omega)
      have hsx := hbj.2.2.1
      rw [succOk_iff] at hsx
      refine ⟨fun h => ⟨(hbj.1 h).1, ?_⟩, hbj.2.1, ?_, fun k hk => ?_⟩
      · have := (hbj.1 h).2
        show (delN (blkAt f.blocks j).succ e.b).length = 0
        have h3 : (delN (blkAt f.blocks j).succ e.b).length ≤ (blkAt f.blocks j).succ.length := List.length_filter_le _ _
        omega
      · rw [succOk_iff]
        refine ⟨delN_rises hsx.1 _, fun y hy => ?_⟩
        obtain ⟨h3, h4⟩ := (delN_mem _ _ _).1 hy
        exact hlv y (hsx.2 y h3) h4
      · exact hbj.2.2.2 k hk
  · refine ids_sub hs hn2 ?_
    rw [hf]
    show ((l2.take q).flatMap Blk.ins).Sublist (f.blocks.flatMap Blk.ins)
    have h3 : l2.flatMap Blk.ins = (f.blocks.set m Blk.none).flatMap Blk.ins := by
      rw [← hl2, List.flatMap_map]
      rfl
    have h4 : ((l2.take q).flatMap Blk.ins).Sublist (l2.flatMap Blk.ins) := by
      conv => rhs; rw [← List.take_append_drop q l2, List.flatMap_append]
      exact List.sublist_append_left _ _
    refine h4.trans ?_
    rw [h3, bins_set hml]
    have h5 := bins_split hml
    show List.Sublist _ f.ins
    rw [h5]
    exact (List.Sublist.refl _).append ((List.nil_sublist _).append (List.Sublist.refl _))

/-- A program that may be stays one. -/
theorem sane_app {p : Pg} {e : Ed} (h : chk p e = 0) : (appP p e).sane := by
  obtain ⟨-, ⟨h1, -⟩, -⟩ := chk_zero h
  rcases (by omega : e.op = 0 ∨ e.op = 1 ∨ e.op = 2 ∨ 3 ≤ e.op) with h0 | h0 | h0 | h0
  · exact sane_add h h0
  · exact sane_newB h h0
  · exact sane_del h h0
  · exact sane_blkA h h0
theorem app_same {p : Pg} {e : Ed} (h : ¬ chk p e = 0) : appP p e = p := by unfold appP; rw [if_neg h]
end Go.Proofs.YtbddjneinfkmpaaGreatDoor

namespace Go.Proofs.YtbddjneinfkmpaaGreatDoor
open Go Go.RowKit Go.Sort

theorem chk_of {q : Pg} {u : Ed} (hs : q.sane) (h1 : 1 ≤ u.op) (h7 : u.op ≤ 7) {n : Nat} (hf : u.f = n) (hn : n < q.funs.length) (hi : inFunE q u = 0) : chk q u = 0 := by
  unfold chk
  rw [firstE_zero]
  simp only [List.mem_cons, List.not_mem_nil, or_false, forall_eq_or_imp, forall_eq]
  rw [unl_zero (by decide), unl_zero (by decide)]
  refine ⟨(saneB_iff q).2 hs, by simp [isOpB]; omega, ?_⟩
  unfold opE
  rw [if_neg (by omega), firstE_zero]
  simp only [List.mem_cons, List.not_mem_nil, or_false, forall_eq_or_imp, forall_eq]
  rw [unl_zero (by decide), hf]
  exact ⟨(funR_in hs hn).1, hi⟩
theorem of2 {p : Pg} {e : Ed} (ho : e.op = 2) (h1 : blkB p e.f e.b = true) (h2 : e.b ≠ 0) : inFunE p e = 0 := by
  unfold inFunE
  rw [if_neg (by omega), if_pos ho, firstE_zero]
  simp only [List.mem_cons, List.not_mem_nil, or_false, forall_eq_or_imp, forall_eq]
  rw [blocksE_zero, unl_zero (by decide)]
  exact ⟨by simpa using h1, by simpa using h2⟩
theorem of3 {p : Pg} {e : Ed} (ho : e.op = 3) (h1 : blkB p e.f e.b = true) (h2 : blkB p e.f e.tob = true) (h3 : edgeB p e.f e.b e.tob = false) : inFunE p e = 0 := by
  unfold inFunE
  rw [if_neg (by omega), if_neg (by omega), if_pos ho, firstE_zero]
  simp only [List.mem_cons, List.not_mem_nil, or_false, forall_eq_or_imp, forall_eq]
  rw [blocksE_zero, unl_zero (by decide)]
  exact ⟨by simpa using ⟨h1, h2⟩, by simpa using h3⟩
theorem of4 {p : Pg} {e : Ed} (ho : e.op = 4) (h1 : blkB p e.f e.b = true) (h2 : blkB p e.f e.tob = true) (h3 : edgeB p e.f e.b e.tob = true) : inFunE p e = 0 := by
  unfold inFunE
  rw [if_neg (by omega), if_neg (by omega), if_neg (by omega), if_pos ho, firstE_zero]
  simp only [List.mem_cons, List.not_mem_nil, or_false, forall_eq_or_imp, forall_eq]
  rw [blocksE_zero, unl_zero (by decide)]
  exact ⟨by simpa using ⟨h1, h2⟩, h3⟩
theorem of5 {p : Pg} {e : Ed} (ho : e.op = 5) (h1 : blkB p e.f e.b = true) (h2 : blkB p e.f e.tob = true) (h3 : blkB p e.f e.other = true) (h4 : edgeB p e.f e.b e.tob = true) (h5 : e.other = e.tob ∨ edgeB p e.f e.b e.other = false) : inFunE p e = 0 := by
  unfold inFunE
  rw [if_neg (by omega), if_neg (by omega), if_neg (by omega), if_neg (by omega), if_pos ho, firstE_zero]
  simp only [List.mem_cons, List.not_mem_nil, or_false, forall_eq_or_imp, forall_eq]
  rw [blocksE_zero, unl_zero (by decide), unl_zero (by decide)]
  exact ⟨by simpa using ⟨h1, h2, h3⟩, h4, by simpa using h5⟩
theorem of7 {p : Pg} {e : Ed} (ho : e.op = 7) (h1 : blkB p e.f e.b = true) (h2 : atB p e.f e.b e.pos = true) : inFunE p e = 0 := by
  unfold inFunE
  rw [if_neg (by omega), if_neg (by omega), if_neg (by omega), if_neg (by omega), if_neg (by omega), if_neg (by omega), if_pos ho, firstE_zero]
  simp only [List.mem_cons, List.not_mem_nil, or_false, forall_eq_or_imp, forall_eq]
  rw [blocksE_zero, unl_zero (by decide)]
  exact ⟨by simpa using h1, h2⟩
theorem of6 {p : Pg} {e : Ed} (ho : e.op = 6) (h1 : blkB p e.f e.b = true) (h2 : 0 ≤ e.pos ∧ e.pos ≤ ((blkR p e.f e.b).code.length : Int)) (h3 : e.i.id = 0 ∧ e.i.form) (h4 : ∀ v ∈ e.i.vars, v < (funR p e.f).vr)
    (h5 : e.i.kind = 7 → funB p e.i.f = true ∧ (funR p e.i.f).ar = e.i.n) (h6 : ((blkR p e.f e.b).code.length : Int) < 16) (h7 : idB p = true) : inFunE p e = 0 := by
  unfold inFunE
  rw [if_neg (by omega), if_neg (by omega), if_neg (by omega), if_neg (by omega), if_neg (by omega), if_pos ho]
  unfold insertE
  rw [firstE_zero]
  simp only [List.mem_cons, List.not_mem_nil, or_false, forall_eq_or_imp, forall_eq]
  rw [unl_zero (by decide), unl_zero (by decide), unl_zero (by decide), unl_zero (by decide), unl_zero (by decide)]
  refine ⟨h1, by simpa [inB] using h2, by simpa using h3, ?_, ?_, by simpa using h6, h7⟩
  · unfold varsE; rw [if_pos h4]
  · unfold callE
    by_cases hk : e.i.kind = 7
    · rw [if_pos hk, firstE_zero]
      simp only [List.mem_cons, List.not_mem_nil, or_false, forall_eq_or_imp, forall_eq]
      rw [unl_zero (by decide), unl_zero (by decide)]
      exact ⟨(h5 hk).1, by simpa using (h5 hk).2⟩
    · rw [if_neg hk]

theorem delN_none {l : List Int} {n : Int} (h : n ∉ l) : delN l n = l := by
  unfold delN
  rw [List.filter_eq_self]
  intro a ha
  simp
  intro e
  exact h (e ▸ ha)
theorem del_add {l : List Int} {n : Int} (h : n ∉ l) : delN (addN l n) n = l := by
  have h1 : delN (addN l n) n = delN (l.takeWhile (fun x => decide (x < n))) n ++ delN (l.dropWhile (fun x => decide (x < n))) n := by
    unfold delN addN
    rw [List.filter_append, List.filter_cons]
    simp
  rw [h1, delN_none (fun h2 => h ((List.takeWhile_sublist _).mem h2)), delN_none (fun h2 => h ((List.dropWhile_sublist _).mem h2)), List.takeWhile_append_dropWhile]
theorem rises_ext {l m : List Int} (hl : Rises l) (hm : Rises m) (h : ∀ x, x ∈ l ↔ x ∈ m) : l = m := by
  induction l generalizing m with
  | nil =>
    cases m with
    | nil => rfl
    | cons y m => exact absurd ((h y).2 (by simp)) (by simp)
  | cons x l ih =>
    cases m with
    | nil => exact absurd ((h x).1 (by simp)) (by simp)
    | cons y m =>
      unfold Rises at hl hm
      rw [List.pairwise_cons] at hl hm
      have hxy : x = y := by
        have h1 := (h x).1 (by simp)
        have h2 := (h y).2 (by simp)
        rcases List.mem_cons.1 h1 with e | h3
        · exact e
        · rcases List.mem_cons.1 h2 with e | h4
          · exact e.symm
          · have := hm.1 x h3
            have := hl.1 y h4
            omega
      subst hxy
      rw [ih hl.2 hm.2 (fun z => ?_)]
      have hz := h z
      rw [List.mem_cons, List.mem_cons] at hz
      constructor
      · intro h1
        rcases hz.1 (.inr h1) with e | h2
        · have := hl.1 z h1; omega
        · exact h2
      · intro h1
        rcases hz.2 (.inr h1) with e | h2
        · have := hm.1 z h1; omega
        · exact h2
theorem add_del {l : List Int} (hl : Rises l) {n : Int} (h : n ∈ l) : addN (delN l n) n = l := by
  refine rises_ext (addN_rises (delN_rises hl n) (fun h2 => ((delN_mem _ _ _).1 h2).2 rfl)) hl (fun x => ?_)
  rw [addN_mem, delN_mem]
  constructor
  · rintro (h1 | rfl)
    · exact h1.1
    · exact h
  · intro h1
    by_cases e : x = n
    · exact .inr e
    · exact .inl ⟨h1, e⟩
theorem erase_put (l : List Ins) (k : Nat) (x : Ins) (hk : k ≤ l.length) : (putL l k x).eraseIdx k = l := by
  unfold putL
  have : (l.take k).length = k := by rw [List.length_take]; omega
  rw [List.eraseIdx_append_of_length_le (by omega), this]
  simp
theorem put_erase (l : List Ins) (k : Nat) (hk : k < l.length) : putL (l.eraseIdx k) k (insAt l k) = l := by
  have e : insAt l k = l[k] := by unfold insAt; simp [hk]
  rw [e]
  unfold putL
  rw [List.eraseIdx_eq_take_drop_succ]
  have h1 : (l.take k).length = k := by rw [List.length_take]; omega
  rw [List.take_append_of_le_length (by omega), List.take_of_length_le (by omega)]
  rw [List.drop_append_of_le_length (by omega), List.drop_of_length_le (by omega)]
  simp

/-- The edit that undoes one. -/
noncomputable def undoB (p : Pg) (e : Ed) : Bool :=
  decide (chk p e = 0) && (decide (e.op = 1) || decide (e.op = 3) || decide (e.op = 4) || decide (e.op = 5) || decide (e.op = 6) || (decide (e.op = 7) && decide ((atR p e.f e.b e.pos).id = newId (appP p e))))
def Ins.zero : Ins := ⟨0, 0, 0, 0, 0, 0, 0, 0, 0, 0, 0⟩
noncomputable def undoE (p : Pg) (e : Ed) : Ed :=
  if undoB p e then
    (if e.op = 1 then ⟨2, e.f, newBlk p e.f, 0, 0, 0, Ins.zero⟩
    else if e.op = 3 then ⟨4, e.f, e.b, e.tob, 0, 0, Ins.zero⟩
    else if e.op = 4 then ⟨3, e.f, e.b, e.tob, 0, 0, Ins.zero⟩
    else if e.op = 5 then ⟨5, e.f, e.b, e.other, e.tob, 0, Ins.zero⟩
    else if e.op = 6 then ⟨7, e.f, e.b, 0, 0, e.pos, Ins.zero⟩
    else ⟨6, e.f, e.b, 0, 0, e.pos, { atR p e.f e.b e.pos with id := 0 }⟩)
  else ⟨0, 0, 0, 0, 0, 0, Ins.zero⟩

theorem d_set {p : Pg} {n : Nat} (hn : n < p.funs.length) (g : Fd) (hg : g.d = (fdAt p.funs n).d) (a : Option Addr) (c : Nat) : (Pg.mk a c (p.funs.set n g)).d = p.d := by
  unfold Pg.d
  congr 1
  apply List.ext_getElem?
  intro k
  rw [List.getElem?_map, List.getElem?_map, List.getElem?_set]
  by_cases h : n = k
  · subst h
    rw [if_pos rfl, if_pos hn]
    have : fdAt p.funs n = p.funs[n] := by unfold fdAt; simp [hn]
    rw [List.getElem?_eq_getElem hn]
    simp [hg, this]
  · rw [if_neg h]
theorem bd_set {l : List Blk} {m : Nat} (hm : m < l.length) (g : Blk) (hg : g.d = (blkAt l m).d) : (l.set m g).map Blk.d = l.map Blk.d := by
  apply List.ext_getElem?
  intro k
  rw [List.getElem?_map, List.getElem?_map, List.getElem?_set]
  by_cases h : m = k
  · subst h
    rw [if_pos rfl, if_pos hm]
    have : blkAt l m = l[m] := by unfold blkAt; simp [hm]
    rw [List.getElem?_eq_getElem hm]
    simp [hg, this]
  · rw [if_neg h]
/-- What the edits of a block make of a program, written out. -/
theorem app_blk {p : Pg} {e : Ed} (h : chk p e = 0) (h3 : 3 ≤ e.op) {n m : Nat} (hn : e.f = n) (hm : e.b = m) : appP p e = ⟨.none, 0, p.funs.set n ⟨(fdAt p.funs n).ar, (fdAt p.funs n).vr, .none, 0, (fdAt p.funs n).blocks.set m (blkA p e (blkAt (fdAt p.funs n).blocks m))⟩⟩ := by
  unfold appP
  rw [if_pos h, if_neg (by omega), show e.f.toNat = n by omega]
  unfold funA blksA
  rw [if_neg (by omega), if_neg (by omega), show e.b.toNat = m by omega]
theorem blkA_live (p : Pg) (e : Ed) (x : Blk) : (blkA p e x).live = x.live := by
  unfold blkA
  repeat' split
  all_goals rfl
end Go.Proofs.YtbddjneinfkmpaaGreatDoor

namespace Go.Proofs.YtbddjneinfkmpaaGreatDoor
open Go Go.RowKit Go.Sort

/-- A program behind an edit of a block, looked at. -/
theorem app_view {p : Pg} {e : Ed} (h : chk p e = 0) (h3 : 3 ≤ e.op) : ∃ n m : Nat, e.f = n ∧ e.b = m ∧ n < p.funs.length ∧ m < (fdAt p.funs n).blocks.length ∧ fdOk p (fdAt p.funs n) ∧ funR p e.f = fdAt p.funs n ∧ blkB p e.f e.b = true ∧ blkR p e.f e.b = blkAt (fdAt p.funs n).blocks m ∧ inFunE p e = 0 ∧
    (appP p e).funs.length = p.funs.length ∧ (∀ k, k ≠ n → fdAt (appP p e).funs k = fdAt p.funs k) ∧ (∀ k, (fdAt (appP p e).funs k).ar = (fdAt p.funs k).ar ∧ (fdAt (appP p e).funs k).vr = (fdAt p.funs k).vr) ∧ (∀ t, blkB (appP p e) e.f t = blkB p e.f t) ∧ blkR (appP p e) e.f e.b = blkA p e (blkAt (fdAt p.funs n).blocks m) ∧
    (∀ f, funB (appP p e) f = funB p f) ∧ (funR (appP p e) e.f).vr = (fdAt p.funs n).vr ∧ funR (appP p e) e.f = ⟨(fdAt p.funs n).ar, (fdAt p.funs n).vr, .none, 0, (fdAt p.funs n).blocks.set m (blkA p e (blkAt (fdAt p.funs n).blocks m))⟩ ∧
    (∀ u : Ed, chk (appP p e) u = 0 → 3 ≤ u.op → u.f = e.f → u.b = e.b → (blkA (appP p e) u (blkA p e (blkAt (fdAt p.funs n).blocks m))).d = (blkAt (fdAt p.funs n).blocks m).d → (appP (appP p e) u).d = p.d) := by
  obtain ⟨hs, ⟨-, h7⟩, -⟩ := chk_zero h
  obtain ⟨n, hn, hn2, hfb, hfr, hfo, hin⟩ := edit_fun h (by omega)
  have hbk : blkB p e.f e.b = true := by
    rcases (by omega : (e.op = 3 ∨ e.op = 4 ∨ e.op = 5) ∨ e.op = 6 ∨ e.op = 7) with ho | ho | ho
    · exact (in3 hin ho).1
    · exact (in6 hin ho).1
    · exact (in7 hin ho).1
  obtain ⟨m, hm, hml, hbr, hlive⟩ := blkB_at hbk
  rw [hfr] at hml hbr hlive
  have hq := sane_app h
  have happ := app_blk h h3 hn hm
  obtain ⟨q, hqe⟩ : ∃ q, appP p e = q := ⟨_, rfl⟩
  rw [hqe] at hq happ ⊢
  obtain ⟨x, hx⟩ : ∃ x, blkAt (fdAt p.funs n).blocks m = x := ⟨_, rfl⟩
  obtain ⟨y, hy⟩ : ∃ y, blkA p e x = y := ⟨_, rfl⟩
  rw [hx] at happ hbr hlive
  rw [hy] at happ
  have hyl : (blkAt (fdAt p.funs n).blocks m).live = y.live := by rw [hx, ← hy, blkA_live]
  have hlen : q.funs.length = p.funs.length := by rw [happ]; simp
  have hfn : fdAt q.funs n = ⟨(fdAt p.funs n).ar, (fdAt p.funs n).vr, .none, 0, (fdAt p.funs n).blocks.set m y⟩ := by
    rw [happ]
    show fdAt (p.funs.set n _) n = _
    rw [fdAt_set, if_pos ⟨rfl, hn2⟩]
  have hfo2 : ∀ k, k ≠ n → fdAt q.funs k = fdAt p.funs k := fun k hk => by
    rw [happ]
    show fdAt (p.funs.set n _) k = _
    rw [fdAt_set, if_neg (fun h => hk h.1)]
  have hfrq : funR q e.f = fdAt q.funs n := by rw [hn]; exact (funR_in hq (by omega)).2
  have hB : ∀ t, blkB q e.f t = blkB p e.f t := fun t => by
    rw [Bool.eq_iff_iff, blkB_iff, blkB_iff, hfrq, hfn, hfr]
    exact liveAt_same hyl t
  have hbkq : blkB q e.f e.b = true := by rw [hB]; exact hbk
  have hRq : blkR q e.f e.b = y := by
    unfold blkR
    rw [hbkq, hfrq, hfn, hm]
    show blkAt ((fdAt p.funs n).blocks.set m y) _ = y
    rw [blkAt_set, if_pos ⟨by simp, hml⟩]
  have hF : ∀ f, funB q f = funB p f := fun f => by
    rw [Bool.eq_iff_iff, funB_iff hq, funB_iff hs, hlen]
  refine ⟨n, m, ?_⟩
  rw [hx, hy]
  refine ⟨hn, hm, hn2, hml, hfo, hfr, hbk, hbr, hin, hlen, hfo2, fun k => ?_, hB, hRq, hF, ?_, ?_, fun u hu hu3 huf hub hd => ?_⟩
  · by_cases hk : k = n
    · rw [hk, hfn]; exact ⟨rfl, rfl⟩
    · rw [hfo2 k hk]; exact ⟨rfl, rfl⟩
  · rw [hfrq, hfn]
  · rw [hfrq, hfn]
  · have h2 := app_blk hu hu3 (huf.trans hn) (hub.trans hm)
    rw [h2, hfn]
    have e1 : blkAt ((fdAt p.funs n).blocks.set m y) m = y := by rw [blkAt_set, if_pos ⟨rfl, hml⟩]
    rw [happ]
    show (Pg.mk .none 0 ((p.funs.set n _).set n ⟨_, _, .none, 0, ((fdAt p.funs n).blocks.set m y).set m (blkA _ u (blkAt ((fdAt p.funs n).blocks.set m y) m))⟩)).d = p.d
    rw [e1, List.set_set, List.set_set, ← happ]
    refine d_set hn2 _ ?_ _ _
    unfold Fd.d
    rw [bd_set hml _ (by rw [hd, hx])]

theorem ins_id_id (i : Ins) (z z' : Int) (h : i.id = z') : ({ ({ i with id := z } : Ins) with id := z' } : Ins) = i := by
  cases i
  simp at h
  simp [h]
theorem insAt_mem {l : List Ins} {k : Nat} (hk : k < l.length) : insAt l k ∈ l := by
  unfold insAt
  rw [List.getElem?_eq_getElem hk]
  exact List.getElem_mem hk
/-- What is undone is undone: edits of a block. -/
theorem undo_blk {p : Pg} {e : Ed} (hu : undoB p e = true) (h3 : 3 ≤ e.op) : chk (appP p e) (undoE p e) = 0 ∧ (appP (appP p e) (undoE p e)).d = p.d := by
  have hu2 := hu
  unfold undoB at hu2
  rw [Bool.and_eq_true, decide_eq_true_eq] at hu2
  obtain ⟨h, hor⟩ := hu2
  simp only [Bool.or_eq_true, decide_eq_true_eq, Bool.and_eq_true] at hor
  have hq := sane_app h
  obtain ⟨n, m, hn, hm, hn2, hml, hfo, hfr, hbk, hbr, hin, hlen, -, hav, hB, hR, hF, hvr, -, hfin⟩ := app_view h h3
  obtain ⟨x, hx⟩ : ∃ x, blkAt (fdAt p.funs n).blocks m = x := ⟨_, rfl⟩
  have hok := blkOk_at hfo hml
  have hsx := hok.2.2.1
  rw [succOk_iff, hx] at hsx
  rw [hx] at hok hbr hR hfin
  have hedge : ∀ t, edgeB p e.f e.b t = true ↔ t ∈ x.succ := fun t => by rw [edgeB_iff hfr hm hbk, hx]
  have hedgeq : ∀ t, edgeB (appP p e) e.f e.b t = decide (t ∈ (blkA p e x).succ) := fun t => by unfold edgeB; rw [hR]
  have hbq : blkB (appP p e) e.f e.b = true := by rw [hB]; exact hbk
  have hn3 : n < (appP p e).funs.length := by omega
  rcases (by omega : e.op = 3 ∨ e.op = 4 ∨ e.op = 5 ∨ e.op = 6 ∨ e.op = 7) with ho | ho | ho | ho | ho
  · obtain ⟨-, ht, -, hed, -⟩ := in3 hin (by omega)
    have hA : blkA p e x = x.with x.code (addN x.succ e.tob) := by unfold blkA; rw [if_pos ho]
    have hnt : e.tob ∉ x.succ := fun h => absurd ho (hed.1 ((hedge _).2 h))
    have hU : undoE p e = ⟨4, e.f, e.b, e.tob, 0, 0, Ins.zero⟩ := by unfold undoE; rw [if_pos hu, if_neg (by omega), if_pos ho]
    rw [hU]
    have hc : chk (appP p e) ⟨4, e.f, e.b, e.tob, 0, 0, Ins.zero⟩ = 0 := chk_of hq (by simp) (by simp) hn hn3 (of4 rfl hbq (by rw [hB]; exact ht) (by rw [hedgeq, hA]; simp [Blk.with, addN_mem]))
    refine ⟨hc, hfin _ hc (by simp) rfl rfl ?_⟩
    rw [hA]
    unfold blkA
    simp [Blk.with, Blk.d, del_add hnt]
  · obtain ⟨-, ht, -, hed, -⟩ := in3 hin (by omega)
    have hA : blkA p e x = x.with x.code (delN x.succ e.tob) := by unfold blkA; rw [if_neg (by omega), if_pos ho]
    have hnt : e.tob ∈ x.succ := (hedge _).1 (hed.2 (by omega))
    have hU : undoE p e = ⟨3, e.f, e.b, e.tob, 0, 0, Ins.zero⟩ := by unfold undoE; rw [if_pos hu, if_neg (by omega), if_neg (by omega), if_pos ho]
    rw [hU]
    have hc : chk (appP p e) ⟨3, e.f, e.b, e.tob, 0, 0, Ins.zero⟩ = 0 := chk_of hq (by simp) (by simp) hn hn3 (of3 rfl hbq (by rw [hB]; exact ht) (by rw [hedgeq, hA]; simp [Blk.with, delN_mem]))
    refine ⟨hc, hfin _ hc (by simp) rfl rfl ?_⟩
    rw [hA]
    unfold blkA
    simp [Blk.with, Blk.d, add_del hsx.1 hnt]
  · obtain ⟨-, ht, hoth, hed, hno⟩ := in3 hin (by omega)
    have hA : blkA p e x = x.with x.code (addN (delN x.succ e.tob) e.other) := by unfold blkA; rw [if_neg (by omega), if_neg (by omega), if_pos ho]
    have hin2 : e.tob ∈ x.succ := (hedge _).1 (hed.2 (by omega))
    have hnt : e.other ∉ delN x.succ e.tob := fun h => by
      obtain ⟨h1, h2⟩ := (delN_mem _ _ _).1 h
      rcases hno ho with h3 | h3
      · exact h2 h3
      · rw [(hedge _).2 h1] at h3; cases h3
    have hU : undoE p e = ⟨5, e.f, e.b, e.other, e.tob, 0, Ins.zero⟩ := by unfold undoE; rw [if_pos hu, if_neg (by omega), if_neg (by omega), if_neg (by omega), if_pos ho]
    rw [hU]
    have hc : chk (appP p e) ⟨5, e.f, e.b, e.other, e.tob, 0, Ins.zero⟩ = 0 := by
      refine chk_of hq (by simp) (by simp) hn hn3 (of5 rfl hbq (by rw [hB]; exact hoth ho) (by rw [hB]; exact ht) (by rw [hedgeq, hA]; simp [Blk.with, addN_mem]) ?_)
      by_cases he : e.tob = e.other
      · exact .inl he
      · refine .inr ?_
        rw [hedgeq, hA, decide_eq_false_iff_not]
        intro h
        rcases (addN_mem _ _ _).1 h with h | h
        · exact ((delN_mem _ _ _).1 h).2 rfl
        · exact he h
    refine ⟨hc, hfin _ hc (by simp) rfl rfl ?_⟩
    rw [hA]
    unfold blkA
    simp [Blk.with, Blk.d, del_add hnt, add_del hsx.1 hin2]
  · obtain ⟨-, hpos, ⟨hid0, hform⟩, hvars, hcall, hlen2, hidb⟩ := in6 hin ho
    rw [hbr] at hpos hlen2
    have hA : blkA p e x = x.with (putL x.code e.pos.toNat { e.i with id := newId p }) x.succ := by unfold blkA; rw [if_neg (by omega), if_neg (by omega), if_neg (by omega), if_pos ho]
    have hU : undoE p e = ⟨7, e.f, e.b, 0, 0, e.pos, Ins.zero⟩ := by unfold undoE; rw [if_pos hu, if_neg (by omega), if_neg (by omega), if_neg (by omega), if_neg (by omega), if_pos ho]
    rw [hU]
    have hc : chk (appP p e) ⟨7, e.f, e.b, 0, 0, e.pos, Ins.zero⟩ = 0 := by
      refine chk_of hq (by simp) (by simp) hn hn3 (of7 rfl hbq ?_)
      unfold atB
      show (decide (0 ≤ e.pos) && decide (e.pos < ((blkR (appP p e) e.f e.b).code.length : Int))) = true
      rw [hR, hA]
      simp [Blk.with, putL]
      omega
    refine ⟨hc, hfin _ hc (by simp) rfl rfl ?_⟩
    rw [hA]
    unfold blkA
    have := erase_put x.code e.pos.toNat { e.i with id := newId p } (by omega)
    simp [Blk.with, Blk.d, this]
  · obtain ⟨-, hat⟩ := in7 hin ho
    have hat2 := hat
    unfold atB at hat2
    rw [hbr] at hat2
    simp only [Bool.and_eq_true, decide_eq_true_eq] at hat2
    have hI : atR p e.f e.b e.pos = insAt x.code e.pos.toNat := by unfold atR; rw [if_pos hat, hbr]
    have hidn : (insAt x.code e.pos.toNat).id = newId (appP p e) := by
      rw [← hI]
      rcases hor with h | h
      · omega
      · exact h.2
    have hA : blkA p e x = x.with (x.code.eraseIdx e.pos.toNat) x.succ := by unfold blkA; rw [if_neg (by omega), if_neg (by omega), if_neg (by omega), if_neg (by omega)]
    have hU : undoE p e = ⟨6, e.f, e.b, 0, 0, e.pos, { insAt x.code e.pos.toNat with id := 0 }⟩ := by unfold undoE; rw [if_pos hu, if_neg (by omega), if_neg (by omega), if_neg (by omega), if_neg (by omega), if_neg (by omega), hI]
    rw [hU]
    obtain ⟨i, hi⟩ : ∃ i, insAt x.code e.pos.toNat = i := ⟨_, rfl⟩
    have hpl : e.pos.toNat < x.code.length := by omega
    have hio : insOk p (fdAt p.funs n) i := by rw [← hi]; exact hok.2.2.2 _ hpl
    rw [hi] at hidn ⊢
    obtain ⟨hf2, hv2⟩ := vars_id hio.1 (z := 0) (by decide) (by decide)
    have hl16 : x.code.length ≤ 16 := hok.2.1
    have hc : chk (appP p e) ⟨6, e.f, e.b, 0, 0, e.pos, { i with id := 0 }⟩ = 0 := by
      refine chk_of hq (by simp) (by simp) hn hn3 (of6 rfl hbq ?_ ⟨rfl, hf2⟩ ?_ ?_ ?_ ?_)
      · show 0 ≤ e.pos ∧ e.pos ≤ ((blkR (appP p e) e.f e.b).code.length : Int)
        rw [hR, hA]
        simp only [Blk.with, List.length_eraseIdx]
        rw [if_pos hpl]
        omega
      · show ∀ v ∈ Ins.vars { i with id := 0 }, v < (funR (appP p e) e.f).vr
        rw [hv2, hvr]
        exact hio.2.1
      · intro hk
        obtain ⟨h1, h2⟩ := hio.2.2 hk
        have hp0 : 0 ≤ i.f := by
          have := hio.1
          unfold Ins.form at this
          have h9 := this.2.2.2.2.2.2.2.2.2.1
          rw [hk] at h9
          simp only [noneB, Bool.or_eq_true, Bool.and_eq_true, decide_eq_true_eq] at h9
          omega
        have hfb : funB (appP p e) i.f = true := by
          rw [hF]
          exact (funB_iff ((chk_zero h).1) _).2 ⟨hp0, h1⟩
        refine ⟨hfb, ?_⟩
        show (funR (appP p e) i.f).ar = i.n
        unfold funR
        rw [if_pos hfb, (hav _).1]
        exact h2
      · show ((blkR (appP p e) e.f e.b).code.length : Int) < 16
        rw [hR, hA]
        simp only [Blk.with, List.length_eraseIdx]
        rw [if_pos hpl]
        omega
      · rw [idB_iff]
        refine ⟨hq, ?_⟩
        rcases newId_is (appP p e) with ⟨-, h5⟩ | ⟨h5, -⟩
        · rcases h5 with ⟨h6, -⟩ | ⟨k, hk, -, h7, -⟩
          · have := hio.1.2.2.1
            omega
          · exact ⟨k, hk, List.count_eq_zero.1 h7⟩
        · exact absurd hq h5
    refine ⟨hc, hfin _ hc (by simp) rfl rfl ?_⟩
    rw [hA]
    unfold blkA
    have h8 := put_erase x.code e.pos.toNat hpl
    rw [hi] at h8
    have h9 : ({ ({ i with id := 0 } : Ins) with id := newId (appP p e) } : Ins) = i := ins_id_id _ _ _ hidn
    rw [if_neg (by simp), if_neg (by simp), if_neg (by simp), if_pos rfl]
    simp only [Blk.with, Blk.d, h9, h8]
end Go.Proofs.YtbddjneinfkmpaaGreatDoor

namespace Go.Proofs.YtbddjneinfkmpaaGreatDoor
open Go Go.RowKit Go.Sort

theorem dB_ext {l m : List Blk} (hl : l.length = m.length) (h : ∀ k, k < l.length → (blkAt l k).d = (blkAt m k).d) : l.map Blk.d = m.map Blk.d := by
  apply List.ext_getElem
  · simpa using hl
  · intro k h1 h2
    rw [List.length_map] at h1 h2
    rw [List.getElem_map, List.getElem_map]
    have := h k h1
    unfold blkAt at this
    rwa [List.getElem?_eq_getElem h1, List.getElem?_eq_getElem h2] at this
theorem blkAt_out {l : List Blk} {k : Nat} (h : l.length ≤ k) : blkAt l k = Blk.none := by
  unfold blkAt
  rw [List.getElem?_eq_none h]
  rfl
theorem live_of_d {a b : Blk} (h : a.d = b.d) : a.live = b.live := by
  have := congrArg Blk.live h
  exact this
theorem trim_back {L l : List Blk} (hn : 0 < l.length) (hlast : (blkAt l (l.length - 1)).live = true) (hlen : l.length ≤ L.length) (h : ∀ k, (blkAt L k).d = (blkAt l k).d) : (trimL L).map Blk.d = l.map Blk.d := by
  obtain ⟨m, hm, e, hd, hv⟩ := trimL_spec L
  have h1 : l.length ≤ m := by
    rcases Nat.lt_or_ge m l.length with h1 | h1
    · have := hd (l.length - 1) (by omega)
      rw [live_of_d (h _), hlast] at this
      cases this
    · exact h1
  have h2 : m = l.length := by
    rcases Nat.lt_or_ge l.length m with h2 | h2
    · have := hv (by omega)
      rw [live_of_d (h _), blkAt_out (by omega)] at this
      cases this
    · omega
  rw [e]
  refine dB_ext (by rw [List.length_take]; omega) fun k hk => ?_
  rw [blkAt_take, if_pos (by rw [List.length_take] at hk; omega)]
  exact h k
theorem undo_new {p : Pg} {e : Ed} (h : chk p e = 0) (h1 : e.op = 1) : chk (appP p e) (undoE p e) = 0 ∧ (appP (appP p e) (undoE p e)).d = p.d := by
  obtain ⟨hs, -, -⟩ := chk_zero h
  obtain ⟨n, hn, hn2, hfb, hfr, hfo, hin⟩ := edit_fun h (by omega)
  obtain ⟨k, hk, hk12, hkl, hkn, hkj⟩ := newBlk_here hfb (in1 hin h1)
  rw [hfr] at hkl hkn hkj
  have hq := sane_app h
  have happ : appP p e = ⟨.none, 0, p.funs.set n (funA p e (fdAt p.funs n))⟩ := by
    unfold appP
    rw [if_pos h, if_neg (by omega), show e.f.toNat = n by omega]
  obtain ⟨q, hqe⟩ : ∃ q, appP p e = q := ⟨_, rfl⟩
  have hU : undoE p e = ⟨2, e.f, k, 0, 0, 0, Ins.zero⟩ := by
    have hu : undoB p e = true := by unfold undoB; simp [h, h1]
    unfold undoE
    rw [if_pos hu, if_pos h1, hk]
  rw [hU]
  rw [hqe] at hq happ ⊢
  obtain ⟨f, hf⟩ : ∃ f, fdAt p.funs n = f := ⟨_, rfl⟩
  have hfo' := hfo
  rw [hf] at hkl hkn hkj hfo happ
  obtain ⟨⟨a1, a2, a3, a4, a5, a6, a7, a8⟩, hb⟩ := hfo
  obtain ⟨l2, hl2⟩ : ∃ l2, blksA p e f.blocks = l2 := ⟨_, rfl⟩
  have hl2e : l2 = if k = f.blocks.length then f.blocks ++ [newB] else f.blocks.set k newB := by
    rw [← hl2]
    unfold blksA
    rw [if_pos h1, hk]
    by_cases hke : k = f.blocks.length
    · rw [if_pos (by rw [hke]), if_pos hke]
    · rw [if_neg (by omega), if_neg hke, Int.toNat_natCast]
  have hat : ∀ j, blkAt l2 j = if j = k then newB else blkAt f.blocks j := fun j => by
    rw [hl2e]
    split
    · rename_i hke
      rw [blkAt_append, hke]
    · rw [blkAt_set]
      by_cases hj : j = k
      · rw [if_pos hj, if_pos ⟨hj, by omega⟩]
      · rw [if_neg hj, if_neg (fun h => hj h.1)]
  have hlen2 : f.blocks.length ≤ l2.length ∧ k < l2.length := by
    rw [hl2e]
    split
    · simp; omega
    · simp; omega
  have hfA : funA p e f = ⟨f.ar, f.vr, .none, 0, l2⟩ := by unfold funA; rw [hl2]
  rw [hfA] at happ
  have hk0 : (k : Int) ≠ 0 := fun h0 => by
    refine hkn ⟨by omega, by omega, ?_⟩
    have : k = 0 := by omega
    subst this
    exact a7
  have hqn : n < q.funs.length := by rw [happ]; simpa using hn2
  have hfrq : funR q e.f = ⟨f.ar, f.vr, .none, 0, l2⟩ := by
    rw [hn, (funR_in hq hqn).2, happ]
    show fdAt (p.funs.set n _) n = _
    rw [fdAt_set, if_pos ⟨rfl, hn2⟩]
  have hbq : blkB q e.f (k : Int) = true := by
    rw [blkB_iff, hfrq]
    refine ⟨by omega, by show (k : Int) < l2.length; omega, ?_⟩
    show (blkAt l2 _).live = true
    rw [Int.toNat_natCast, hat, if_pos rfl]
    rfl
  have hc : chk q ⟨2, e.f, k, 0, 0, 0, Ins.zero⟩ = 0 := chk_of hq (by simp) (by simp) hn hqn (of2 rfl hbq hk0)
  refine ⟨hc, ?_⟩
  have h2 : appP q ⟨2, e.f, k, 0, 0, 0, Ins.zero⟩ = ⟨.none, 0, q.funs.set n (funA q ⟨2, e.f, k, 0, 0, 0, Ins.zero⟩ (fdAt q.funs n))⟩ := by
    unfold appP
    rw [if_pos hc, if_neg (by simp), show e.f.toNat = n by omega]
  have hfq : fdAt q.funs n = ⟨f.ar, f.vr, .none, 0, l2⟩ := by rw [← hfrq, hn, (funR_in hq hqn).2]
  rw [h2, hfq]
  have e3 : q.funs = p.funs.set n ⟨f.ar, f.vr, .none, 0, l2⟩ := by rw [happ]
  rw [e3, List.set_set]
  refine d_set hn2 _ ?_ _ _
  rw [hf]
  unfold funA Fd.d
  dsimp only
  congr 1
  unfold blksA
  rw [if_neg (by simp), if_pos rfl]
  dsimp only
  rw [Int.toNat_natCast]
  refine trim_back (by omega) a8 (by simpa using hlen2.1) fun j => ?_
  rw [blkAt_map _ _ rfl, blkAt_set]
  by_cases hj : j = k
  · rw [if_pos ⟨hj, hlen2.2⟩, hj]
    rcases Nat.lt_or_ge k f.blocks.length with h3 | h3
    · have hd : (blkAt f.blocks k).live = false := by
        cases hv : (blkAt f.blocks k).live
        · rfl
        · exact absurd ⟨by omega, by omega, by rw [Int.toNat_natCast]; exact hv⟩ hkn
      have h4 := (hb k h3).1 hd
      have h5 := List.eq_nil_of_length_eq_zero h4.1
      have h6 := List.eq_nil_of_length_eq_zero h4.2
      unfold Blk.d
      rw [hd, h5, h6]
      rfl
    · rw [blkAt_out h3]; rfl
  · rw [if_neg (fun h => hj h.1), hat, if_neg hj]
    rcases Nat.lt_or_ge j f.blocks.length with h3 | h3
    · have h4 : (k : Int) ∉ (blkAt f.blocks j).succ := fun h5 => hkn (((succOk_iff _ _).1 (hb j h3).2.2.1).2 _ h5)
      rw [delN_none h4]
      rfl
    · rw [blkAt_out h3]; rfl
/-- What is undone is undone. -/
theorem undo_all {p : Pg} {e : Ed} (hu : undoB p e = true) : chk (appP p e) (undoE p e) = 0 ∧ (appP (appP p e) (undoE p e)).d = p.d := by
  by_cases h1 : e.op = 1
  · refine undo_new ?_ h1
    unfold undoB at hu
    simp only [Bool.and_eq_true, decide_eq_true_eq] at hu
    exact hu.1
  · refine undo_blk hu ?_
    unfold undoB at hu
    simp only [Bool.and_eq_true, Bool.or_eq_true, decide_eq_true_eq] at hu
    omega
end Go.Proofs.YtbddjneinfkmpaaGreatDoor

namespace Go.Proofs.YtbddjneinfkmpaaGreatDoor
open Go Go.RowKit Go.Sort

theorem blkA_d (p : Pg) (e : Ed) (x : Blk) : blkA p.d e x.d = blkA p e x := by
  have hz : newId p.d = newId p := newId_of_d (Pg.d_d p)
  unfold blkA
  rw [hz]
  rfl
theorem dropWhile_dB (l : List Blk) : (l.map Blk.d).dropWhile (fun b => !b.live) = (l.dropWhile (fun b => !b.live)).map Blk.d := by
  induction l with
  | nil => rfl
  | cons b l ih =>
    rw [List.map_cons, List.dropWhile_cons, List.dropWhile_cons]
    show (if (!b.live) = true then _ else _) = _
    split
    · exact ih
    · rfl
theorem trimL_dd (l : List Blk) : trimL (l.map Blk.d) = (trimL l).map Blk.d := by
  unfold trimL
  rw [← List.map_reverse, dropWhile_dB, List.map_reverse]
theorem blksA_d (p : Pg) (e : Ed) (l : List Blk) : (blksA p.d e (l.map Blk.d)).map Blk.d = (blksA p e l).map Blk.d := by
  have hz : newBlk p.d e.f = newBlk p e.f := newBlk_of_d (Pg.d_d p) _
  unfold blksA
  rw [hz, List.length_map, blkAt_d, blkA_d]
  have h1 : ∀ (n : Nat) (g : Blk), ((l.map Blk.d).set n g).map Blk.d = (l.set n g).map Blk.d := fun n g => by
    rw [List.map_set, List.map_set, List.map_map]
    congr 1
  split
  · split
    · rw [List.map_append, List.map_append, List.map_map]
      congr 1
    · exact h1 _ _
  · split
    · rw [← trimL_dd, ← trimL_dd]
      congr 1
      rw [List.map_map, List.map_map]
      have h2 := congrArg (List.map (fun x : Blk => x.with x.code (delN x.succ e.b))) (h1 e.b.toNat Blk.none)
      rw [List.map_map, List.map_map] at h2
      exact h2
    · exact h1 _ _
theorem funA_d (p : Pg) (e : Ed) (f : Fd) : (funA p.d e f.d).d = (funA p e f).d := by
  unfold funA Fd.d
  dsimp only
  rw [blksA_d]
theorem app_d (p : Pg) (e : Ed) : (appP p.d e).d = (appP p e).d := by
  unfold appP
  rw [chk_d]
  split
  · split
    · simp only [Pg.d, List.map_append, List.map_map]
      congr 2
      refine List.map_congr_left fun f _ => ?_
      exact Fd.d_d f
    · show Pg.mk _ _ ((p.d.funs.set e.f.toNat _).map Fd.d) = Pg.mk _ _ ((p.funs.set e.f.toNat _).map Fd.d)
      have h1 : fdAt p.d.funs e.f.toNat = (fdAt p.funs e.f.toNat).d := fdAt_d _ _
      rw [List.map_set, List.map_set, h1, funA_d]
      congr 2
      show (p.funs.map Fd.d).map Fd.d = _
      rw [List.map_map]
      refine List.map_congr_left fun f _ => ?_
      exact Fd.d_d f
  · exact Pg.d_d p
theorem app_of_d {p q : Pg} (h : p.d = q.d) (e : Ed) : (appP p e).d = (appP q e).d := by rw [← app_d p, h, app_d]
theorem nodup_le : ∀ (n : Nat) (m : List Int), m.Nodup → (∀ x ∈ m, 0 ≤ x ∧ x < (n : Int)) → m.length ≤ n := by
  intro n
  induction n with
  | zero =>
    intro m _ h
    cases m with
    | nil => simp
    | cons x m => have := h x (by simp); omega
  | succ n ih =>
    intro m hm h
    by_cases hn : (n : Int) ∈ m
    · have h1 := ih (m.erase (n : Int)) (hm.erase _) (fun x hx => by
        have h2 := h x (List.mem_of_mem_erase hx)
        have h3 : x ≠ (n : Int) := fun e => by
          subst e
          exact absurd hx (hm.not_mem_erase)
        omega)
      rw [List.length_erase_of_mem hn] at h1
      omega
    · have h1 := ih m hm (fun x hx => by
        have h2 := h x hx
        have h3 : x ≠ (n : Int) := fun e => hn (e ▸ hx)
        omega)
      omega
theorem sane_few {p : Pg} (h : p.sane) : p.few := by
  refine ⟨by have := h.1; omega, fun k hk => ?_⟩
  obtain ⟨h1, h2⟩ := h.2.1 k hk
  refine ⟨by have := h1.2.2.2.2.2.1; omega, fun j hj => ?_⟩
  have h3 := h2 j hj
  refine ⟨by have := h3.2.1; omega, ?_⟩
  have h4 := ((succOk_iff _ _).1 h3.2.2.1)
  have h5 : (blkAt (fdAt p.funs k).blocks j).succ.length ≤ 12 := by
    refine nodup_le 12 _ ?_ fun x hx => ?_
    · exact h4.1.imp fun h => by omega
    · have := h4.2 x hx
      have h6 := h1.2.2.2.2.2.1
      exact ⟨this.1, by have := this.2.1; omega⟩
  omega
theorem few_app {p : Pg} (h : p.few) (e : Ed) : (appP p e).few := by
  by_cases hc : chk p e = 0
  · exact sane_few (sane_app hc)
  · rw [app_same hc]; exact h
/-- The other functions are as they were. -/
theorem app_other {p : Pg} {e : Ed} (hc : chk p e = 0) (k : Nat) (hk : k < p.funs.length) (hne : e.op = 0 ∨ e.f ≠ k) : fdAt (appP p e).funs k = fdAt p.funs k := by
  unfold appP
  rw [if_pos hc]
  split
  · show fdAt (p.funs ++ _) k = _
    rw [fdAt_append, if_neg (by omega)]
  · rename_i h0
    obtain ⟨n, hn, -⟩ := edit_fun hc h0
    show fdAt (p.funs.set _ _) k = _
    rw [fdAt_set, if_neg (fun h => by omega)]
/-- Edges behind an edit of one. -/
theorem app_edges {p : Pg} {e : Ed} (hc : chk p e = 0) (h3 : e.op = 3 ∨ e.op = 4 ∨ e.op = 5) :
    (e.op = 3 → edgeB (appP p e) e.f e.b e.tob = true) ∧ (e.op = 4 → edgeB (appP p e) e.f e.b e.tob = false) ∧
    (e.op = 5 → edgeB (appP p e) e.f e.b e.other = true ∧ (e.other ≠ e.tob → edgeB (appP p e) e.f e.b e.tob = false)) ∧
    ∀ b t : Int, ¬ (b = e.b ∧ (t = e.tob ∨ (e.op = 5 ∧ t = e.other))) → edgeB (appP p e) e.f b t = edgeB p e.f b t := by
  obtain ⟨n, m, hn, hm, hn2, hml, hfo, hfr, hbk, hbr, hin, hlen, hfo2, hav, hB, hR, hF, hvr, hfrq, -⟩ := app_view hc (by omega)
  have hq : ∀ t, edgeB (appP p e) e.f e.b t = decide (t ∈ (blkA p e (blkAt (fdAt p.funs n).blocks m)).succ) := fun t => by
    unfold edgeB
    rw [hR]
  have hp : ∀ t, edgeB p e.f e.b t = decide (t ∈ (blkAt (fdAt p.funs n).blocks m).succ) := fun t => by
    unfold edgeB
    rw [hbr]
  have hi3 := in3 hin h3
  obtain ⟨x, hx⟩ : ∃ x, blkAt (fdAt p.funs n).blocks m = x := ⟨_, rfl⟩
  rw [hx] at hq hp
  have hA : (blkA p e x).succ = if e.op = 3 then addN x.succ e.tob else if e.op = 4 then delN x.succ e.tob else addN (delN x.succ e.tob) e.other := by
    unfold blkA
    rcases h3 with h | h | h
    · rw [if_pos h, if_pos h]; rfl
    · rw [if_neg (by omega), if_pos h, if_neg (by omega), if_pos h]; rfl
    · rw [if_neg (by omega), if_neg (by omega), if_pos h, if_neg (by omega), if_neg (by omega)]; rfl
  refine ⟨fun h => ?_, fun h => ?_, fun h => ⟨?_, fun hne => ?_⟩, fun b t hno => ?_⟩
  · rw [hq, hA, if_pos h]; simp [addN_mem]
  · rw [hq, hA, if_neg (by omega), if_pos h]; simp [delN_mem]
  · rw [hq, hA, if_neg (by omega), if_neg (by omega)]; simp [addN_mem]
  · rw [hq, hA, if_neg (by omega), if_neg (by omega), decide_eq_false_iff_not, addN_mem, delN_mem]
    rintro (⟨-, h4⟩ | h4)
    · exact h4 rfl
    · exact hne h4.symm
  · by_cases hb : b = e.b
    · subst hb
      rw [hq, hp, hA, decide_eq_decide]
      have h4 : t ≠ e.tob := fun h => hno ⟨rfl, .inl h⟩
      split
      · rw [addN_mem]
        exact ⟨fun h => h.resolve_right h4, .inl⟩
      · split
        · rw [delN_mem]
          exact ⟨fun h => h.1, fun h => ⟨h, h4⟩⟩
        · have h5 : t ≠ e.other := fun h => hno ⟨rfl, .inr ⟨by omega, h⟩⟩
          rw [addN_mem, delN_mem]
          exact ⟨fun h => (h.resolve_right h5).1, fun h => .inl ⟨h, h4⟩⟩
    · unfold edgeB
      have : blkR (appP p e) e.f b = blkR p e.f b := by
        unfold blkR
        rw [hB, hfrq, hfr]
        split
        · rename_i h6
          obtain ⟨j, hj, -⟩ := blkB_at h6
          show blkAt ((fdAt p.funs n).blocks.set m _) _ = _
          rw [blkAt_set, if_neg (fun h => by omega)]
        · rfl
      rw [this]
/-- An edit that may be changes a program, but one that rewires an edge to where it goes. -/
theorem app_same_iff {p : Pg} {e : Ed} (hc : chk p e = 0) (h5 : e.op = 5) (he : e.other = e.tob) : (appP p e).d = p.d := by
  obtain ⟨n, m, hn, hm, hn2, hml, hfo, hfr, hbk, hbr, hin, -⟩ := app_view hc (by omega)
  rw [app_blk hc (by omega) hn hm]
  refine d_set hn2 _ ?_ _ _
  unfold Fd.d
  dsimp only
  congr 1
  refine bd_set hml _ ?_
  have hx : Rises (blkAt (fdAt p.funs n).blocks m).succ := ((succOk_iff _ _).1 (blkOk_at hfo hml).2.2.1).1
  have hi := in3 hin (by omega)
  have hmem : e.tob ∈ (blkAt (fdAt p.funs n).blocks m).succ := (edgeB_iff hfr hm hbk _).1 (hi.2.2.2.1.2 (by omega))
  unfold blkA
  rw [if_neg (by omega), if_neg (by omega), if_pos h5, he, add_del hx hmem]
  rfl
end Go.Proofs.YtbddjneinfkmpaaGreatDoor
