/- ApP: several texts in one: ApL ApN ApA ApB ApC ApD ApE ApF. -/
import Derived.Test.YtbddjneinfkmpaaGreatDoorBase
import Derived.WalkKit
import Derived.Below
import Derived.Lib.QuietBelow
import Derived.WalkSmall
import Derived.Laws.AppendOwn
import Derived.Laws.OwnMore
import Derived.Laws.CopyRow
import Derived.Deep.RegionWith
import Derived.Test.YtbddjneinfkmpaaGreatDoorAppG
import Derived.Test.YtbddjneinfkmpaaGreatDoorPiA
import Derived.Test.YtbddjneinfkmpaaGreatDoorInts
import Derived.Test.YtbddjneinfkmpaaGreatDoorBoxL
import Derived.Deep.RegionLaw
import Derived.Laws.MakeOwn

namespace Go.Proofs.YtbddjneinfkmpaaGreatDoor
open Go Go.RowKit Go.Sort

/-- Cells that are read, one behind the other. -/
def RowIs (B : Nat) (W : World) (a : Option Addr) (cs : List Value) : Prop :=
  ∀ j v, cs[j]? = some v → ∃ b o, a = some ⟨b, o, none⟩ ∧ b < B ∧ W.cell? ⟨b, o + j, none⟩ = some v
theorem RowIs.below {B : Nat} {W W' : World} {a : Option Addr} {cs : List Value} (h : RowIs B W a cs) (hb : Below B W W') : RowIs B W' a cs :=
  fun j v hj => let ⟨b, o, e, hlt, hc⟩ := h j v hj; ⟨b, o, e, hlt, (hb.cell (p := ⟨b, o + j, none⟩) hlt).trans hc⟩
theorem RowIs.mono {B B' : Nat} {W : World} {a : Option Addr} {cs : List Value} (h : RowIs B W a cs) (hb : B ≤ B') : RowIs B' W a cs :=
  fun j v hj => let ⟨b, o, e, hlt, hc⟩ := h j v hj; ⟨b, o, e, Nat.lt_of_lt_of_le hlt hb, hc⟩
theorem RowIs.on {w W : World} {a : Option Addr} {cs : List Value} (h : RowIs w.heap.size w a cs) (hb : Below w.heap.size w W) : RowIs W.heap.size W a cs := (h.below hb).mono hb.size
theorem RowIs.take {B : Nat} {W : World} {a : Option Addr} {cs : List Value} (h : RowIs B W a cs) (k : Nat) : RowIs B W a (cs.take k) := fun j v hj => by
  rw [List.getElem?_take] at hj
  split at hj
  · exact h j v hj
  · cases hj
/-- From the k-th cell on. -/
theorem RowIs.drop {B : Nat} {W : World} {b o : Nat} {cs : List Value} (h : RowIs B W (some ⟨b, o, none⟩) cs) (k : Nat) : RowIs B W (some ⟨b, o + k, none⟩) (cs.drop k) := fun j v hj => by
  rw [List.getElem?_drop] at hj
  obtain ⟨b', o', e, hlt, hc⟩ := h _ v hj
  cases e
  exact ⟨b, o + k, rfl, hlt, by rw [Nat.add_assoc]; exact hc⟩
theorem RowIs.nil (B : Nat) (W : World) (a : Option Addr) : RowIs B W a [] := fun j v hj => by simp at hj
theorem RowIs.cells {B : Nat} {W : World} {b o : Nat} {cs : List Value} (h : RowIs B W (some ⟨b, o, none⟩) cs) : ∀ j v, cs[j]? = some v → W.cell? ((⟨b, o, none⟩ : Addr).add j) = some v := fun j v hj => by
  obtain ⟨b', o', e, hlt, hc⟩ := h j v hj
  cases e
  have hadd : (⟨b, o, none⟩ : Addr).add j = ⟨b, o + j, none⟩ := by unfold Addr.add; split <;> simp_all
  rw [hadd]
  exact hc
/-- A slice as it may be. -/
def wfS (a : Option Addr) (n cap : Nat) : Prop := n ≤ cap ∧ (a = none → cap = 0)
/-- What was told lies where it lay, or is new. -/
def farS (B : Nat) (a a' : Option Addr) : Prop := ∀ p, a' = some p → a = some p ∨ B ≤ p.block
/-- A row of one's own is read. -/
theorem row_of_owns {n0 : Nat} {W : World} {u : Value} {cs : List Value} {e : TypeId} {size T : Nat} (h : W.ownsRow n0 e size u T cs) : ∃ a cap, u = .slice a T cap ∧ RowIs W.heap.size W a cs ∧ wfS a T cap ∧ ∀ p, a = some p → n0 ≤ p.block := by
  have hc := fun g (hg : u.ownBlock = some g) => h.cells hg
  have hlt := h.lt
  obtain ⟨hlen, ⟨rfl, h0⟩ | ⟨g, cap, cur, rfl, hbg, hgc, hnc, hrest⟩⟩ := h
  · subst h0
    refine ⟨none, 0, rfl, fun j v hj => ?_, ⟨Nat.le_refl _, fun _ => rfl⟩, fun p hp => by cases hp⟩
    have : cs = [] := List.eq_nil_of_length_eq_zero (by simpa using hlen)
    subst this
    simp at hj
  · refine ⟨_, _, rfl, fun j v hj => ⟨g, 0, rfl, (hlt g rfl).2, ?_⟩, ⟨hnc, fun h => by cases h⟩, fun p hp => by cases hp; exact hbg⟩
    have := hc g rfl j v hj
    have hadd : (⟨g, 0, none⟩ : Addr).add j = ⟨g, 0 + j, none⟩ := by unfold Addr.add; split <;> simp_all
    rwa [hadd] at this

section
variable {P : Program} (w : World)

/-- append to a slice without room: a row of one's own. -/
theorem run_append_full (t ty e : TypeId) (i : TypeInfo) (z : Value) (size bytes : Nat) (ht : P.underlying t = some (.slice e)) (hi : P.info? e = some i) (hz : i.zero = some z)
    (hsize : i.size = size) (hby : i.bytes = bytes) (hzs : z.cells.size = size) (hsz : 0 < size)
    (ad : Option Addr) (k : Nat) (olds : List Value) (ho : olds.length = k * size) (hr : RowIs w.heap.size w ad olds) (had : ad = none → k = 0)
    (a : Addr) (n c : Nat) (news : List Value) (hl : news.length = n * size) (hnews : ∀ j u, news[j]? = some u → w.cell? (a.add j) = some u) (hn : 0 < n)
    (h63 : k + n ≤ maxLen) (hbytes : (k + n) * bytes ≤ 140737488355328) :
    ∃ v' w', (Builtin.append_ #[t, t] ty #[.slice ad k k, .slice (some a) n c]).run P w = .ok v' w' ∧ w'.ownsRow w.heap.size e size v' (k + n) (olds ++ news) ∧ w.grownBy w' none := by
  subst hsize
  subst hby
  have hsmall : k + n ≤ 9223372036854775807 := by simp only [maxLen] at h63; omega
  have hlen : (olds ++ news).length = (k + n) * i.size := by rw [List.length_append, ho, hl, Nat.add_mul]
  have hge := grownCap_ge w (k + n) k e
  have own : ∀ cs : Array Value, cs = olds.toArray ++ news.toArray ++ Builtin.zeroCells z.cells (grownCap w (k + n) k e - (k + n)) →
      (w.drew.alloc (.cells cs e)).ownsRow w.heap.size e i.size (.slice (some ⟨w.heap.size, 0, none⟩) (k + n) (grownCap w (k + n) k e)) (k + n) (olds ++ news) ∧ w.grownBy (w.drew.alloc (.cells cs e)) none := fun cs hcs => by
    refine ⟨⟨hlen, .inr ⟨w.heap.size, _, cs, rfl, Nat.le_refl _, heap_alloc_new w.drew _, hge, grownCap_le_maxLen w _ _ e h63, ?_, ?_⟩⟩, rfl, rfl, rfl, by simp, fun j hj _ => heap_alloc_old w.drew _ hj⟩
    · rw [hcs]
      simp only [Array.size_append, List.size_toArray, size_zeroCells, hzs, ho, hl, ← Nat.add_mul]
      rw [Nat.add_sub_cancel' hge]
    · rw [hcs, ← hlen]
      simp only [Array.toList_append]
      exact List.take_left
  cases ad with
  | none =>
    obtain rfl := had rfl
    have : olds = [] := List.eq_nil_of_length_eq_zero (by simpa using ho)
    subst this
    have hrun := run_append_nil (P := P) w t ty e i z ht hi hz a n c news hl hnews hn (by omega) (by simp only [Nat.zero_add] at hbytes; omega)
    have := own _ rfl
    simp only [Nat.zero_add, List.nil_append, Array.empty_append] at this ⊢
    exact ⟨_, _, hrun, this.1, this.2⟩
  | some p =>
    have hp : ∀ j v, olds[j]? = some v → w.cell? (p.add j) = some v := fun j v hj => by
      obtain ⟨b, o, e, -, -⟩ := hr j v hj
      cases e
      exact hr.cells j v hj
    have hrun := run_append_grow (P := P) w t ty e i z ht hi hz p k k olds ho hp a n c news hl hnews (by omega) (by omega) (growslice_fits (by omega) hbytes)
    have := own _ rfl
    exact ⟨_, _, hrun, this.1, this.2⟩
/-- append to a row of one's own, whatever is appended. -/
theorem run_append_row (base : Nat) (t ty e : TypeId) (i : TypeInfo) (z : Value) (size bytes : Nat) (ht : P.underlying t = some (.slice e)) (hi : P.info? e = some i) (hz : i.zero = some z)
    (hsize : i.size = size) (hby : i.bytes = bytes) (hzs : z.cells.size = size) (hsz : 0 < size)
    (v : Value) (n : Nat) (xs : List Value) (hown : w.ownsRow base e size v n xs)
    (A : Option Addr) (m c : Nat) (news : List Value) (hl : news.length = m * size) (hr : RowIs w.heap.size w A news) (hA : A = none → m = 0 ∧ c = 0) (h1 : ∀ u ∈ news, u.oneCell' = true)
    (h63 : n + m ≤ maxLen) (hbytes : (n + m) * bytes ≤ 140737488355328) (hbase : base ≤ w.heap.size) :
    ∃ v' w', (Builtin.append_ #[t, t] ty #[v, .slice A m c]).run P w = .ok v' w' ∧ w'.ownsRow base e size v' (n + m) (xs ++ news) ∧ w.grownBy w' v.ownBlock := by
  cases A with
  | none =>
    obtain ⟨rfl, rfl⟩ := hA rfl
    have : news = [] := List.eq_nil_of_length_eq_zero (by simpa using hl)
    subst this
    rw [List.append_nil, Nat.add_zero]
    have hrun := run_append_owned_none (P := P) w base t ty e i size ht hi v n xs hown
    exact ⟨_, _, hrun, hown, World.grownBy.refl _ _⟩
  | some p =>
    have hp : ∀ j v, news[j]? = some v → w.cell? (p.add j) = some v := fun j v hj => by
      obtain ⟨b, o, e, -, -⟩ := hr j v hj
      cases e
      exact hr.cells j v hj
    obtain ⟨v', w', a1, a2, a3, -⟩ := run_append_own (P := P) w base t ty e i z size bytes ht hi hz hsize hby hzs hsz v n xs hown p m c news hl hp h1 h63 hbytes hbase
    exact ⟨v', w', a1, a2, a3⟩

/-- A step of a region that draws, by a law of the operation. -/
theorem step_of_wp {ops : Array Oper} {o : Oper} {a : Act} {w : World} {K : Act → World → Prop} {Q : Exit → Act → World → Prop} {E : Prop} (hg : o.guard = none) (h : Oper.wp P o a w K Q) :
    if Region.wanted o (yielded ops a.tmps) = true then Oper.wp P o a w K Q else E := by
  have hw : Region.wanted o (yielded ops a.tmps) = true := by simp [Region.wanted, hg]
  rw [if_pos hw]
  exact h
theorem wp_append_full {w : World} {o : Oper} {a : Act} {K : Act → World → Prop} {Q : Exit → Act → World → Prop} (s x : Operand) (t : TypeId)
    (hop : o.op = .call { callee := .builtin .append, args := #[s, x], argTypes := #[t, t] })
    (e : TypeId) (i : TypeInfo) (z : Value) (size bytes : Nat) (ht : P.underlying t = some (.slice e)) (hi : P.info? e = some i) (hz : i.zero = some z)
    (hsize : i.size = size) (hby : i.bytes = bytes) (hzs : z.cells.size = size) (hsz : 0 < size)
    (ad : Option Addr) (k : Nat) (olds : List Value) (hs : a.eval s = .slice ad k k) (ho : olds.length = k * size) (hr : RowIs w.heap.size w ad olds) (had : ad = none → k = 0)
    (pa : Addr) (n c : Nat) (news : List Value) (hx : a.eval x = .slice (some pa) n c) (hl : news.length = n * size) (hnews : ∀ j u, news[j]? = some u → w.cell? (pa.add j) = some u) (hn : 0 < n)
    (h63 : k + n ≤ maxLen) (hbytes : (k + n) * bytes ≤ 140737488355328)
    (h : ∀ v' w', w'.ownsRow w.heap.size e size v' (k + n) (olds ++ news) → w.grownBy w' none → K (a.put o.dst v') w') : o.wp P a w K Q := by
  obtain ⟨v', w', hrun, h2, h3⟩ := run_append_full (P := P) w t o.type e i z size bytes ht hi hz hsize hby hzs hsz ad k olds ho hr had pa n c news hl hnews hn h63 hbytes
  unfold Oper.wp execOp
  simp only [hop, resolve, invoke, builtin, Sem.run_bind, Sem.run_pure, Result.andThen_ok, List.map_toArray, List.map_cons, List.map_nil, hs, hx, hrun]
  exact h v' w' h2 h3
theorem wp_append_row {w : World} {o : Oper} {a : Act} {K : Act → World → Prop} {Q : Exit → Act → World → Prop} (s x : Operand) (t : TypeId)
    (hop : o.op = .call { callee := .builtin .append, args := #[s, x], argTypes := #[t, t] })
    (base : Nat) (e : TypeId) (i : TypeInfo) (z : Value) (size bytes : Nat) (ht : P.underlying t = some (.slice e)) (hi : P.info? e = some i) (hz : i.zero = some z)
    (hsize : i.size = size) (hby : i.bytes = bytes) (hzs : z.cells.size = size) (hsz : 0 < size)
    (v : Value) (n : Nat) (xs : List Value) (hs : a.eval s = v) (hown : w.ownsRow base e size v n xs)
    (A : Option Addr) (m c : Nat) (news : List Value) (hx : a.eval x = .slice A m c) (hl : news.length = m * size) (hr : RowIs w.heap.size w A news) (hA : A = none → m = 0 ∧ c = 0) (h1 : ∀ u ∈ news, u.oneCell' = true)
    (h63 : n + m ≤ maxLen) (hbytes : (n + m) * bytes ≤ 140737488355328) (hbase : base ≤ w.heap.size)
    (h : ∀ v' w', w'.ownsRow base e size v' (n + m) (xs ++ news) → w.grownBy w' v.ownBlock → K (a.put o.dst v') w') : o.wp P a w K Q := by
  obtain ⟨v', w', hrun, h2, h3⟩ := run_append_row (P := P) w base t o.type e i z size bytes ht hi hz hsize hby hzs hsz v n xs hown A m c news hl hr hA h1 h63 hbytes hbase
  unfold Oper.wp execOp
  simp only [hop, resolve, invoke, builtin, Sem.run_bind, Sem.run_pure, Result.andThen_ok, List.map_toArray, List.map_cons, List.map_nil, hs, hx, hrun]
  exact h v' w' h2 h3
/-- append of nothing to a slice without room. -/
theorem wp_append_nothing {w : World} {o : Oper} {a : Act} {K : Act → World → Prop} {Q : Exit → Act → World → Prop} (s x : Operand) (t : TypeId)
    (hop : o.op = .call { callee := .builtin .append, args := #[s, x], argTypes := #[t, t] })
    (e : TypeId) (i : TypeInfo) (ht : P.underlying t = some (.slice e)) (hi : P.info? e = some i)
    (p : Addr) (k : Nat) (hs : a.eval s = .slice (some p) k k) (xa : Option Addr) (xc : Nat) (hx : a.eval x = .slice xa 0 xc)
    (h : K (a.put o.dst (.slice (some p) k k)) w) : o.wp P a w K Q := by
  have hrun : (Builtin.append_ #[t, t] o.type #[.slice (some p) k k, .slice xa 0 xc]).run P w = .ok (.slice (some p) k k) w := by
    cases xa <;> simp [Builtin.append_, run_underlying ht, sizeOf, typeInfo, hi, Builtin.lenOf, Builtin.firstCells, loadCells, loadCellsFrom, storeCells]
  unfold Oper.wp execOp
  simp only [hop, resolve, invoke, builtin, Sem.run_bind, Sem.run_pure, Result.andThen_ok, List.map_toArray, List.map_cons, List.map_nil, hs, hx, hrun]
  exact h
/-- copy of a whole slice into a row that was just made. -/
theorem run_copy_whole (w : World) (dT sT ty e : TypeId) (i : TypeInfo) (size : Nat) (hu : P.underlying dT = some (.slice e)) (hi : P.info? e = some i) (hsize : i.size = size)
    (g n dCap sCap : Nat) (p : Addr) (cur : Array Value) (t : TypeId) (hg : w.heap[g]? = some (.cells cur t (0, 0))) (hcur : cur.size = n * size) (cs : List Value) (hl : cs.length = n * size)
    (hp : ∀ j v, cs[j]? = some v → w.cell? (p.add j) = some v) (h1 : ∀ v ∈ cs, v.oneCell' = true) :
    (Builtin.copy_ #[dT, sT] ty #[.slice (some ⟨g, 0, none⟩) n dCap, .slice (some p) n sCap]).run P w = .ok (goInt n) (w.setRow g cs.toArray) := by
  have hl2 := run_loadCells_list (P := P) w p cs hp
  have hst := run_storeCells_at P g 0 t cs 0 cur w hg (by omega) h1
  have e0 : cur.toList.take (0 + 0) ++ cs ++ cur.toList.drop (0 + 0 + cs.length) = cs := by
    rw [List.drop_of_length_le (by rw [Array.length_toList]; omega)]
    simp
  rw [e0] at hst
  subst hsize
  rw [hl] at hl2
  simp [Builtin.copy_, run_underlying hu, Builtin.lenOf, Builtin.firstCells, sizeOf, typeInfo, hi, hl2, hst]
theorem wpList_copy_whole {w : World} {ops : Array Oper} {rest : List Oper} {o : Oper} {a : Act} {Q : Exit → Act → World → Prop} (hgd : o.guard = none) (d s : Operand) (dT sT : TypeId)
    (ho : o.op = .call { callee := .builtin .copy, args := #[d, s], argTypes := #[dT, sT] }) (e : TypeId) (i : TypeInfo) (size : Nat) (hu : P.underlying dT = some (.slice e)) (hi : P.info? e = some i) (hsize : i.size = size)
    (g n dCap sCap : Nat) (p : Addr) (hd : a.eval d = .slice (some ⟨g, 0, none⟩) n dCap) (hs : a.eval s = .slice (some p) n sCap) (cur : Array Value) (t : TypeId) (hg : w.heap[g]? = some (.cells cur t (0, 0))) (hcur : cur.size = n * size) (cs : List Value) (hl : cs.length = n * size)
    (hp : ∀ j v, cs[j]? = some v → w.cell? (p.add j) = some v) (h1 : ∀ v ∈ cs, v.oneCell' = true)
    (h : ∀ w', w'.heap[g]? = some (.cells cs.toArray t (0, 0)) → w.grownBy w' (some g) → wpList P ops Q rest (a.put o.dst (goInt n)) w') : wpList P ops Q (o :: rest) a w := by
  refine wpList_plain hgd fun K hK => ?_
  have hrun := run_copy_whole (P := P) w dT sT o.type e i size hu hi hsize g n dCap sCap p cur t hg hcur cs hl hp h1
  unfold Oper.wp
  simp [execOp, ho, resolve, invoke, builtin, hd, hs, hrun, Result.andThen]
  exact hK _ _ (h _ (setRow_heap w g cur _ t _ hg) ⟨rfl, rfl, rfl, by simp [World.setRow], fun k hk hne => setRow_other w g k _ (fun e => hne (by simp [e]))⟩)
end
end Go.Proofs.YtbddjneinfkmpaaGreatDoor

namespace Go.Proofs.YtbddjneinfkmpaaGreatDoor
open Go Go.RowKit Go.Sort

def Blk.wf (b : Blk) : Prop := wfS b.ca b.code.length b.cc ∧ wfS b.sa b.succ.length b.sc
def Fd.wf (f : Fd) : Prop := wfS f.ba f.blocks.length f.bc ∧ ∀ b ∈ f.blocks, b.wf
def Pg.wf (p : Pg) : Prop := wfS p.pa p.funs.length p.pc ∧ ∀ f ∈ p.funs, f.wf
def brow (l : List Blk) : List Value := l.flatMap Blk.cells
def frow (l : List Fd) : List Value := l.flatMap Fd.cells
theorem brow_length (l : List Blk) : (brow l).length = l.length * 3 := by
  induction l with
  | nil => rfl
  | cons b l ih => simp only [brow, List.flatMap_cons, List.length_append] at ih ⊢; rw [ih]; simp [Blk.cells]; omega
theorem frow_length (l : List Fd) : (frow l).length = l.length * 3 := by
  induction l with
  | nil => rfl
  | cons b l ih => simp only [frow, List.flatMap_cons, List.length_append] at ih ⊢; rw [ih]; simp [Fd.cells]; omega
theorem brow_one (l : List Blk) : ∀ u ∈ brow l, u.oneCell' = true := by
  intro u hu
  obtain ⟨b, -, hb⟩ := List.mem_flatMap.1 hu
  simp only [Blk.cells, List.mem_cons, List.not_mem_nil, or_false] at hb
  rcases hb with rfl | rfl | rfl <;> rfl
theorem frow_one (l : List Fd) : ∀ u ∈ frow l, u.oneCell' = true := by
  intro u hu
  obtain ⟨b, -, hb⟩ := List.mem_flatMap.1 hu
  simp only [Fd.cells, List.mem_cons, List.not_mem_nil, or_false] at hb
  rcases hb with rfl | rfl | rfl <;> rfl
theorem brow_at : ∀ (l : List Blk) (j t : Nat), j < l.length → t < 3 → (brow l)[j * 3 + t]? = (blkAt l j).cells[t]? := by
  intro l
  induction l with
  | nil => intro j t hj; simp at hj
  | cons b l ih =>
    intro j t hj ht
    show (b.cells ++ brow l)[j * 3 + t]? = _
    have h3 : b.cells.length = 3 := rfl
    cases j with
    | zero => rw [Nat.zero_mul, Nat.zero_add, List.getElem?_append_left (by omega)]; rfl
    | succ j =>
      rw [List.getElem?_append_right (by omega), h3, show (j + 1) * 3 + t - 3 = j * 3 + t by omega, ih j t (by simp at hj; omega) ht]
      rfl
theorem frow_at : ∀ (l : List Fd) (j t : Nat), j < l.length → t < 3 → (frow l)[j * 3 + t]? = (fdAt l j).cells[t]? := by
  intro l
  induction l with
  | nil => intro j t hj; simp at hj
  | cons b l ih =>
    intro j t hj ht
    show (b.cells ++ frow l)[j * 3 + t]? = _
    have h3 : b.cells.length = 3 := rfl
    cases j with
    | zero => rw [Nat.zero_mul, Nat.zero_add, List.getElem?_append_left (by omega)]; rfl
    | succ j =>
      rw [List.getElem?_append_right (by omega), h3, show (j + 1) * 3 + t - 3 = j * 3 + t by omega, ih j t (by simp at hj; omega) ht]
      rfl
/-- Blocks that are read, as a row. -/
theorem row_of_blks {B : Nat} {W : World} {a : Option Addr} {l : List Blk} (h : BlksIs B W a l) : RowIs B W a (brow l) := fun j v hj => by
  have hlen := brow_length l
  have hj2 : j < l.length * 3 := by rw [← hlen]; exact (List.getElem?_eq_some_iff.1 hj).1
  obtain ⟨q, r, hr, rfl⟩ : ∃ q r, r < 3 ∧ j = q * 3 + r := ⟨j / 3, j % 3, by omega, by omega⟩
  obtain ⟨b, o, e, hlt, c0, c1, c2, -⟩ := h q (by omega)
  refine ⟨b, o, e, hlt, ?_⟩
  rw [brow_at l q r (by omega) hr] at hj
  rcases (by omega : r = 0 ∨ r = 1 ∨ r = 2) with rfl | rfl | rfl
  · cases hj; exact c0
  · cases hj; exact c1
  · cases hj; exact c2
theorem blks_of_row {B : Nat} {W : World} {a : Option Addr} {l : List Blk} (h : RowIs B W a (brow l)) (hk : ∀ j, j < l.length → BlkIs B W (blkAt l j)) : BlksIs B W a l := fun j hj => by
  obtain ⟨b, o, e, hlt, c0⟩ := h (j * 3 + 0) _ (brow_at l j 0 hj (by omega))
  obtain ⟨b1, o1, e1, -, c1⟩ := h (j * 3 + 1) _ (brow_at l j 1 hj (by omega))
  obtain ⟨b2, o2, e2, -, c2⟩ := h (j * 3 + 2) _ (brow_at l j 2 hj (by omega))
  rw [e] at e1 e2
  cases e1
  cases e2
  exact ⟨b, o, e, hlt, c0, c1, c2, hk j hj⟩
theorem row_of_code {B : Nat} {W : World} {a : Option Addr} {l : List Ins} (h : CodeIs B W a l) : RowIs B W a (flat l) := fun j v hj => by
  have hlen := flat_length l
  have hj2 : j < l.length * 11 := by rw [← hlen]; exact (List.getElem?_eq_some_iff.1 hj).1
  obtain ⟨b, o, e, hlt, hc⟩ := h (j / 11) (by omega)
  refine ⟨b, o, e, hlt, ?_⟩
  have e3 : j = j / 11 * 11 + j % 11 := by omega
  rw [e3, flat_at l (j / 11) (j % 11) (by omega) (by omega)] at hj
  rw [← hj]
  have := hc (j % 11) (by omega)
  rw [Nat.add_assoc, ← e3] at this
  exact this
theorem code_of_row {B : Nat} {W : World} {a : Option Addr} {l : List Ins} (h : RowIs B W a (flat l)) : CodeIs B W a l := fun j hj => by
  obtain ⟨b, o, e, hlt, -⟩ := h (j * 11 + 0) _ (flat_at l j 0 hj (by omega))
  refine ⟨b, o, e, hlt, fun t ht => ?_⟩
  have e2 := flat_at l j t hj ht
  have hl : t < (insAt l j).cells.length := ht
  rw [List.getElem?_eq_getElem hl] at e2 ⊢
  obtain ⟨b', o', e', -, c⟩ := h _ _ e2
  rw [e] at e'
  cases e'
  rw [← Nat.add_assoc] at c
  exact c
theorem row_of_nums {B : Nat} {W : World} {a : Option Addr} {l : List Int} (h : Is B W a l) : RowIs B W a (l.map (Value.int .i64)) := fun j v hj => by
  rw [List.getElem?_map] at hj
  cases hl : l[j]? with
  | none => rw [hl] at hj; cases hj
  | some x =>
    rw [hl] at hj
    cases hj
    obtain ⟨b, o, e, hlt, hc⟩ := h j (List.getElem?_eq_some_iff.1 hl).1
    rw [hl] at hc
    exact ⟨b, o, e, hlt, hc⟩
theorem nums_of_row {B : Nat} {W : World} {a : Option Addr} {l : List Int} (h : RowIs B W a (l.map (Value.int .i64))) : Is B W a l := fun j hj => by
  obtain ⟨b, o, e, hlt, hc⟩ := h j (.int .i64 l[j]) (by simp [hj])
  refine ⟨b, o, e, hlt, ?_⟩
  rw [hc, List.getElem?_eq_getElem hj]
  rfl
theorem brow_take (l : List Blk) (k : Nat) : (brow l).take (k * 3) = brow (l.take k) := by
  induction l generalizing k with
  | nil => simp [brow]
  | cons b l ih =>
    cases k with
    | zero => simp [brow]
    | succ k =>
      show (b.cells ++ brow l).take _ = b.cells ++ brow (l.take k)
      rw [List.take_append, List.take_of_length_le (by show 3 ≤ _; omega), show (k + 1) * 3 - b.cells.length = k * 3 by show (k + 1) * 3 - 3 = _; omega, ih]
theorem brow_drop (l : List Blk) (k : Nat) : (brow l).drop (k * 3) = brow (l.drop k) := by
  induction l generalizing k with
  | nil => simp [brow]
  | cons b l ih =>
    cases k with
    | zero => simp [brow]
    | succ k =>
      show (b.cells ++ brow l).drop _ = brow (l.drop k)
      rw [List.drop_append, List.drop_of_length_le (by show 3 ≤ _; omega), show (k + 1) * 3 - b.cells.length = k * 3 by show (k + 1) * 3 - 3 = _; omega, ih]
      rfl
theorem flat_take (l : List Ins) (k : Nat) : (flat l).take (k * 11) = flat (l.take k) := by
  induction l generalizing k with
  | nil => simp [flat]
  | cons b l ih =>
    cases k with
    | zero => simp [flat]
    | succ k =>
      show (b.cells ++ flat l).take _ = b.cells ++ flat (l.take k)
      rw [List.take_append, List.take_of_length_le (by show 11 ≤ _; omega), show (k + 1) * 11 - b.cells.length = k * 11 by show (k + 1) * 11 - 11 = _; omega, ih]
theorem flat_drop (l : List Ins) (k : Nat) : (flat l).drop (k * 11) = flat (l.drop k) := by
  induction l generalizing k with
  | nil => simp [flat]
  | cons b l ih =>
    cases k with
    | zero => simp [flat]
    | succ k =>
      show (b.cells ++ flat l).drop _ = flat (l.drop k)
      rw [List.drop_append, List.drop_of_length_le (by show 11 ≤ _; omega), show (k + 1) * 11 - b.cells.length = k * 11 by show (k + 1) * 11 - 11 = _; omega, ih]
      rfl
theorem set3 {A D : List Value} {c0 c1 c2 y0 y1 y2 : Value} {m : Nat} (hA : A.length = m) : (((A ++ ([c0, c1, c2] ++ D)).set m y0).set (m + 1) y1).set (m + 2) y2 = A ++ ([y0, y1, y2] ++ D) := by
  subst hA
  rw [List.set_append_right _ _ (Nat.le_refl _), Nat.sub_self, List.set_append_right _ _ (by omega), show A.length + 1 - A.length = 1 by omega, List.set_append_right _ _ (by omega), show A.length + 2 - A.length = 2 by omega]
  rfl
theorem brow_set {l : List Blk} {k : Nat} (hk : k < l.length) (b : Blk) : (((brow l).set (k * 3) (.bool b.live)).set (k * 3 + 1) (.slice b.ca b.code.length b.cc)).set (k * 3 + 2) (.slice b.sa b.succ.length b.sc) = brow (l.set k b) := by
  have e1 : brow l = brow (l.take k) ++ ((blkAt l k).cells ++ brow (l.drop (k + 1))) := by
    conv => lhs; rw [blkAt_split hk]
    simp [brow]
  have e2 : brow (l.set k b) = brow (l.take k) ++ (b.cells ++ brow (l.drop (k + 1))) := by
    rw [bset_split hk]
    simp [brow]
  rw [e1, e2]
  exact set3 (by rw [brow_length, List.length_take]; omega)
theorem frow_set {l : List Fd} {k : Nat} (hk : k < l.length) (b : Fd) : (((frow l).set (k * 3) (.int .i64 b.ar)).set (k * 3 + 1) (.int .i64 b.vr)).set (k * 3 + 2) (.slice b.ba b.blocks.length b.bc) = frow (l.set k b) := by
  have e1 : frow l = frow (l.take k) ++ ((fdAt l k).cells ++ frow (l.drop (k + 1))) := by
    conv => lhs; rw [fdAt_split hk]
    simp [frow]
  have e2 : frow (l.set k b) = frow (l.take k) ++ (b.cells ++ frow (l.drop (k + 1))) := by
    rw [fset_split hk]
    simp [frow]
  rw [e1, e2]
  exact set3 (by rw [frow_length, List.length_take]; omega)
/-- Functions that are read, as a row. -/
theorem row_of_prog {B : Nat} {W : World} {p : Pg} (h : PgIs B W p) : RowIs B W p.pa (frow p.funs) := fun j v hj => by
  have hlen := frow_length p.funs
  have hj2 : j < p.funs.length * 3 := by rw [← hlen]; exact (List.getElem?_eq_some_iff.1 hj).1
  obtain ⟨q, r, hr, rfl⟩ : ∃ q r, r < 3 ∧ j = q * 3 + r := ⟨j / 3, j % 3, by omega, by omega⟩
  obtain ⟨b, o, e, hlt, c0, c1, c2, -⟩ := h q (by omega)
  refine ⟨b, o, e, hlt, ?_⟩
  rw [frow_at p.funs q r (by omega) hr] at hj
  rcases (by omega : r = 0 ∨ r = 1 ∨ r = 2) with rfl | rfl | rfl
  · cases hj; exact c0
  · cases hj; exact c1
  · cases hj; exact c2
theorem prog_of_row {B : Nat} {W : World} {p : Pg} (h : RowIs B W p.pa (frow p.funs)) (hk : ∀ j, j < p.funs.length → FdIs B W (fdAt p.funs j)) : PgIs B W p := fun j hj => by
  obtain ⟨b, o, e, hlt, c0⟩ := h (j * 3 + 0) _ (frow_at p.funs j 0 hj (by omega))
  obtain ⟨b1, o1, e1, -, c1⟩ := h (j * 3 + 1) _ (frow_at p.funs j 1 hj (by omega))
  obtain ⟨b2, o2, e2, -, c2⟩ := h (j * 3 + 2) _ (frow_at p.funs j 2 hj (by omega))
  rw [e] at e1 e2
  cases e1
  cases e2
  exact ⟨b, o, e, hlt, c0, c1, c2, hk j hj⟩
end Go.Proofs.YtbddjneinfkmpaaGreatDoor

namespace Go.Proofs.YtbddjneinfkmpaaGreatDoor
open Go Go.RowKit Go.Sort

/-- How many of them are below one. -/
def posN (l : List Int) (n : Int) : Nat := (l.takeWhile (fun x => decide (x < n))).length
def RisesB (l : List Int) : Prop := l.Pairwise (· < ·)
def atN (l : List Int) (k : Nat) : Int := l[k]?.getD 0
theorem posN_le (l : List Int) (n : Int) : posN l n ≤ l.length := (List.takeWhile_sublist _).length_le
theorem posN_lt {l : List Int} (h : RisesB l) (n : Int) : ∀ k, k < l.length → (atN l k < n ↔ k < posN l n) := by
  induction l with
  | nil => intro k hk; simp at hk
  | cons x l ih =>
    unfold RisesB at h
    rw [List.pairwise_cons] at h
    intro k hk
    unfold posN
    rw [List.takeWhile_cons]
    by_cases hx : x < n
    · rw [decide_eq_true hx, if_pos rfl, List.length_cons]
      cases k with
      | zero => simp [atN, hx]
      | succ k =>
        have := ih h.2 k (by simp at hk; omega)
        show atN l k < n ↔ _
        rw [this]
        unfold posN
        omega
    · rw [decide_eq_false hx, if_neg (by decide)]
      constructor
      · intro h2
        exfalso
        cases k with
        | zero => exact hx h2
        | succ k =>
          have hk2 : k < l.length := by simp at hk; omega
          have h3 : x < atN l k := by
            unfold atN
            rw [List.getElem?_eq_getElem hk2]
            exact h.1 _ (List.getElem_mem hk2)
          have h4 : atN l k < n := h2
          omega
      · intro h2; simp at h2
theorem posN_mem {l : List Int} (h : RisesB l) (n : Int) : n ∈ l ↔ posN l n < l.length ∧ atN l (posN l n) = n := by
  constructor
  · intro hm
    obtain ⟨k, hk, e⟩ := List.getElem_of_mem hm
    have e2 : atN l k = n := by unfold atN; rw [List.getElem?_eq_getElem hk]; exact e
    have h1 : ¬ k < posN l n := fun h2 => by have := (posN_lt h n k hk).2 h2; omega
    have hp : posN l n ≤ k := by omega
    have hp2 : posN l n < l.length := by omega
    refine ⟨hp2, ?_⟩
    rcases Nat.lt_or_eq_of_le hp with h3 | h3
    · have h4 : ¬ atN l (posN l n) < n := fun h5 => absurd ((posN_lt h n _ hp2).1 h5) (Nat.lt_irrefl _)
      have h5 : atN l (posN l n) < atN l k := by
        unfold atN
        rw [List.getElem?_eq_getElem hp2, List.getElem?_eq_getElem hk]
        exact (List.pairwise_iff_getElem.1 h) _ _ hp2 hk h3
      omega
    · rw [h3]; exact e2
  · rintro ⟨h1, h2⟩
    unfold atN at h2
    rw [List.getElem?_eq_getElem h1] at h2
    exact h2 ▸ List.getElem_mem h1

set_option maxHeartbeats 1000000 in
theorem isNaN_any (n : Int) (w : World) :
    Calls Tryz.prog 168 #[.int .i64 n] w fun e w' => e = .returned (.bool false) ∧ w' = w := by
  go_enter Tryz.func168, Tryz.ntmps168
  go_wp2
  go_ret
  exact ⟨ret_bool (by simp), rfl⟩
set_option maxHeartbeats 1000000 in
theorem isNaNs_any (n : Int) (w : World) :
    Calls Tryz.prog 176 #[.int .i64 n] w fun e w' => e = .returned (.bool false) ∧ w' = w := by
  go_enter Tryz.func176, Tryz.ntmps176
  go_wp2
  go_ret
  exact ⟨ret_bool (by simp), rfl⟩
set_option maxHeartbeats 1000000 in
theorem less_any (m n : Int) (w : World) :
    Calls Tryz.prog 138 #[.int .i64 m, .int .i64 n] w fun e w' => e = .returned (.bool (decide (m < n))) ∧ w' = w := by
  go_enter Tryz.func138, Tryz.ntmps138
  go_wp2_with (go_at_call 168; refine (isNaN_any _ _).mono ?_; rintro e w' ⟨rfl, rfl⟩)
  go_ret
  exact ⟨ret_bool (by first | rfl | simp), rfl⟩

set_option maxRecDepth 100000 in
set_option maxHeartbeats 4000000 in
theorem BinarySearch_any (a : Option Addr) (l : List Int) (cap : Nat) (n : Int) (w : World) (hI : Is w.heap.size w a l) (hr : RisesB l) (hl : l.length ≤ 1000) :
    Calls Tryz.prog 171 #[.slice a l.length cap, .int .i64 n] w fun e w' => e = .returned (.tuple #[.int .i64 (posN l n : Nat), .bool (decide (n ∈ l))]) ∧ w' = w := by
  have HP := Lib.hid (posN_lt hr n)
  have HM := Lib.hid (posN_mem hr n)
  have hple := posN_le l n
  obtain ⟨P, hP⟩ : ∃ P, posN l n = P := ⟨_, rfl⟩
  rw [hP] at HP HM hple ⊢
  obtain ⟨L, hL⟩ : ∃ L, l.length = L := ⟨_, rfl⟩
  have HL := Lib.hid hL
  rw [hL] at HP HM hple hl ⊢
  have HI := Lib.hid hI
  clear hP hr hL hI
  go_enter Tryz.func171, Tryz.ntmps171
  go_wp2_with fail
  go_loop [7, 8, 9] (fun i j _ => ∃ p q : Nat, p ≤ P ∧ P ≤ q ∧ q ≤ L ∧ i = .int .i64 p ∧ j = .int .i64 q) (fun i j _ => (intOf j).toNat - (intOf i).toNat)
  case atStart => exact ⟨0, L, Nat.zero_le _, hple, Nat.le_refl _, rfl, rfl⟩
  case round =>
    obtain ⟨p, q, hp, hq, hqL, rfl, rfl⟩ := hrel
    by_cases hlt : p < q
    · have hpq : (p : Int) < (q : Int) := by omega
      go_upto_region 5 with fail
      obtain ⟨h, hh⟩ : ∃ h : Nat, (p + q) / 2 = h := ⟨_, rfl⟩
      have hc : ((p : Int) + (q : Int)) / 2 = (h : Int) := by omega
      have hhp : p ≤ h := by omega
      have hhq : h < q := by omega
      have hhL : h < L := by omega
      have hhi : (h : Int) < (L : Int) := by omega
      simp only [hc]
      clear hc hh
      obtain ⟨b, o, rfl, hb, hcell⟩ := HI.out h (by rw [HL.out]; exact hhL)
      have hPh := HP.out h hhL
      unfold atN at hPh
      obtain ⟨y, hy⟩ : ∃ y, l[h]?.getD 0 = y := ⟨_, rfl⟩
      rw [hy] at hcell hPh
      clear hy hb
      by_cases hyn : y < n
      · have hyb : decide (y < n) = true := decide_eq_true hyn
        have hhP : h < P := hPh.1 hyn
        clear hPh
        go_wp2_with (go_at_call 138; refine (less_any y n _).mono ?_; rintro e w' ⟨rfl, rfl⟩; rw [hyb])
        refine ⟨⟨h + 1, q, by omega, hq, hqL, by go_num, rfl⟩, by simp [intOf]; omega⟩
      · have hyb : decide (y < n) = false := decide_eq_false hyn
        have hhP : P ≤ h := Nat.not_lt.1 (fun h2 => hyn (hPh.2 h2))
        clear hPh
        go_wp2_with (go_at_call 138; refine (less_any y n _).mono ?_; rintro e w' ⟨rfl, rfl⟩; rw [hyb])
        refine ⟨⟨p, h, hp, hhP, by omega, rfl, rfl⟩, by simp [intOf]; omega⟩
    · obtain rfl : p = P := by omega
      obtain rfl : q = p := by omega
      by_cases hpL : q < L
      · have hqi : (q : Int) < (L : Int) := by omega
        obtain ⟨b, o, rfl, hb, hcell⟩ := HI.out q (by rw [HL.out]; exact hpL)
        have hM := HM.out
        unfold atN at hM
        obtain ⟨y, hy⟩ : ∃ y, l[q]?.getD 0 = y := ⟨_, rfl⟩
        rw [hy] at hcell hM
        clear hy hb
        by_cases hyn : y = n
        · subst hyn
          have HB : Hid (decide (y ∈ l) = true) := Lib.hid (decide_eq_true (hM.2 ⟨hpL, rfl⟩))
          clear hM
          go_wp2_with (go_at_call 176; refine (isNaNs_any _ _).mono ?_; rintro e w' ⟨rfl, rfl⟩)
          go_ret2
          exact ⟨by rw [HB.out]; rfl, rfl⟩
        · have hyb : (y == n) = false := beq_false_of_ne hyn
          have HB : Hid (decide (n ∈ l) = false) := Lib.hid (decide_eq_false (fun h => hyn (hM.1 h).2))
          clear hM
          go_wp2_with (go_at_call 176; refine (isNaNs_any _ _).mono ?_; rintro e w' ⟨rfl, rfl⟩)
          go_ret2
          exact ⟨by rw [HB.out]; rfl, rfl⟩
      · have hqi : ¬ (q : Int) < (L : Int) := by omega
        have HB : Hid (decide (n ∈ l) = false) := Lib.hid (decide_eq_false (fun h => hpL (HM.out.1 h).1))
        go_wp2_with (go_at_call 176; refine (isNaNs_any _ _).mono ?_; rintro e w' ⟨rfl, rfl⟩)
        go_ret2
        exact ⟨by rw [HB.out]; rfl, rfl⟩
end Go.Proofs.YtbddjneinfkmpaaGreatDoor

namespace Go.Proofs.YtbddjneinfkmpaaGreatDoor
open Go Go.RowKit Go.Sort

theorem parts_of {i? : Option TypeInfo} {z : Value} {s b : Nat} (h : i?.map (fun i => (i.zero, i.size, i.bytes)) = some (some z, s, b)) : ∃ i, i? = some i ∧ i.zero = some z ∧ i.size = s ∧ i.bytes = b := by
  obtain ⟨i, hi, h2⟩ := Option.map_eq_some_iff.1 h
  simp only [Prod.mk.injEq] at h2
  exact ⟨i, hi, h2.1, h2.2.1, h2.2.2⟩
theorem new_src (w : World) (cs : List Value) (t : TypeId) : ∀ j u, cs[j]? = some u → ((w.alloc (.cells cs.toArray t)).drew).cell? ((⟨w.heap.size, 0, none⟩ : Addr).add j) = some u := fun j u hj => by
  have hadd : (⟨w.heap.size, 0, none⟩ : Addr).add j = ⟨w.heap.size, j, none⟩ := by unfold Addr.add; split <;> simp_all
  rw [hadd]
  exact (BoxL.new w cs t j u hj).1
theorem below_ad (w : World) (o : Obj) : Below w.heap.size w ((w.alloc o).drew) := ((Below.refl _ _).alloc (Nat.le_refl _) _).drew
theorem size_ad (w : World) (o : Obj) : ((w.alloc o).drew).heap.size = w.heap.size + 1 := by show (w.alloc o).heap.size = _; rw [World.size_alloc]
theorem below_gr {w W W' : World} (hb : Below w.heap.size w W) (hg : W.grownBy W' none) : Below w.heap.size w W' := hb.grown hg hb.size (fun k hk => by cases hk)

theorem info_ins : (Tryz.prog.info? 40).map (fun i => (i.zero, i.size, i.bytes)) = some (some (.agg #[.int .i64 0, .int .i64 0, .int .i64 0, .int .i64 0, .int .i64 0, .int .i64 0, .int .i64 0, .int .i64 0, .int .i64 0, .int .i64 0, .int .i64 0]), 11, 88) := by kernel_rfl
theorem info_fun : (Tryz.prog.info? 29).map (fun i => (i.zero, i.size, i.bytes)) = some (some (.agg #[.int .i64 0, .int .i64 0, .slice none 0 0]), 3, 40) := by kernel_rfl
theorem info_blk : (Tryz.prog.info? 35).map (fun i => (i.zero, i.size, i.bytes)) = some (some (.agg #[.bool false, .slice none 0 0, .slice none 0 0]), 3, 56) := by kernel_rfl
set_option maxRecDepth 100000 in
set_option maxHeartbeats 4000000 in
theorem cut_intE (b o : Nat) (cs : List Value) (k k1 : Nat) (w : World) (hr : RowIs w.heap.size w (some ⟨b, o, none⟩) cs) (hl : cs.length = k1 * 1) (hn : k1 ≤ 1000) (hk1 : k + 1 = k1) :
    Calls Tryz.prog 172 #[.slice (some ⟨b, o, none⟩) k1 k1, .int .i64 (k : Nat)] w fun e w' => (∃ a' cap', e = .returned (.slice a' k cap') ∧ RowIs w'.heap.size w' a' (cs.take (k * 1) ++ cs.drop (k1 * 1)) ∧ wfS a' k cap' ∧ farS w.heap.size (some ⟨b, o, none⟩) a') ∧ Below w.heap.size w w' := by
  obtain ⟨i0, hi, hz0, hz1, hz2⟩ := parts_of info3
  have HR := Lib.hid hr
  have HL := Lib.hid hl
  have HW1 : Hid (IntKind.i64.wrap ((k : Int) + 1) = (k1 : Int)) := Lib.hid (by rw [IntKind.wrap_i64]; omega)
  have HK := Lib.hid hk1
  have hk00 : (0 : Int) ≤ (k1 : Int) := by omega
  have hki : (k : Int) ≤ (k1 : Int) := by omega
  have hw1 := HW1.out
  clear hr hl hk1 HW1
  go_enter Tryz.func172, Tryz.ntmps172
  go_wp2_with fail
  go_region_law (fail)
  go_wp2_with fail
  go_ret
  refine ⟨⟨_, _, rfl, ?_, ⟨Nat.le_refl _, fun h => by cases h⟩, fun p hp => .inl hp⟩, (Below.refl _ _).drew⟩
  rw [List.drop_of_length_le (Nat.le_of_eq HL.out), List.append_nil]
  exact (HR.out.take _).on (Below.refl _ _).drew

set_option maxRecDepth 100000 in
set_option maxHeartbeats 4000000 in
theorem cut_intS (b o : Nat) (cs : List Value) (cap k k1 : Nat) (w : World) (hr : RowIs w.heap.size w (some ⟨b, o, none⟩) cs) (hl : cs.length = k1 * 1) (hn : k1 ≤ 1000) (hc : k1 ≤ cap) (hck : ¬ cap = k1) (hk1 : k + 1 = k1) :
    Calls Tryz.prog 172 #[.slice (some ⟨b, o, none⟩) k1 cap, .int .i64 (k : Nat)] w fun e w' => (∃ a' cap', e = .returned (.slice a' k cap') ∧ RowIs w'.heap.size w' a' (cs.take (k * 1) ++ cs.drop (k1 * 1)) ∧ wfS a' k cap' ∧ farS w.heap.size (some ⟨b, o, none⟩) a') ∧ Below w.heap.size w w' := by
  obtain ⟨i0, hi, hz0, hz1, hz2⟩ := parts_of info3
  have HR := Lib.hid hr
  have HL := Lib.hid hl
  have HW1 : Hid (IntKind.i64.wrap ((k : Int) + 1) = (k1 : Int)) := Lib.hid (by rw [IntKind.wrap_i64]; omega)
  have HK := Lib.hid hk1
  have hk00 : (0 : Int) ≤ (k1 : Int) := by omega
  have hki : (k1 : Int) ≤ (cap : Int) := by omega
  have hki2 : (k : Int) ≤ (cap : Int) := by omega
  have hw1 := HW1.out
  clear hr hl hk1 HW1
  go_enter Tryz.func172, Tryz.ntmps172
  go_wp2_with fail
  go_region_law (fail)
  go_wp2_with fail
  go_ret
  refine ⟨⟨_, _, rfl, ?_, ⟨Nat.le_refl _, fun h => by cases h⟩, fun p hp => .inl hp⟩, (Below.refl _ _).drew⟩
  rw [List.drop_of_length_le (Nat.le_of_eq HL.out), List.append_nil]
  exact (HR.out.take _).on (Below.refl _ _).drew

set_option maxRecDepth 100000 in
set_option maxHeartbeats 4000000 in
theorem cut_intM (b o : Nat) (cs : List Value) (n cap k k1 : Nat) (w : World) (hr : RowIs w.heap.size w (some ⟨b, o, none⟩) cs) (hl : cs.length = n * 1) (hn : n ≤ 1000) (hkn : k1 < n) (hc : n ≤ cap) (hk1 : k + 1 = k1) :
    Calls Tryz.prog 172 #[.slice (some ⟨b, o, none⟩) n cap, .int .i64 (k : Nat)] w fun e w' => (∃ a' cap', e = .returned (.slice a' (n - 1) cap') ∧ RowIs w'.heap.size w' a' (cs.take (k * 1) ++ cs.drop (k1 * 1)) ∧ wfS a' (n - 1) cap' ∧ farS w.heap.size (some ⟨b, o, none⟩) a') ∧ Below w.heap.size w w' := by
  obtain ⟨i0, hi, hz0, hz1, hz2⟩ := parts_of info3
  have HR := Lib.hid hr
  have HL := Lib.hid hl
  have HW1 : Hid (IntKind.i64.wrap ((k : Int) + 1) = (k1 : Int)) := Lib.hid (by rw [IntKind.wrap_i64]; omega)
  have HK := Lib.hid hk1
  have hk00 : (0 : Int) ≤ (k1 : Int) := by omega
  have hki : (k1 : Int) ≤ (cap : Int) := by omega
  have hki1 : (k1 : Int) ≤ (n : Int) := by omega
  have hki2 : (k : Int) ≤ (cap : Int) := by omega
  have hck : ¬ cap = k1 := by omega
  have HBD := Lib.hid (show Below w.heap.size w w.drew from (Below.refl _ _).drew)
  have hdr : RowIs w.drew.heap.size w.drew (some ⟨b, o + k1, none⟩) (cs.drop (k1 * 1)) := by have h := HR.out.drop (k1 * 1); rw [Nat.mul_one] at h ⊢; exact h
  have HDR := Lib.hid hdr.cells
  have HT : Hid ((cs.take (k * 1)).length = k * 1) := Lib.hid (by have h := @List.length_take _ (k * 1) cs; rw [hl] at h; omega)
  have HU : Hid ((cs.drop (k1 * 1)).length = (n - k1) * 1) := Lib.hid (by have h := @List.length_drop _ (k1 * 1) cs; rw [hl] at h; omega)
  have HV : Hid (k + (n - k1) ≤ 1000 ∧ 0 < n - k1 ∧ k + (n - k1) = n - 1) := Lib.hid (by omega)
  have HM := Lib.hid (show k + (n - k1) ≤ maxLen by simp only [maxLen]; omega)
  have HM2 := Lib.hid (show (k + (n - k1)) * 8 ≤ 140737488355328 by omega)
  have hw1 := HW1.out
  clear hdr hr hl hk1 HW1
  go_enter Tryz.func172, Tryz.ntmps172
  go_wp2_with fail
  go_region_law (refine step_of_wp rfl ?_; refine wp_append_full (.tmp 8) (.tmp 12) 33 rfl 3 i0 (.int .i64 0) 1 8 Tryz.underlying33 hi hz0 hz1 hz2 rfl (by decide) (some ⟨b, o, none⟩) k (cs.take (k * 1)) (by simp [Act.eval, Act.put]) HT.out ((HR.out.take _).on HBD.out) (fun h => by cases h) ⟨b, o + k1, none⟩ (n - k1) (cap - k1) (cs.drop (k1 * 1)) (by simp [Act.eval, Act.put]) HU.out HDR.out HV.out.2.1 HM.out HM2.out ?_; intro v1 w1 hown1 hg1)
  go_wp2_with fail
  go_ret
  obtain ⟨a', cap', rfl, hrow, hwf, hfar⟩ := row_of_owns hown1
  exact ⟨⟨a', cap', (by rw [HV.out.2.2]; rfl), hrow, (by rwa [HV.out.2.2] at hwf), fun p hp => .inr (hfar p hp)⟩, below_gr ((Below.refl _ _).drew) hg1⟩

theorem cut_int (a : Option Addr) (cs : List Value) (n cap k k1 : Nat) (w : World) (hr : RowIs w.heap.size w a cs) (hl : cs.length = n * 1) (hn : n ≤ 1000) (hk : k < n) (hc : n ≤ cap) (hk1 : k + 1 = k1) :
    Calls Tryz.prog 172 #[.slice a n cap, .int .i64 (k : Nat)] w fun e w' => (∃ a' cap', e = .returned (.slice a' (n - 1) cap') ∧ RowIs w'.heap.size w' a' (cs.take (k * 1) ++ cs.drop (k1 * 1)) ∧ wfS a' (n - 1) cap' ∧ farS w.heap.size a a') ∧ Below w.heap.size w w' := by
  have hj : 0 < cs.length := by rw [hl]; omega
  obtain ⟨b, o, rfl, -, -⟩ := hr 0 cs[0] (by simp [hj])
  by_cases hkn : k1 = n
  · subst hkn
    rw [show k1 - 1 = k by omega]
    by_cases hck : cap = k1
    · subst hck
      exact cut_intE b o cs k cap w hr hl hn hk1
    · exact cut_intS b o cs cap k k1 w hr hl hn hc hck hk1
  · exact cut_intM b o cs n cap k k1 w hr hl hn (by omega) hc hk1

set_option maxRecDepth 100000 in
set_option maxHeartbeats 4000000 in
theorem cut_insE (b o : Nat) (cs : List Value) (k k1 : Nat) (w : World) (hr : RowIs w.heap.size w (some ⟨b, o, none⟩) cs) (hl : cs.length = k1 * 11) (hn : k1 ≤ 1000) (hk1 : k + 1 = k1) :
    Calls Tryz.prog 153 #[.slice (some ⟨b, o, none⟩) k1 k1, .int .i64 (k : Nat)] w fun e w' => (∃ a' cap', e = .returned (.slice a' k cap') ∧ RowIs w'.heap.size w' a' (cs.take (k * 11) ++ cs.drop (k1 * 11)) ∧ wfS a' k cap' ∧ farS w.heap.size (some ⟨b, o, none⟩) a') ∧ Below w.heap.size w w' := by
  obtain ⟨i0, hi, hz0, hz1, hz2⟩ := parts_of info_ins
  have HR := Lib.hid hr
  have HL := Lib.hid hl
  have HW1 : Hid (IntKind.i64.wrap ((k : Int) + 1) = (k1 : Int)) := Lib.hid (by rw [IntKind.wrap_i64]; omega)
  have HK := Lib.hid hk1
  have hk00 : (0 : Int) ≤ (k1 : Int) := by omega
  have hki : (k : Int) ≤ (k1 : Int) := by omega
  have hw1 := HW1.out
  clear hr hl hk1 HW1
  go_enter Tryz.func153, Tryz.ntmps153
  go_wp2_with fail
  go_region_law (fail)
  go_wp2_with fail
  go_ret
  refine ⟨⟨_, _, rfl, ?_, ⟨Nat.le_refl _, fun h => by cases h⟩, fun p hp => .inl hp⟩, (Below.refl _ _).drew⟩
  rw [List.drop_of_length_le (Nat.le_of_eq HL.out), List.append_nil]
  exact (HR.out.take _).on (Below.refl _ _).drew

set_option maxRecDepth 100000 in
set_option maxHeartbeats 4000000 in
theorem cut_insS (b o : Nat) (cs : List Value) (cap k k1 : Nat) (w : World) (hr : RowIs w.heap.size w (some ⟨b, o, none⟩) cs) (hl : cs.length = k1 * 11) (hn : k1 ≤ 1000) (hc : k1 ≤ cap) (hck : ¬ cap = k1) (hk1 : k + 1 = k1) :
    Calls Tryz.prog 153 #[.slice (some ⟨b, o, none⟩) k1 cap, .int .i64 (k : Nat)] w fun e w' => (∃ a' cap', e = .returned (.slice a' k cap') ∧ RowIs w'.heap.size w' a' (cs.take (k * 11) ++ cs.drop (k1 * 11)) ∧ wfS a' k cap' ∧ farS w.heap.size (some ⟨b, o, none⟩) a') ∧ Below w.heap.size w w' := by
  obtain ⟨i0, hi, hz0, hz1, hz2⟩ := parts_of info_ins
  have HR := Lib.hid hr
  have HL := Lib.hid hl
  have HW1 : Hid (IntKind.i64.wrap ((k : Int) + 1) = (k1 : Int)) := Lib.hid (by rw [IntKind.wrap_i64]; omega)
  have HK := Lib.hid hk1
  have hk00 : (0 : Int) ≤ (k1 : Int) := by omega
  have hki : (k1 : Int) ≤ (cap : Int) := by omega
  have hki2 : (k : Int) ≤ (cap : Int) := by omega
  have hw1 := HW1.out
  clear hr hl hk1 HW1
  go_enter Tryz.func153, Tryz.ntmps153
  go_wp2_with fail
  go_region_law (fail)
  go_wp2_with fail
  go_ret
  refine ⟨⟨_, _, rfl, ?_, ⟨Nat.le_refl _, fun h => by cases h⟩, fun p hp => .inl hp⟩, (Below.refl _ _).drew⟩
  rw [List.drop_of_length_le (Nat.le_of_eq HL.out), List.append_nil]
  exact (HR.out.take _).on (Below.refl _ _).drew

set_option maxRecDepth 100000 in
set_option maxHeartbeats 4000000 in
theorem cut_insM (b o : Nat) (cs : List Value) (n cap k k1 : Nat) (w : World) (hr : RowIs w.heap.size w (some ⟨b, o, none⟩) cs) (hl : cs.length = n * 11) (hn : n ≤ 1000) (hkn : k1 < n) (hc : n ≤ cap) (hk1 : k + 1 = k1) :
    Calls Tryz.prog 153 #[.slice (some ⟨b, o, none⟩) n cap, .int .i64 (k : Nat)] w fun e w' => (∃ a' cap', e = .returned (.slice a' (n - 1) cap') ∧ RowIs w'.heap.size w' a' (cs.take (k * 11) ++ cs.drop (k1 * 11)) ∧ wfS a' (n - 1) cap' ∧ farS w.heap.size (some ⟨b, o, none⟩) a') ∧ Below w.heap.size w w' := by
  obtain ⟨i0, hi, hz0, hz1, hz2⟩ := parts_of info_ins
  have HR := Lib.hid hr
  have HL := Lib.hid hl
  have HW1 : Hid (IntKind.i64.wrap ((k : Int) + 1) = (k1 : Int)) := Lib.hid (by rw [IntKind.wrap_i64]; omega)
  have HK := Lib.hid hk1
  have hk00 : (0 : Int) ≤ (k1 : Int) := by omega
  have hki : (k1 : Int) ≤ (cap : Int) := by omega
  have hki1 : (k1 : Int) ≤ (n : Int) := by omega
  have hki2 : (k : Int) ≤ (cap : Int) := by omega
  have hck : ¬ cap = k1 := by omega
  have HBD := Lib.hid (show Below w.heap.size w w.drew from (Below.refl _ _).drew)
  have hdr : RowIs w.drew.heap.size w.drew (some ⟨b, o + k1 * 11, none⟩) (cs.drop (k1 * 11)) := HR.out.drop (k1 * 11)
  have HDR := Lib.hid hdr.cells
  have HT : Hid ((cs.take (k * 11)).length = k * 11) := Lib.hid (by have h := @List.length_take _ (k * 11) cs; rw [hl] at h; omega)
  have HU : Hid ((cs.drop (k1 * 11)).length = (n - k1) * 11) := Lib.hid (by have h := @List.length_drop _ (k1 * 11) cs; rw [hl] at h; omega)
  have HV : Hid (k + (n - k1) ≤ 1000 ∧ 0 < n - k1 ∧ k + (n - k1) = n - 1) := Lib.hid (by omega)
  have HM := Lib.hid (show k + (n - k1) ≤ maxLen by simp only [maxLen]; omega)
  have HM2 := Lib.hid (show (k + (n - k1)) * 88 ≤ 140737488355328 by omega)
  have hw1 := HW1.out
  clear hdr hr hl hk1 HW1
  go_enter Tryz.func153, Tryz.ntmps153
  go_wp2_with fail
  go_region_law (refine step_of_wp rfl ?_; refine wp_append_full (.tmp 8) (.tmp 12) 32 rfl 40 i0 (.agg #[.int .i64 0, .int .i64 0, .int .i64 0, .int .i64 0, .int .i64 0, .int .i64 0, .int .i64 0, .int .i64 0, .int .i64 0, .int .i64 0, .int .i64 0]) 11 88 Tryz.underlying32 hi hz0 hz1 hz2 rfl (by decide) (some ⟨b, o, none⟩) k (cs.take (k * 11)) (by simp [Act.eval, Act.put]) HT.out ((HR.out.take _).on HBD.out) (fun h => by cases h) ⟨b, o + k1 * 11, none⟩ (n - k1) (cap - k1) (cs.drop (k1 * 11)) (by simp [Act.eval, Act.put]) HU.out HDR.out HV.out.2.1 HM.out HM2.out ?_; intro v1 w1 hown1 hg1)
  go_wp2_with fail
  go_ret
  obtain ⟨a', cap', rfl, hrow, hwf, hfar⟩ := row_of_owns hown1
  exact ⟨⟨a', cap', (by rw [HV.out.2.2]; rfl), hrow, (by rwa [HV.out.2.2] at hwf), fun p hp => .inr (hfar p hp)⟩, below_gr ((Below.refl _ _).drew) hg1⟩

theorem cut_ins (a : Option Addr) (cs : List Value) (n cap k k1 : Nat) (w : World) (hr : RowIs w.heap.size w a cs) (hl : cs.length = n * 11) (hn : n ≤ 1000) (hk : k < n) (hc : n ≤ cap) (hk1 : k + 1 = k1) :
    Calls Tryz.prog 153 #[.slice a n cap, .int .i64 (k : Nat)] w fun e w' => (∃ a' cap', e = .returned (.slice a' (n - 1) cap') ∧ RowIs w'.heap.size w' a' (cs.take (k * 11) ++ cs.drop (k1 * 11)) ∧ wfS a' (n - 1) cap' ∧ farS w.heap.size a a') ∧ Below w.heap.size w w' := by
  have hj : 0 < cs.length := by rw [hl]; omega
  obtain ⟨b, o, rfl, -, -⟩ := hr 0 cs[0] (by simp [hj])
  by_cases hkn : k1 = n
  · subst hkn
    rw [show k1 - 1 = k by omega]
    by_cases hck : cap = k1
    · subst hck
      exact cut_insE b o cs k cap w hr hl hn hk1
    · exact cut_insS b o cs cap k k1 w hr hl hn hc hck hk1
  · exact cut_insM b o cs n cap k k1 w hr hl hn (by omega) hc hk1

set_option maxRecDepth 100000 in
set_option maxHeartbeats 4000000 in
theorem put_intN (cs : List Value) (y0 : Int) (w : World) (hr : RowIs w.heap.size w none cs) (hl : cs.length = 0 * 1) (h1 : ∀ u ∈ cs, u.oneCell' = true)  :
    Calls Tryz.prog 173 #[.slice none 0 0, .int .i64 (0 : Nat), .int .i64 y0] w fun e w' => (∃ a' cap', e = .returned (.slice a' (0 + 1) cap') ∧ RowIs w'.heap.size w' a' (cs.take (0 * 1) ++ ([.int .i64 y0] ++ cs.drop (0 * 1))) ∧ wfS a' (0 + 1) cap' ∧ farS w.heap.size none a') ∧ Below w.heap.size w w' := by
  obtain ⟨i0, hi, hz0, hz1, hz2⟩ := parts_of info3
  have HR := Lib.hid hr
  have H1 := Lib.hid h1

  clear hr h1
  obtain ⟨W0, hW0⟩ : ∃ W0, w = W0 := ⟨_, rfl⟩
  have HB0 : Hid (Below w.heap.size w w) := Lib.hid (Below.refl _ _)
  clear hW0
  have HBA := Lib.hid (below_ad w (.cells #[.int .i64 y0] 3))
  go_enter Tryz.func173, Tryz.ntmps173
  go_wp2_with fail
  go_region_law (first
    | (refine step_of_wp rfl ?_; refine wp_append_full (.tmp 10) (.tmp 12) 33 rfl 3 i0 (.int .i64 0) 1 8 Tryz.underlying33 hi hz0 hz1 hz2 rfl (by decide) none 0 (cs.take (0 * 1)) rfl (by have h := @List.length_take _ (0 * 1) cs; rw [hl] at h; omega) ((HR.out.take _).on HBA.out) (fun _ => rfl) ⟨w.heap.size, 0, none⟩ 1 1 [.int .i64 y0] rfl rfl (new_src w [.int .i64 y0] 3) (by decide) (by simp only [maxLen]; omega) (by omega) ?_; intro v1 w1 hown1 hg1)
    | (refine step_of_wp rfl ?_; refine wp_append_row (.tmp 13) (.tmp 16) 33 rfl w.heap.size 3 i0 (.int .i64 0) 1 8 Tryz.underlying33 hi hz0 hz1 hz2 rfl (by decide) v1 (0 + 1) (cs.take (0 * 1) ++ [.int .i64 y0]) rfl (owns_base hown1 HBA.out.size) _ 0 _ (cs.drop (0 * 1)) rfl (by have h := @List.length_drop _ (0 * 1) cs; rw [hl] at h; omega) (by rw [List.drop_of_length_le (by rw [hl]; omega)]; exact RowIs.nil _ _ _) (fun _ => ⟨rfl, rfl⟩) (fun u hu => H1.out u (List.mem_of_mem_drop hu)) (by simp only [maxLen]; omega) (by omega) (below_gr HBA.out hg1).size ?_; intro v2 w2 hown2 hg2))
  go_wp2_with fail
  go_ret
  have hlt2 := hown1.lt
  obtain ⟨a', cap', rfl, hrow, hwf, hfar⟩ := row_of_owns hown2
  refine ⟨⟨a', cap', rfl, ?_, hwf, fun p hp => .inr (Nat.le_trans HB0.out.size (hfar p hp))⟩, HB0.out.trans (((below_gr HBA.out hg1).grown hg2 (below_gr HBA.out hg1).size (fun k hk => Nat.le_trans HBA.out.size (hlt2 k hk).1)).mono HB0.out.size)⟩
  rw [List.append_assoc] at hrow
  exact hrow

set_option maxRecDepth 100000 in
set_option maxHeartbeats 4000000 in
theorem put_intE (p : Addr) (cs : List Value) (n cap : Nat) (y0 : Int) (w : World) (hr : RowIs w.heap.size w (some p) cs) (hl : cs.length = n * 1) (h1 : ∀ u ∈ cs, u.oneCell' = true) (hn : n ≤ 1000) (hc : n = cap) :
    Calls Tryz.prog 173 #[.slice (some p) n cap, .int .i64 (n : Nat), .int .i64 y0] w fun e w' => (∃ a' cap', e = .returned (.slice a' (n + 1) cap') ∧ RowIs w'.heap.size w' a' (cs.take (n * 1) ++ ([.int .i64 y0] ++ cs.drop (n * 1))) ∧ wfS a' (n + 1) cap' ∧ farS w.heap.size none a') ∧ Below w.heap.size w w' := by
  obtain ⟨i0, hi, hz0, hz1, hz2⟩ := parts_of info3
  have HR := Lib.hid hr
  have H1 := Lib.hid h1
  subst hc
  clear hr h1
  obtain ⟨W0, hW0⟩ : ∃ W0, w = W0 := ⟨_, rfl⟩
  have HB0 : Hid (Below w.heap.size w w) := Lib.hid (Below.refl _ _)
  clear hW0
  have HBA := Lib.hid (below_ad w (.cells #[.int .i64 y0] 3))
  go_enter Tryz.func173, Tryz.ntmps173
  go_wp2_with fail
  go_region_law (first
    | (refine step_of_wp rfl ?_; refine wp_append_full (.tmp 10) (.tmp 12) 33 rfl 3 i0 (.int .i64 0) 1 8 Tryz.underlying33 hi hz0 hz1 hz2 rfl (by decide) (some p) n (cs.take (n * 1)) rfl (by have h := @List.length_take _ (n * 1) cs; rw [hl] at h; omega) ((HR.out.take _).on HBA.out) (fun h => by cases h) ⟨w.heap.size, 0, none⟩ 1 1 [.int .i64 y0] rfl rfl (new_src w [.int .i64 y0] 3) (by decide) (by simp only [maxLen]; omega) (by omega) ?_; intro v1 w1 hown1 hg1)
    | (refine step_of_wp rfl ?_; refine wp_append_row (.tmp 13) (.tmp 16) 33 rfl w.heap.size 3 i0 (.int .i64 0) 1 8 Tryz.underlying33 hi hz0 hz1 hz2 rfl (by decide) v1 (n + 1) (cs.take (n * 1) ++ [.int .i64 y0]) rfl (owns_base hown1 HBA.out.size) _ 0 _ (cs.drop (n * 1)) rfl (by have h := @List.length_drop _ (n * 1) cs; rw [hl] at h; omega) (by rw [List.drop_of_length_le (by rw [hl]; omega)]; exact RowIs.nil _ _ _) (fun h => by cases h) (fun u hu => H1.out u (List.mem_of_mem_drop hu)) (by simp only [maxLen]; omega) (by omega) (below_gr HBA.out hg1).size ?_; intro v2 w2 hown2 hg2))
  go_wp2_with fail
  go_ret
  have hlt2 := hown1.lt
  obtain ⟨a', cap', rfl, hrow, hwf, hfar⟩ := row_of_owns hown2
  refine ⟨⟨a', cap', rfl, ?_, hwf, fun p hp => .inr (Nat.le_trans HB0.out.size (hfar p hp))⟩, HB0.out.trans (((below_gr HBA.out hg1).grown hg2 (below_gr HBA.out hg1).size (fun k hk => Nat.le_trans HBA.out.size (hlt2 k hk).1)).mono HB0.out.size)⟩
  rw [List.append_assoc] at hrow
  exact hrow

set_option maxRecDepth 100000 in
set_option maxHeartbeats 4000000 in
theorem put_intS (p : Addr) (cs : List Value) (n cap : Nat) (y0 : Int) (w : World) (hr : RowIs w.heap.size w (some p) cs) (hl : cs.length = n * 1) (h1 : ∀ u ∈ cs, u.oneCell' = true) (hn : n ≤ 1000) (hc : n ≤ cap) (hck : ¬ cap = n) :
    Calls Tryz.prog 173 #[.slice (some p) n cap, .int .i64 (n : Nat), .int .i64 y0] w fun e w' => (∃ a' cap', e = .returned (.slice a' (n + 1) cap') ∧ RowIs w'.heap.size w' a' (cs.take (n * 1) ++ ([.int .i64 y0] ++ cs.drop (n * 1))) ∧ wfS a' (n + 1) cap' ∧ farS w.heap.size none a') ∧ Below w.heap.size w w' := by
  obtain ⟨i0, hi, hz0, hz1, hz2⟩ := parts_of info3
  have HR := Lib.hid hr
  have H1 := Lib.hid h1
  have hki : (n : Int) ≤ (cap : Int) := by omega
  clear hr h1
  obtain ⟨W0, hW0⟩ : ∃ W0, w = W0 := ⟨_, rfl⟩
  have HB0 : Hid (Below w.heap.size w w) := Lib.hid (Below.refl _ _)
  clear hW0
  have HBA := Lib.hid (below_ad w (.cells #[.int .i64 y0] 3))
  go_enter Tryz.func173, Tryz.ntmps173
  go_wp2_with fail
  go_region_law (first
    | (refine step_of_wp rfl ?_; refine wp_append_full (.tmp 10) (.tmp 12) 33 rfl 3 i0 (.int .i64 0) 1 8 Tryz.underlying33 hi hz0 hz1 hz2 rfl (by decide) (some p) n (cs.take (n * 1)) rfl (by have h := @List.length_take _ (n * 1) cs; rw [hl] at h; omega) ((HR.out.take _).on HBA.out) (fun h => by cases h) ⟨w.heap.size, 0, none⟩ 1 1 [.int .i64 y0] rfl rfl (new_src w [.int .i64 y0] 3) (by decide) (by simp only [maxLen]; omega) (by omega) ?_; intro v1 w1 hown1 hg1)
    | (refine step_of_wp rfl ?_; refine wp_append_row (.tmp 13) (.tmp 16) 33 rfl w.heap.size 3 i0 (.int .i64 0) 1 8 Tryz.underlying33 hi hz0 hz1 hz2 rfl (by decide) v1 (n + 1) (cs.take (n * 1) ++ [.int .i64 y0]) rfl (owns_base hown1 HBA.out.size) _ 0 _ (cs.drop (n * 1)) rfl (by have h := @List.length_drop _ (n * 1) cs; rw [hl] at h; omega) (by rw [List.drop_of_length_le (by rw [hl]; omega)]; exact RowIs.nil _ _ _) (fun h => by cases h) (fun u hu => H1.out u (List.mem_of_mem_drop hu)) (by simp only [maxLen]; omega) (by omega) (below_gr HBA.out hg1).size ?_; intro v2 w2 hown2 hg2))
  go_wp2_with fail
  go_ret
  have hlt2 := hown1.lt
  obtain ⟨a', cap', rfl, hrow, hwf, hfar⟩ := row_of_owns hown2
  refine ⟨⟨a', cap', rfl, ?_, hwf, fun p hp => .inr (Nat.le_trans HB0.out.size (hfar p hp))⟩, HB0.out.trans (((below_gr HBA.out hg1).grown hg2 (below_gr HBA.out hg1).size (fun k hk => Nat.le_trans HBA.out.size (hlt2 k hk).1)).mono HB0.out.size)⟩
  rw [List.append_assoc] at hrow
  exact hrow

set_option maxRecDepth 100000 in
set_option maxHeartbeats 4000000 in
theorem put_intM (b o : Nat) (cs : List Value) (n cap k : Nat) (y0 : Int) (w : World) (hr : RowIs w.heap.size w (some ⟨b, o, none⟩) cs) (hl : cs.length = n * 1) (h1 : ∀ u ∈ cs, u.oneCell' = true) (hn : n ≤ 1000) (hk : k < n) (hc : n ≤ cap) :
    Calls Tryz.prog 173 #[.slice (some ⟨b, o, none⟩) n cap, .int .i64 (k : Nat), .int .i64 y0] w fun e w' => (∃ a' cap', e = .returned (.slice a' (n + 1) cap') ∧ RowIs w'.heap.size w' a' (cs.take (k * 1) ++ ([.int .i64 y0] ++ cs.drop (k * 1))) ∧ wfS a' (n + 1) cap' ∧ farS w.heap.size none a') ∧ Below w.heap.size w w' := by
  obtain ⟨i0, hi, hz0, hz1, hz2⟩ := parts_of info3
  have HR := Lib.hid hr
  have H1 := Lib.hid h1
  have hki : (k : Int) ≤ (cap : Int) := by omega
  have hki2 : (k : Int) ≤ (n : Int) := by omega
  have hck : ¬ cap = k := by omega
  clear hr h1
  obtain ⟨W0, hW0⟩ : ∃ W0, w = W0 := ⟨_, rfl⟩
  have HB0 : Hid (Below w.heap.size w w) := Lib.hid (Below.refl _ _)
  clear hW0
  have HBA := Lib.hid (below_ad w (.cells #[.int .i64 y0] 3))
  go_enter Tryz.func173, Tryz.ntmps173
  go_wp2_with fail
  go_region_law (first
    | (refine step_of_wp rfl ?_; refine wp_append_full (.tmp 10) (.tmp 12) 33 rfl 3 i0 (.int .i64 0) 1 8 Tryz.underlying33 hi hz0 hz1 hz2 rfl (by decide) (some ⟨b, o, none⟩) k (cs.take (k * 1)) rfl (by have h := @List.length_take _ (k * 1) cs; rw [hl] at h; omega) ((HR.out.take _).on HBA.out) (fun h => by cases h) ⟨w.heap.size, 0, none⟩ 1 1 [.int .i64 y0] rfl rfl (new_src w [.int .i64 y0] 3) (by decide) (by simp only [maxLen]; omega) (by omega) ?_; intro v1 w1 hown1 hg1)
    | (refine step_of_wp rfl ?_; refine wp_append_row (.tmp 13) (.tmp 16) 33 rfl w.heap.size 3 i0 (.int .i64 0) 1 8 Tryz.underlying33 hi hz0 hz1 hz2 rfl (by decide) v1 (k + 1) (cs.take (k * 1) ++ [.int .i64 y0]) rfl (owns_base hown1 HBA.out.size) _ (n - k) _ (cs.drop (k * 1)) rfl (by have h := @List.length_drop _ (k * 1) cs; rw [hl] at h; omega) (by have h := (HR.out.drop (k * 1)).on (below_gr HBA.out hg1); simpa only [Nat.mul_one] using h) (fun h => by cases h) (fun u hu => H1.out u (List.mem_of_mem_drop hu)) (by simp only [maxLen]; omega) (by omega) (below_gr HBA.out hg1).size ?_; intro v2 w2 hown2 hg2))
  go_wp2_with fail
  go_ret
  have hlt2 := hown1.lt
  obtain ⟨a', cap', rfl, hrow, hwf, hfar⟩ := row_of_owns hown2
  refine ⟨⟨a', cap', (by rw [show k + 1 + (n - k) = n + 1 by omega]; rfl), ?_, (by rwa [show k + 1 + (n - k) = n + 1 by omega] at hwf), fun p hp => .inr (Nat.le_trans HB0.out.size (hfar p hp))⟩, HB0.out.trans (((below_gr HBA.out hg1).grown hg2 (below_gr HBA.out hg1).size (fun k hk => Nat.le_trans HBA.out.size (hlt2 k hk).1)).mono HB0.out.size)⟩
  rw [List.append_assoc] at hrow
  exact hrow

theorem put_int (a : Option Addr) (cs : List Value) (n cap k : Nat) (y0 : Int) (w : World) (hr : RowIs w.heap.size w a cs) (hl : cs.length = n * 1) (h1 : ∀ u ∈ cs, u.oneCell' = true) (hn : n ≤ 1000) (hk : k ≤ n) (hc : n ≤ cap) (ha : a = none → cap = 0) :
    Calls Tryz.prog 173 #[.slice a n cap, .int .i64 (k : Nat), .int .i64 y0] w fun e w' => (∃ a' cap', e = .returned (.slice a' (n + 1) cap') ∧ RowIs w'.heap.size w' a' (cs.take (k * 1) ++ ([.int .i64 y0] ++ cs.drop (k * 1))) ∧ wfS a' (n + 1) cap' ∧ farS w.heap.size none a') ∧ Below w.heap.size w w' := by
  by_cases hkn : k = n
  · subst hkn
    cases a with
    | none =>
      obtain rfl := ha rfl
      obtain rfl : k = 0 := by omega
      exact put_intN cs y0 w hr hl h1
    | some p =>
      by_cases hck : cap = k
      · exact put_intE p cs k cap y0 w hr hl h1 hn hck.symm
      · exact put_intS p cs k cap y0 w hr hl h1 hn hc hck
  · have hj : 0 < cs.length := by rw [hl]; omega
    obtain ⟨b, o, rfl, -, -⟩ := hr 0 cs[0] (by simp [hj])
    exact put_intM b o cs n cap k y0 w hr hl h1 hn (by omega) hc

set_option maxRecDepth 100000 in
set_option maxHeartbeats 4000000 in
theorem put_insN (cs : List Value) (y0 y1 y2 y3 y4 y5 y6 y7 y8 y9 y10 : Int) (w : World) (hr : RowIs w.heap.size w none cs) (hl : cs.length = 0 * 11) (h1 : ∀ u ∈ cs, u.oneCell' = true)  :
    Calls Tryz.prog 152 #[.slice none 0 0, .int .i64 (0 : Nat), .agg #[.int .i64 y0, .int .i64 y1, .int .i64 y2, .int .i64 y3, .int .i64 y4, .int .i64 y5, .int .i64 y6, .int .i64 y7, .int .i64 y8, .int .i64 y9, .int .i64 y10]] w fun e w' => (∃ a' cap', e = .returned (.slice a' (0 + 1) cap') ∧ RowIs w'.heap.size w' a' (cs.take (0 * 11) ++ ([.int .i64 y0, .int .i64 y1, .int .i64 y2, .int .i64 y3, .int .i64 y4, .int .i64 y5, .int .i64 y6, .int .i64 y7, .int .i64 y8, .int .i64 y9, .int .i64 y10] ++ cs.drop (0 * 11))) ∧ wfS a' (0 + 1) cap' ∧ farS w.heap.size none a') ∧ Below w.heap.size w w' := by
  obtain ⟨i0, hi, hz0, hz1, hz2⟩ := parts_of info_ins
  have HR := Lib.hid hr
  have H1 := Lib.hid h1

  clear hr h1
  have HB0 := Lib.hid (below1 w (.cells #[.int .i64 y0, .int .i64 y1, .int .i64 y2, .int .i64 y3, .int .i64 y4, .int .i64 y5, .int .i64 y6, .int .i64 y7, .int .i64 y8, .int .i64 y9, .int .i64 y10] 40))
  have HX := Lib.hid (show BoxL (w.alloc (.cells #[.int .i64 y0, .int .i64 y1, .int .i64 y2, .int .i64 y3, .int .i64 y4, .int .i64 y5, .int .i64 y6, .int .i64 y7, .int .i64 y8, .int .i64 y9, .int .i64 y10] 40)) w.heap.size [.int .i64 y0, .int .i64 y1, .int .i64 y2, .int .i64 y3, .int .i64 y4, .int .i64 y5, .int .i64 y6, .int .i64 y7, .int .i64 y8, .int .i64 y9, .int .i64 y10] from BoxL.new w [.int .i64 y0, .int .i64 y1, .int .i64 y2, .int .i64 y3, .int .i64 y4, .int .i64 y5, .int .i64 y6, .int .i64 y7, .int .i64 y8, .int .i64 y9, .int .i64 y10] 40)
  have HRO := Lib.hid (HR.out.on HB0.out)
  generalize hE : (w.alloc (.cells #[.int .i64 y0, .int .i64 y1, .int .i64 y2, .int .i64 y3, .int .i64 y4, .int .i64 y5, .int .i64 y6, .int .i64 y7, .int .i64 y8, .int .i64 y9, .int .i64 y10] 40)) = W at HB0 HX HRO
  obtain ⟨g, hg⟩ : ∃ g, w.heap.size = g := ⟨_, rfl⟩
  rw [hg] at HX
  have c0 := (HX.out 0 _ rfl).1
  have c1 := (HX.out 1 _ rfl).1
  have c2 := (HX.out 2 _ rfl).1
  have c3 := (HX.out 3 _ rfl).1
  have c4 := (HX.out 4 _ rfl).1
  have c5 := (HX.out 5 _ rfl).1
  have c6 := (HX.out 6 _ rfl).1
  have c7 := (HX.out 7 _ rfl).1
  have c8 := (HX.out 8 _ rfl).1
  have c9 := (HX.out 9 _ rfl).1
  have c10 := (HX.out 10 _ rfl).1
  have HBA := Lib.hid (below_ad W (.cells #[.int .i64 y0, .int .i64 y1, .int .i64 y2, .int .i64 y3, .int .i64 y4, .int .i64 y5, .int .i64 y6, .int .i64 y7, .int .i64 y8, .int .i64 y9, .int .i64 y10] 40))
  go_enter Tryz.func152, Tryz.ntmps152
  go_wp2_with fail
  go_region_law (first
    | (refine step_of_wp rfl ?_; refine wp_append_full (.tmp 10) (.tmp 12) 32 rfl 40 i0 (.agg #[.int .i64 0, .int .i64 0, .int .i64 0, .int .i64 0, .int .i64 0, .int .i64 0, .int .i64 0, .int .i64 0, .int .i64 0, .int .i64 0, .int .i64 0]) 11 88 Tryz.underlying32 hi hz0 hz1 hz2 rfl (by decide) none 0 (cs.take (0 * 11)) rfl (by have h := @List.length_take _ (0 * 11) cs; rw [hl] at h; omega) ((HRO.out.take _).on HBA.out) (fun _ => rfl) ⟨W.heap.size, 0, none⟩ 1 1 [.int .i64 y0, .int .i64 y1, .int .i64 y2, .int .i64 y3, .int .i64 y4, .int .i64 y5, .int .i64 y6, .int .i64 y7, .int .i64 y8, .int .i64 y9, .int .i64 y10] rfl rfl (new_src W [.int .i64 y0, .int .i64 y1, .int .i64 y2, .int .i64 y3, .int .i64 y4, .int .i64 y5, .int .i64 y6, .int .i64 y7, .int .i64 y8, .int .i64 y9, .int .i64 y10] 40) (by decide) (by simp only [maxLen]; omega) (by omega) ?_; intro v1 w1 hown1 hg1)
    | (refine step_of_wp rfl ?_; refine wp_append_row (.tmp 13) (.tmp 16) 32 rfl W.heap.size 40 i0 (.agg #[.int .i64 0, .int .i64 0, .int .i64 0, .int .i64 0, .int .i64 0, .int .i64 0, .int .i64 0, .int .i64 0, .int .i64 0, .int .i64 0, .int .i64 0]) 11 88 Tryz.underlying32 hi hz0 hz1 hz2 rfl (by decide) v1 (0 + 1) (cs.take (0 * 11) ++ [.int .i64 y0, .int .i64 y1, .int .i64 y2, .int .i64 y3, .int .i64 y4, .int .i64 y5, .int .i64 y6, .int .i64 y7, .int .i64 y8, .int .i64 y9, .int .i64 y10]) rfl (owns_base hown1 HBA.out.size) _ 0 _ (cs.drop (0 * 11)) rfl (by have h := @List.length_drop _ (0 * 11) cs; rw [hl] at h; omega) (by rw [List.drop_of_length_le (by rw [hl]; omega)]; exact RowIs.nil _ _ _) (fun _ => ⟨rfl, rfl⟩) (fun u hu => H1.out u (List.mem_of_mem_drop hu)) (by simp only [maxLen]; omega) (by omega) (below_gr HBA.out hg1).size ?_; intro v2 w2 hown2 hg2))
  go_wp2_with fail
  go_ret
  have hlt2 := hown1.lt
  obtain ⟨a', cap', rfl, hrow, hwf, hfar⟩ := row_of_owns hown2
  refine ⟨⟨a', cap', rfl, ?_, hwf, fun p hp => .inr (Nat.le_trans HB0.out.size (hfar p hp))⟩, HB0.out.trans (((below_gr HBA.out hg1).grown hg2 (below_gr HBA.out hg1).size (fun k hk => Nat.le_trans HBA.out.size (hlt2 k hk).1)).mono HB0.out.size)⟩
  rw [List.append_assoc] at hrow
  exact hrow

set_option maxRecDepth 100000 in
set_option maxHeartbeats 4000000 in
theorem put_insE (p : Addr) (cs : List Value) (n cap : Nat) (y0 y1 y2 y3 y4 y5 y6 y7 y8 y9 y10 : Int) (w : World) (hr : RowIs w.heap.size w (some p) cs) (hl : cs.length = n * 11) (h1 : ∀ u ∈ cs, u.oneCell' = true) (hn : n ≤ 1000) (hc : n = cap) :
    Calls Tryz.prog 152 #[.slice (some p) n cap, .int .i64 (n : Nat), .agg #[.int .i64 y0, .int .i64 y1, .int .i64 y2, .int .i64 y3, .int .i64 y4, .int .i64 y5, .int .i64 y6, .int .i64 y7, .int .i64 y8, .int .i64 y9, .int .i64 y10]] w fun e w' => (∃ a' cap', e = .returned (.slice a' (n + 1) cap') ∧ RowIs w'.heap.size w' a' (cs.take (n * 11) ++ ([.int .i64 y0, .int .i64 y1, .int .i64 y2, .int .i64 y3, .int .i64 y4, .int .i64 y5, .int .i64 y6, .int .i64 y7, .int .i64 y8, .int .i64 y9, .int .i64 y10] ++ cs.drop (n * 11))) ∧ wfS a' (n + 1) cap' ∧ farS w.heap.size none a') ∧ Below w.heap.size w w' := by
  obtain ⟨i0, hi, hz0, hz1, hz2⟩ := parts_of info_ins
  have HR := Lib.hid hr
  have H1 := Lib.hid h1
  subst hc
  clear hr h1
  have HB0 := Lib.hid (below1 w (.cells #[.int .i64 y0, .int .i64 y1, .int .i64 y2, .int .i64 y3, .int .i64 y4, .int .i64 y5, .int .i64 y6, .int .i64 y7, .int .i64 y8, .int .i64 y9, .int .i64 y10] 40))
  have HX := Lib.hid (show BoxL (w.alloc (.cells #[.int .i64 y0, .int .i64 y1, .int .i64 y2, .int .i64 y3, .int .i64 y4, .int .i64 y5, .int .i64 y6, .int .i64 y7, .int .i64 y8, .int .i64 y9, .int .i64 y10] 40)) w.heap.size [.int .i64 y0, .int .i64 y1, .int .i64 y2, .int .i64 y3, .int .i64 y4, .int .i64 y5, .int .i64 y6, .int .i64 y7, .int .i64 y8, .int .i64 y9, .int .i64 y10] from BoxL.new w [.int .i64 y0, .int .i64 y1, .int .i64 y2, .int .i64 y3, .int .i64 y4, .int .i64 y5, .int .i64 y6, .int .i64 y7, .int .i64 y8, .int .i64 y9, .int .i64 y10] 40)
  have HRO := Lib.hid (HR.out.on HB0.out)
  generalize hE : (w.alloc (.cells #[.int .i64 y0, .int .i64 y1, .int .i64 y2, .int .i64 y3, .int .i64 y4, .int .i64 y5, .int .i64 y6, .int .i64 y7, .int .i64 y8, .int .i64 y9, .int .i64 y10] 40)) = W at HB0 HX HRO
  obtain ⟨g, hg⟩ : ∃ g, w.heap.size = g := ⟨_, rfl⟩
  rw [hg] at HX
  have c0 := (HX.out 0 _ rfl).1
  have c1 := (HX.out 1 _ rfl).1
  have c2 := (HX.out 2 _ rfl).1
  have c3 := (HX.out 3 _ rfl).1
  have c4 := (HX.out 4 _ rfl).1
  have c5 := (HX.out 5 _ rfl).1
  have c6 := (HX.out 6 _ rfl).1
  have c7 := (HX.out 7 _ rfl).1
  have c8 := (HX.out 8 _ rfl).1
  have c9 := (HX.out 9 _ rfl).1
  have c10 := (HX.out 10 _ rfl).1
  have HBA := Lib.hid (below_ad W (.cells #[.int .i64 y0, .int .i64 y1, .int .i64 y2, .int .i64 y3, .int .i64 y4, .int .i64 y5, .int .i64 y6, .int .i64 y7, .int .i64 y8, .int .i64 y9, .int .i64 y10] 40))
  go_enter Tryz.func152, Tryz.ntmps152
  go_wp2_with fail
  go_region_law (first
    | (refine step_of_wp rfl ?_; refine wp_append_full (.tmp 10) (.tmp 12) 32 rfl 40 i0 (.agg #[.int .i64 0, .int .i64 0, .int .i64 0, .int .i64 0, .int .i64 0, .int .i64 0, .int .i64 0, .int .i64 0, .int .i64 0, .int .i64 0, .int .i64 0]) 11 88 Tryz.underlying32 hi hz0 hz1 hz2 rfl (by decide) (some p) n (cs.take (n * 11)) rfl (by have h := @List.length_take _ (n * 11) cs; rw [hl] at h; omega) ((HRO.out.take _).on HBA.out) (fun h => by cases h) ⟨W.heap.size, 0, none⟩ 1 1 [.int .i64 y0, .int .i64 y1, .int .i64 y2, .int .i64 y3, .int .i64 y4, .int .i64 y5, .int .i64 y6, .int .i64 y7, .int .i64 y8, .int .i64 y9, .int .i64 y10] rfl rfl (new_src W [.int .i64 y0, .int .i64 y1, .int .i64 y2, .int .i64 y3, .int .i64 y4, .int .i64 y5, .int .i64 y6, .int .i64 y7, .int .i64 y8, .int .i64 y9, .int .i64 y10] 40) (by decide) (by simp only [maxLen]; omega) (by omega) ?_; intro v1 w1 hown1 hg1)
    | (refine step_of_wp rfl ?_; refine wp_append_row (.tmp 13) (.tmp 16) 32 rfl W.heap.size 40 i0 (.agg #[.int .i64 0, .int .i64 0, .int .i64 0, .int .i64 0, .int .i64 0, .int .i64 0, .int .i64 0, .int .i64 0, .int .i64 0, .int .i64 0, .int .i64 0]) 11 88 Tryz.underlying32 hi hz0 hz1 hz2 rfl (by decide) v1 (n + 1) (cs.take (n * 11) ++ [.int .i64 y0, .int .i64 y1, .int .i64 y2, .int .i64 y3, .int .i64 y4, .int .i64 y5, .int .i64 y6, .int .i64 y7, .int .i64 y8, .int .i64 y9, .int .i64 y10]) rfl (owns_base hown1 HBA.out.size) _ 0 _ (cs.drop (n * 11)) rfl (by have h := @List.length_drop _ (n * 11) cs; rw [hl] at h; omega) (by rw [List.drop_of_length_le (by rw [hl]; omega)]; exact RowIs.nil _ _ _) (fun h => by cases h) (fun u hu => H1.out u (List.mem_of_mem_drop hu)) (by simp only [maxLen]; omega) (by omega) (below_gr HBA.out hg1).size ?_; intro v2 w2 hown2 hg2))
  go_wp2_with fail
  go_ret
  have hlt2 := hown1.lt
  obtain ⟨a', cap', rfl, hrow, hwf, hfar⟩ := row_of_owns hown2
  refine ⟨⟨a', cap', rfl, ?_, hwf, fun p hp => .inr (Nat.le_trans HB0.out.size (hfar p hp))⟩, HB0.out.trans (((below_gr HBA.out hg1).grown hg2 (below_gr HBA.out hg1).size (fun k hk => Nat.le_trans HBA.out.size (hlt2 k hk).1)).mono HB0.out.size)⟩
  rw [List.append_assoc] at hrow
  exact hrow

set_option maxRecDepth 100000 in
set_option maxHeartbeats 4000000 in
theorem put_insS (p : Addr) (cs : List Value) (n cap : Nat) (y0 y1 y2 y3 y4 y5 y6 y7 y8 y9 y10 : Int) (w : World) (hr : RowIs w.heap.size w (some p) cs) (hl : cs.length = n * 11) (h1 : ∀ u ∈ cs, u.oneCell' = true) (hn : n ≤ 1000) (hc : n ≤ cap) (hck : ¬ cap = n) :
    Calls Tryz.prog 152 #[.slice (some p) n cap, .int .i64 (n : Nat), .agg #[.int .i64 y0, .int .i64 y1, .int .i64 y2, .int .i64 y3, .int .i64 y4, .int .i64 y5, .int .i64 y6, .int .i64 y7, .int .i64 y8, .int .i64 y9, .int .i64 y10]] w fun e w' => (∃ a' cap', e = .returned (.slice a' (n + 1) cap') ∧ RowIs w'.heap.size w' a' (cs.take (n * 11) ++ ([.int .i64 y0, .int .i64 y1, .int .i64 y2, .int .i64 y3, .int .i64 y4, .int .i64 y5, .int .i64 y6, .int .i64 y7, .int .i64 y8, .int .i64 y9, .int .i64 y10] ++ cs.drop (n * 11))) ∧ wfS a' (n + 1) cap' ∧ farS w.heap.size none a') ∧ Below w.heap.size w w' := by
  obtain ⟨i0, hi, hz0, hz1, hz2⟩ := parts_of info_ins
  have HR := Lib.hid hr
  have H1 := Lib.hid h1
  have hki : (n : Int) ≤ (cap : Int) := by omega
  clear hr h1
  have HB0 := Lib.hid (below1 w (.cells #[.int .i64 y0, .int .i64 y1, .int .i64 y2, .int .i64 y3, .int .i64 y4, .int .i64 y5, .int .i64 y6, .int .i64 y7, .int .i64 y8, .int .i64 y9, .int .i64 y10] 40))
  have HX := Lib.hid (show BoxL (w.alloc (.cells #[.int .i64 y0, .int .i64 y1, .int .i64 y2, .int .i64 y3, .int .i64 y4, .int .i64 y5, .int .i64 y6, .int .i64 y7, .int .i64 y8, .int .i64 y9, .int .i64 y10] 40)) w.heap.size [.int .i64 y0, .int .i64 y1, .int .i64 y2, .int .i64 y3, .int .i64 y4, .int .i64 y5, .int .i64 y6, .int .i64 y7, .int .i64 y8, .int .i64 y9, .int .i64 y10] from BoxL.new w [.int .i64 y0, .int .i64 y1, .int .i64 y2, .int .i64 y3, .int .i64 y4, .int .i64 y5, .int .i64 y6, .int .i64 y7, .int .i64 y8, .int .i64 y9, .int .i64 y10] 40)
  have HRO := Lib.hid (HR.out.on HB0.out)
  generalize hE : (w.alloc (.cells #[.int .i64 y0, .int .i64 y1, .int .i64 y2, .int .i64 y3, .int .i64 y4, .int .i64 y5, .int .i64 y6, .int .i64 y7, .int .i64 y8, .int .i64 y9, .int .i64 y10] 40)) = W at HB0 HX HRO
  obtain ⟨g, hg⟩ : ∃ g, w.heap.size = g := ⟨_, rfl⟩
  rw [hg] at HX
  have c0 := (HX.out 0 _ rfl).1
  have c1 := (HX.out 1 _ rfl).1
  have c2 := (HX.out 2 _ rfl).1
  have c3 := (HX.out 3 _ rfl).1
  have c4 := (HX.out 4 _ rfl).1
  have c5 := (HX.out 5 _ rfl).1
  have c6 := (HX.out 6 _ rfl).1
  have c7 := (HX.out 7 _ rfl).1
  have c8 := (HX.out 8 _ rfl).1
  have c9 := (HX.out 9 _ rfl).1
  have c10 := (HX.out 10 _ rfl).1
  have HBA := Lib.hid (below_ad W (.cells #[.int .i64 y0, .int .i64 y1, .int .i64 y2, .int .i64 y3, .int .i64 y4, .int .i64 y5, .int .i64 y6, .int .i64 y7, .int .i64 y8, .int .i64 y9, .int .i64 y10] 40))
  go_enter Tryz.func152, Tryz.ntmps152
  go_wp2_with fail
  go_region_law (first
    | (refine step_of_wp rfl ?_; refine wp_append_full (.tmp 10) (.tmp 12) 32 rfl 40 i0 (.agg #[.int .i64 0, .int .i64 0, .int .i64 0, .int .i64 0, .int .i64 0, .int .i64 0, .int .i64 0, .int .i64 0, .int .i64 0, .int .i64 0, .int .i64 0]) 11 88 Tryz.underlying32 hi hz0 hz1 hz2 rfl (by decide) (some p) n (cs.take (n * 11)) rfl (by have h := @List.length_take _ (n * 11) cs; rw [hl] at h; omega) ((HRO.out.take _).on HBA.out) (fun h => by cases h) ⟨W.heap.size, 0, none⟩ 1 1 [.int .i64 y0, .int .i64 y1, .int .i64 y2, .int .i64 y3, .int .i64 y4, .int .i64 y5, .int .i64 y6, .int .i64 y7, .int .i64 y8, .int .i64 y9, .int .i64 y10] rfl rfl (new_src W [.int .i64 y0, .int .i64 y1, .int .i64 y2, .int .i64 y3, .int .i64 y4, .int .i64 y5, .int .i64 y6, .int .i64 y7, .int .i64 y8, .int .i64 y9, .int .i64 y10] 40) (by decide) (by simp only [maxLen]; omega) (by omega) ?_; intro v1 w1 hown1 hg1)
    | (refine step_of_wp rfl ?_; refine wp_append_row (.tmp 13) (.tmp 16) 32 rfl W.heap.size 40 i0 (.agg #[.int .i64 0, .int .i64 0, .int .i64 0, .int .i64 0, .int .i64 0, .int .i64 0, .int .i64 0, .int .i64 0, .int .i64 0, .int .i64 0, .int .i64 0]) 11 88 Tryz.underlying32 hi hz0 hz1 hz2 rfl (by decide) v1 (n + 1) (cs.take (n * 11) ++ [.int .i64 y0, .int .i64 y1, .int .i64 y2, .int .i64 y3, .int .i64 y4, .int .i64 y5, .int .i64 y6, .int .i64 y7, .int .i64 y8, .int .i64 y9, .int .i64 y10]) rfl (owns_base hown1 HBA.out.size) _ 0 _ (cs.drop (n * 11)) rfl (by have h := @List.length_drop _ (n * 11) cs; rw [hl] at h; omega) (by rw [List.drop_of_length_le (by rw [hl]; omega)]; exact RowIs.nil _ _ _) (fun h => by cases h) (fun u hu => H1.out u (List.mem_of_mem_drop hu)) (by simp only [maxLen]; omega) (by omega) (below_gr HBA.out hg1).size ?_; intro v2 w2 hown2 hg2))
  go_wp2_with fail
  go_ret
  have hlt2 := hown1.lt
  obtain ⟨a', cap', rfl, hrow, hwf, hfar⟩ := row_of_owns hown2
  refine ⟨⟨a', cap', rfl, ?_, hwf, fun p hp => .inr (Nat.le_trans HB0.out.size (hfar p hp))⟩, HB0.out.trans (((below_gr HBA.out hg1).grown hg2 (below_gr HBA.out hg1).size (fun k hk => Nat.le_trans HBA.out.size (hlt2 k hk).1)).mono HB0.out.size)⟩
  rw [List.append_assoc] at hrow
  exact hrow

set_option maxRecDepth 100000 in
set_option maxHeartbeats 4000000 in
theorem put_insM (b o : Nat) (cs : List Value) (n cap k : Nat) (y0 y1 y2 y3 y4 y5 y6 y7 y8 y9 y10 : Int) (w : World) (hr : RowIs w.heap.size w (some ⟨b, o, none⟩) cs) (hl : cs.length = n * 11) (h1 : ∀ u ∈ cs, u.oneCell' = true) (hn : n ≤ 1000) (hk : k < n) (hc : n ≤ cap) :
    Calls Tryz.prog 152 #[.slice (some ⟨b, o, none⟩) n cap, .int .i64 (k : Nat), .agg #[.int .i64 y0, .int .i64 y1, .int .i64 y2, .int .i64 y3, .int .i64 y4, .int .i64 y5, .int .i64 y6, .int .i64 y7, .int .i64 y8, .int .i64 y9, .int .i64 y10]] w fun e w' => (∃ a' cap', e = .returned (.slice a' (n + 1) cap') ∧ RowIs w'.heap.size w' a' (cs.take (k * 11) ++ ([.int .i64 y0, .int .i64 y1, .int .i64 y2, .int .i64 y3, .int .i64 y4, .int .i64 y5, .int .i64 y6, .int .i64 y7, .int .i64 y8, .int .i64 y9, .int .i64 y10] ++ cs.drop (k * 11))) ∧ wfS a' (n + 1) cap' ∧ farS w.heap.size none a') ∧ Below w.heap.size w w' := by
  obtain ⟨i0, hi, hz0, hz1, hz2⟩ := parts_of info_ins
  have HR := Lib.hid hr
  have H1 := Lib.hid h1
  have hki : (k : Int) ≤ (cap : Int) := by omega
  have hki2 : (k : Int) ≤ (n : Int) := by omega
  have hck : ¬ cap = k := by omega
  clear hr h1
  have HB0 := Lib.hid (below1 w (.cells #[.int .i64 y0, .int .i64 y1, .int .i64 y2, .int .i64 y3, .int .i64 y4, .int .i64 y5, .int .i64 y6, .int .i64 y7, .int .i64 y8, .int .i64 y9, .int .i64 y10] 40))
  have HX := Lib.hid (show BoxL (w.alloc (.cells #[.int .i64 y0, .int .i64 y1, .int .i64 y2, .int .i64 y3, .int .i64 y4, .int .i64 y5, .int .i64 y6, .int .i64 y7, .int .i64 y8, .int .i64 y9, .int .i64 y10] 40)) w.heap.size [.int .i64 y0, .int .i64 y1, .int .i64 y2, .int .i64 y3, .int .i64 y4, .int .i64 y5, .int .i64 y6, .int .i64 y7, .int .i64 y8, .int .i64 y9, .int .i64 y10] from BoxL.new w [.int .i64 y0, .int .i64 y1, .int .i64 y2, .int .i64 y3, .int .i64 y4, .int .i64 y5, .int .i64 y6, .int .i64 y7, .int .i64 y8, .int .i64 y9, .int .i64 y10] 40)
  have HRO := Lib.hid (HR.out.on HB0.out)
  generalize hE : (w.alloc (.cells #[.int .i64 y0, .int .i64 y1, .int .i64 y2, .int .i64 y3, .int .i64 y4, .int .i64 y5, .int .i64 y6, .int .i64 y7, .int .i64 y8, .int .i64 y9, .int .i64 y10] 40)) = W at HB0 HX HRO
  obtain ⟨g, hg⟩ : ∃ g, w.heap.size = g := ⟨_, rfl⟩
  rw [hg] at HX
  have c0 := (HX.out 0 _ rfl).1
  have c1 := (HX.out 1 _ rfl).1
  have c2 := (HX.out 2 _ rfl).1
  have c3 := (HX.out 3 _ rfl).1
  have c4 := (HX.out 4 _ rfl).1
  have c5 := (HX.out 5 _ rfl).1
  have c6 := (HX.out 6 _ rfl).1
  have c7 := (HX.out 7 _ rfl).1
  have c8 := (HX.out 8 _ rfl).1
  have c9 := (HX.out 9 _ rfl).1
  have c10 := (HX.out 10 _ rfl).1
  have HBA := Lib.hid (below_ad W (.cells #[.int .i64 y0, .int .i64 y1, .int .i64 y2, .int .i64 y3, .int .i64 y4, .int .i64 y5, .int .i64 y6, .int .i64 y7, .int .i64 y8, .int .i64 y9, .int .i64 y10] 40))
  go_enter Tryz.func152, Tryz.ntmps152
  go_wp2_with fail
  go_region_law (first
    | (refine step_of_wp rfl ?_; refine wp_append_full (.tmp 10) (.tmp 12) 32 rfl 40 i0 (.agg #[.int .i64 0, .int .i64 0, .int .i64 0, .int .i64 0, .int .i64 0, .int .i64 0, .int .i64 0, .int .i64 0, .int .i64 0, .int .i64 0, .int .i64 0]) 11 88 Tryz.underlying32 hi hz0 hz1 hz2 rfl (by decide) (some ⟨b, o, none⟩) k (cs.take (k * 11)) rfl (by have h := @List.length_take _ (k * 11) cs; rw [hl] at h; omega) ((HRO.out.take _).on HBA.out) (fun h => by cases h) ⟨W.heap.size, 0, none⟩ 1 1 [.int .i64 y0, .int .i64 y1, .int .i64 y2, .int .i64 y3, .int .i64 y4, .int .i64 y5, .int .i64 y6, .int .i64 y7, .int .i64 y8, .int .i64 y9, .int .i64 y10] rfl rfl (new_src W [.int .i64 y0, .int .i64 y1, .int .i64 y2, .int .i64 y3, .int .i64 y4, .int .i64 y5, .int .i64 y6, .int .i64 y7, .int .i64 y8, .int .i64 y9, .int .i64 y10] 40) (by decide) (by simp only [maxLen]; omega) (by omega) ?_; intro v1 w1 hown1 hg1)
    | (refine step_of_wp rfl ?_; refine wp_append_row (.tmp 13) (.tmp 16) 32 rfl W.heap.size 40 i0 (.agg #[.int .i64 0, .int .i64 0, .int .i64 0, .int .i64 0, .int .i64 0, .int .i64 0, .int .i64 0, .int .i64 0, .int .i64 0, .int .i64 0, .int .i64 0]) 11 88 Tryz.underlying32 hi hz0 hz1 hz2 rfl (by decide) v1 (k + 1) (cs.take (k * 11) ++ [.int .i64 y0, .int .i64 y1, .int .i64 y2, .int .i64 y3, .int .i64 y4, .int .i64 y5, .int .i64 y6, .int .i64 y7, .int .i64 y8, .int .i64 y9, .int .i64 y10]) rfl (owns_base hown1 HBA.out.size) _ (n - k) _ (cs.drop (k * 11)) rfl (by have h := @List.length_drop _ (k * 11) cs; rw [hl] at h; omega) (by have h := (HRO.out.drop (k * 11)).on (below_gr HBA.out hg1); simpa only [Nat.mul_one] using h) (fun h => by cases h) (fun u hu => H1.out u (List.mem_of_mem_drop hu)) (by simp only [maxLen]; omega) (by omega) (below_gr HBA.out hg1).size ?_; intro v2 w2 hown2 hg2))
  go_wp2_with fail
  go_ret
  have hlt2 := hown1.lt
  obtain ⟨a', cap', rfl, hrow, hwf, hfar⟩ := row_of_owns hown2
  refine ⟨⟨a', cap', (by rw [show k + 1 + (n - k) = n + 1 by omega]; rfl), ?_, (by rwa [show k + 1 + (n - k) = n + 1 by omega] at hwf), fun p hp => .inr (Nat.le_trans HB0.out.size (hfar p hp))⟩, HB0.out.trans (((below_gr HBA.out hg1).grown hg2 (below_gr HBA.out hg1).size (fun k hk => Nat.le_trans HBA.out.size (hlt2 k hk).1)).mono HB0.out.size)⟩
  rw [List.append_assoc] at hrow
  exact hrow

theorem put_ins (a : Option Addr) (cs : List Value) (n cap k : Nat) (y0 y1 y2 y3 y4 y5 y6 y7 y8 y9 y10 : Int) (w : World) (hr : RowIs w.heap.size w a cs) (hl : cs.length = n * 11) (h1 : ∀ u ∈ cs, u.oneCell' = true) (hn : n ≤ 1000) (hk : k ≤ n) (hc : n ≤ cap) (ha : a = none → cap = 0) :
    Calls Tryz.prog 152 #[.slice a n cap, .int .i64 (k : Nat), .agg #[.int .i64 y0, .int .i64 y1, .int .i64 y2, .int .i64 y3, .int .i64 y4, .int .i64 y5, .int .i64 y6, .int .i64 y7, .int .i64 y8, .int .i64 y9, .int .i64 y10]] w fun e w' => (∃ a' cap', e = .returned (.slice a' (n + 1) cap') ∧ RowIs w'.heap.size w' a' (cs.take (k * 11) ++ ([.int .i64 y0, .int .i64 y1, .int .i64 y2, .int .i64 y3, .int .i64 y4, .int .i64 y5, .int .i64 y6, .int .i64 y7, .int .i64 y8, .int .i64 y9, .int .i64 y10] ++ cs.drop (k * 11))) ∧ wfS a' (n + 1) cap' ∧ farS w.heap.size none a') ∧ Below w.heap.size w w' := by
  by_cases hkn : k = n
  · subst hkn
    cases a with
    | none =>
      obtain rfl := ha rfl
      obtain rfl : k = 0 := by omega
      exact put_insN cs y0 y1 y2 y3 y4 y5 y6 y7 y8 y9 y10 w hr hl h1
    | some p =>
      by_cases hck : cap = k
      · exact put_insE p cs k cap y0 y1 y2 y3 y4 y5 y6 y7 y8 y9 y10 w hr hl h1 hn hck.symm
      · exact put_insS p cs k cap y0 y1 y2 y3 y4 y5 y6 y7 y8 y9 y10 w hr hl h1 hn hc hck
  · have hj : 0 < cs.length := by rw [hl]; omega
    obtain ⟨b, o, rfl, -, -⟩ := hr 0 cs[0] (by simp [hj])
    exact put_insM b o cs n cap k y0 y1 y2 y3 y4 y5 y6 y7 y8 y9 y10 w hr hl h1 hn (by omega) hc

set_option maxRecDepth 100000 in
set_option maxHeartbeats 4000000 in
theorem put_funN (cs : List Value) (y0 y1 : Int) (y2 : Option Addr) (y3 y4 : Nat) (w : World) (hr : RowIs w.heap.size w none cs) (hl : cs.length = 0 * 3) (h1 : ∀ u ∈ cs, u.oneCell' = true)  :
    Calls Tryz.prog 82 #[.slice none 0 0, .int .i64 (0 : Nat), .agg #[.int .i64 y0, .int .i64 y1, .slice y2 y3 y4]] w fun e w' => (∃ a' cap', e = .returned (.slice a' (0 + 1) cap') ∧ RowIs w'.heap.size w' a' (cs.take (0 * 3) ++ ([.int .i64 y0, .int .i64 y1, .slice y2 y3 y4] ++ cs.drop (0 * 3))) ∧ wfS a' (0 + 1) cap' ∧ farS w.heap.size none a') ∧ Below w.heap.size w w' := by
  obtain ⟨i0, hi, hz0, hz1, hz2⟩ := parts_of info_fun
  have HR := Lib.hid hr
  have H1 := Lib.hid h1

  clear hr h1
  have HB0 := Lib.hid (below1 w (.cells #[.int .i64 y0, .int .i64 y1, .slice y2 y3 y4] 29))
  have HX := Lib.hid (show BoxL (w.alloc (.cells #[.int .i64 y0, .int .i64 y1, .slice y2 y3 y4] 29)) w.heap.size [.int .i64 y0, .int .i64 y1, .slice y2 y3 y4] from BoxL.new w [.int .i64 y0, .int .i64 y1, .slice y2 y3 y4] 29)
  have HRO := Lib.hid (HR.out.on HB0.out)
  generalize hE : (w.alloc (.cells #[.int .i64 y0, .int .i64 y1, .slice y2 y3 y4] 29)) = W at HB0 HX HRO
  obtain ⟨g, hg⟩ : ∃ g, w.heap.size = g := ⟨_, rfl⟩
  rw [hg] at HX
  have c0 := (HX.out 0 _ rfl).1
  have c1 := (HX.out 1 _ rfl).1
  have c2 := (HX.out 2 _ rfl).1
  have HBA := Lib.hid (below_ad W (.cells #[.int .i64 y0, .int .i64 y1, .slice y2 y3 y4] 29))
  go_enter Tryz.func82, Tryz.ntmps82
  go_wp2_with fail
  go_region_law (first
    | (refine step_of_wp rfl ?_; refine wp_append_full (.tmp 10) (.tmp 12) 22 rfl 29 i0 (.agg #[.int .i64 0, .int .i64 0, .slice none 0 0]) 3 40 Tryz.underlying22 hi hz0 hz1 hz2 rfl (by decide) none 0 (cs.take (0 * 3)) rfl (by have h := @List.length_take _ (0 * 3) cs; rw [hl] at h; omega) ((HRO.out.take _).on HBA.out) (fun _ => rfl) ⟨W.heap.size, 0, none⟩ 1 1 [.int .i64 y0, .int .i64 y1, .slice y2 y3 y4] rfl rfl (new_src W [.int .i64 y0, .int .i64 y1, .slice y2 y3 y4] 29) (by decide) (by simp only [maxLen]; omega) (by omega) ?_; intro v1 w1 hown1 hg1)
    | (refine step_of_wp rfl ?_; refine wp_append_row (.tmp 13) (.tmp 16) 22 rfl W.heap.size 29 i0 (.agg #[.int .i64 0, .int .i64 0, .slice none 0 0]) 3 40 Tryz.underlying22 hi hz0 hz1 hz2 rfl (by decide) v1 (0 + 1) (cs.take (0 * 3) ++ [.int .i64 y0, .int .i64 y1, .slice y2 y3 y4]) rfl (owns_base hown1 HBA.out.size) _ 0 _ (cs.drop (0 * 3)) rfl (by have h := @List.length_drop _ (0 * 3) cs; rw [hl] at h; omega) (by rw [List.drop_of_length_le (by rw [hl]; omega)]; exact RowIs.nil _ _ _) (fun _ => ⟨rfl, rfl⟩) (fun u hu => H1.out u (List.mem_of_mem_drop hu)) (by simp only [maxLen]; omega) (by omega) (below_gr HBA.out hg1).size ?_; intro v2 w2 hown2 hg2))
  go_wp2_with fail
  go_ret
  have hlt2 := hown1.lt
  obtain ⟨a', cap', rfl, hrow, hwf, hfar⟩ := row_of_owns hown2
  refine ⟨⟨a', cap', rfl, ?_, hwf, fun p hp => .inr (Nat.le_trans HB0.out.size (hfar p hp))⟩, HB0.out.trans (((below_gr HBA.out hg1).grown hg2 (below_gr HBA.out hg1).size (fun k hk => Nat.le_trans HBA.out.size (hlt2 k hk).1)).mono HB0.out.size)⟩
  rw [List.append_assoc] at hrow
  exact hrow

set_option maxRecDepth 100000 in
set_option maxHeartbeats 4000000 in
theorem put_funE (p : Addr) (cs : List Value) (n cap : Nat) (y0 y1 : Int) (y2 : Option Addr) (y3 y4 : Nat) (w : World) (hr : RowIs w.heap.size w (some p) cs) (hl : cs.length = n * 3) (h1 : ∀ u ∈ cs, u.oneCell' = true) (hn : n ≤ 1000) (hc : n = cap) :
    Calls Tryz.prog 82 #[.slice (some p) n cap, .int .i64 (n : Nat), .agg #[.int .i64 y0, .int .i64 y1, .slice y2 y3 y4]] w fun e w' => (∃ a' cap', e = .returned (.slice a' (n + 1) cap') ∧ RowIs w'.heap.size w' a' (cs.take (n * 3) ++ ([.int .i64 y0, .int .i64 y1, .slice y2 y3 y4] ++ cs.drop (n * 3))) ∧ wfS a' (n + 1) cap' ∧ farS w.heap.size none a') ∧ Below w.heap.size w w' := by
  obtain ⟨i0, hi, hz0, hz1, hz2⟩ := parts_of info_fun
  have HR := Lib.hid hr
  have H1 := Lib.hid h1
  subst hc
  clear hr h1
  have HB0 := Lib.hid (below1 w (.cells #[.int .i64 y0, .int .i64 y1, .slice y2 y3 y4] 29))
  have HX := Lib.hid (show BoxL (w.alloc (.cells #[.int .i64 y0, .int .i64 y1, .slice y2 y3 y4] 29)) w.heap.size [.int .i64 y0, .int .i64 y1, .slice y2 y3 y4] from BoxL.new w [.int .i64 y0, .int .i64 y1, .slice y2 y3 y4] 29)
  have HRO := Lib.hid (HR.out.on HB0.out)
  generalize hE : (w.alloc (.cells #[.int .i64 y0, .int .i64 y1, .slice y2 y3 y4] 29)) = W at HB0 HX HRO
  obtain ⟨g, hg⟩ : ∃ g, w.heap.size = g := ⟨_, rfl⟩
  rw [hg] at HX
  have c0 := (HX.out 0 _ rfl).1
  have c1 := (HX.out 1 _ rfl).1
  have c2 := (HX.out 2 _ rfl).1
  have HBA := Lib.hid (below_ad W (.cells #[.int .i64 y0, .int .i64 y1, .slice y2 y3 y4] 29))
  go_enter Tryz.func82, Tryz.ntmps82
  go_wp2_with fail
  go_region_law (first
    | (refine step_of_wp rfl ?_; refine wp_append_full (.tmp 10) (.tmp 12) 22 rfl 29 i0 (.agg #[.int .i64 0, .int .i64 0, .slice none 0 0]) 3 40 Tryz.underlying22 hi hz0 hz1 hz2 rfl (by decide) (some p) n (cs.take (n * 3)) rfl (by have h := @List.length_take _ (n * 3) cs; rw [hl] at h; omega) ((HRO.out.take _).on HBA.out) (fun h => by cases h) ⟨W.heap.size, 0, none⟩ 1 1 [.int .i64 y0, .int .i64 y1, .slice y2 y3 y4] rfl rfl (new_src W [.int .i64 y0, .int .i64 y1, .slice y2 y3 y4] 29) (by decide) (by simp only [maxLen]; omega) (by omega) ?_; intro v1 w1 hown1 hg1)
    | (refine step_of_wp rfl ?_; refine wp_append_row (.tmp 13) (.tmp 16) 22 rfl W.heap.size 29 i0 (.agg #[.int .i64 0, .int .i64 0, .slice none 0 0]) 3 40 Tryz.underlying22 hi hz0 hz1 hz2 rfl (by decide) v1 (n + 1) (cs.take (n * 3) ++ [.int .i64 y0, .int .i64 y1, .slice y2 y3 y4]) rfl (owns_base hown1 HBA.out.size) _ 0 _ (cs.drop (n * 3)) rfl (by have h := @List.length_drop _ (n * 3) cs; rw [hl] at h; omega) (by rw [List.drop_of_length_le (by rw [hl]; omega)]; exact RowIs.nil _ _ _) (fun h => by cases h) (fun u hu => H1.out u (List.mem_of_mem_drop hu)) (by simp only [maxLen]; omega) (by omega) (below_gr HBA.out hg1).size ?_; intro v2 w2 hown2 hg2))
  go_wp2_with fail
  go_ret
  have hlt2 := hown1.lt
  obtain ⟨a', cap', rfl, hrow, hwf, hfar⟩ := row_of_owns hown2
  refine ⟨⟨a', cap', rfl, ?_, hwf, fun p hp => .inr (Nat.le_trans HB0.out.size (hfar p hp))⟩, HB0.out.trans (((below_gr HBA.out hg1).grown hg2 (below_gr HBA.out hg1).size (fun k hk => Nat.le_trans HBA.out.size (hlt2 k hk).1)).mono HB0.out.size)⟩
  rw [List.append_assoc] at hrow
  exact hrow

set_option maxRecDepth 100000 in
set_option maxHeartbeats 4000000 in
theorem put_funS (p : Addr) (cs : List Value) (n cap : Nat) (y0 y1 : Int) (y2 : Option Addr) (y3 y4 : Nat) (w : World) (hr : RowIs w.heap.size w (some p) cs) (hl : cs.length = n * 3) (h1 : ∀ u ∈ cs, u.oneCell' = true) (hn : n ≤ 1000) (hc : n ≤ cap) (hck : ¬ cap = n) :
    Calls Tryz.prog 82 #[.slice (some p) n cap, .int .i64 (n : Nat), .agg #[.int .i64 y0, .int .i64 y1, .slice y2 y3 y4]] w fun e w' => (∃ a' cap', e = .returned (.slice a' (n + 1) cap') ∧ RowIs w'.heap.size w' a' (cs.take (n * 3) ++ ([.int .i64 y0, .int .i64 y1, .slice y2 y3 y4] ++ cs.drop (n * 3))) ∧ wfS a' (n + 1) cap' ∧ farS w.heap.size none a') ∧ Below w.heap.size w w' := by
  obtain ⟨i0, hi, hz0, hz1, hz2⟩ := parts_of info_fun
  have HR := Lib.hid hr
  have H1 := Lib.hid h1
  have hki : (n : Int) ≤ (cap : Int) := by omega
  clear hr h1
  have HB0 := Lib.hid (below1 w (.cells #[.int .i64 y0, .int .i64 y1, .slice y2 y3 y4] 29))
  have HX := Lib.hid (show BoxL (w.alloc (.cells #[.int .i64 y0, .int .i64 y1, .slice y2 y3 y4] 29)) w.heap.size [.int .i64 y0, .int .i64 y1, .slice y2 y3 y4] from BoxL.new w [.int .i64 y0, .int .i64 y1, .slice y2 y3 y4] 29)
  have HRO := Lib.hid (HR.out.on HB0.out)
  generalize hE : (w.alloc (.cells #[.int .i64 y0, .int .i64 y1, .slice y2 y3 y4] 29)) = W at HB0 HX HRO
  obtain ⟨g, hg⟩ : ∃ g, w.heap.size = g := ⟨_, rfl⟩
  rw [hg] at HX
  have c0 := (HX.out 0 _ rfl).1
  have c1 := (HX.out 1 _ rfl).1
  have c2 := (HX.out 2 _ rfl).1
  have HBA := Lib.hid (below_ad W (.cells #[.int .i64 y0, .int .i64 y1, .slice y2 y3 y4] 29))
  go_enter Tryz.func82, Tryz.ntmps82
  go_wp2_with fail
  go_region_law (first
    | (refine step_of_wp rfl ?_; refine wp_append_full (.tmp 10) (.tmp 12) 22 rfl 29 i0 (.agg #[.int .i64 0, .int .i64 0, .slice none 0 0]) 3 40 Tryz.underlying22 hi hz0 hz1 hz2 rfl (by decide) (some p) n (cs.take (n * 3)) rfl (by have h := @List.length_take _ (n * 3) cs; rw [hl] at h; omega) ((HRO.out.take _).on HBA.out) (fun h => by cases h) ⟨W.heap.size, 0, none⟩ 1 1 [.int .i64 y0, .int .i64 y1, .slice y2 y3 y4] rfl rfl (new_src W [.int .i64 y0, .int .i64 y1, .slice y2 y3 y4] 29) (by decide) (by simp only [maxLen]; omega) (by omega) ?_; intro v1 w1 hown1 hg1)
    | (refine step_of_wp rfl ?_; refine wp_append_row (.tmp 13) (.tmp 16) 22 rfl W.heap.size 29 i0 (.agg #[.int .i64 0, .int .i64 0, .slice none 0 0]) 3 40 Tryz.underlying22 hi hz0 hz1 hz2 rfl (by decide) v1 (n + 1) (cs.take (n * 3) ++ [.int .i64 y0, .int .i64 y1, .slice y2 y3 y4]) rfl (owns_base hown1 HBA.out.size) _ 0 _ (cs.drop (n * 3)) rfl (by have h := @List.length_drop _ (n * 3) cs; rw [hl] at h; omega) (by rw [List.drop_of_length_le (by rw [hl]; omega)]; exact RowIs.nil _ _ _) (fun h => by cases h) (fun u hu => H1.out u (List.mem_of_mem_drop hu)) (by simp only [maxLen]; omega) (by omega) (below_gr HBA.out hg1).size ?_; intro v2 w2 hown2 hg2))
  go_wp2_with fail
  go_ret
  have hlt2 := hown1.lt
  obtain ⟨a', cap', rfl, hrow, hwf, hfar⟩ := row_of_owns hown2
  refine ⟨⟨a', cap', rfl, ?_, hwf, fun p hp => .inr (Nat.le_trans HB0.out.size (hfar p hp))⟩, HB0.out.trans (((below_gr HBA.out hg1).grown hg2 (below_gr HBA.out hg1).size (fun k hk => Nat.le_trans HBA.out.size (hlt2 k hk).1)).mono HB0.out.size)⟩
  rw [List.append_assoc] at hrow
  exact hrow

set_option maxRecDepth 100000 in
set_option maxHeartbeats 4000000 in
theorem put_funM (b o : Nat) (cs : List Value) (n cap k : Nat) (y0 y1 : Int) (y2 : Option Addr) (y3 y4 : Nat) (w : World) (hr : RowIs w.heap.size w (some ⟨b, o, none⟩) cs) (hl : cs.length = n * 3) (h1 : ∀ u ∈ cs, u.oneCell' = true) (hn : n ≤ 1000) (hk : k < n) (hc : n ≤ cap) :
    Calls Tryz.prog 82 #[.slice (some ⟨b, o, none⟩) n cap, .int .i64 (k : Nat), .agg #[.int .i64 y0, .int .i64 y1, .slice y2 y3 y4]] w fun e w' => (∃ a' cap', e = .returned (.slice a' (n + 1) cap') ∧ RowIs w'.heap.size w' a' (cs.take (k * 3) ++ ([.int .i64 y0, .int .i64 y1, .slice y2 y3 y4] ++ cs.drop (k * 3))) ∧ wfS a' (n + 1) cap' ∧ farS w.heap.size none a') ∧ Below w.heap.size w w' := by
  obtain ⟨i0, hi, hz0, hz1, hz2⟩ := parts_of info_fun
  have HR := Lib.hid hr
  have H1 := Lib.hid h1
  have hki : (k : Int) ≤ (cap : Int) := by omega
  have hki2 : (k : Int) ≤ (n : Int) := by omega
  have hck : ¬ cap = k := by omega
  clear hr h1
  have HB0 := Lib.hid (below1 w (.cells #[.int .i64 y0, .int .i64 y1, .slice y2 y3 y4] 29))
  have HX := Lib.hid (show BoxL (w.alloc (.cells #[.int .i64 y0, .int .i64 y1, .slice y2 y3 y4] 29)) w.heap.size [.int .i64 y0, .int .i64 y1, .slice y2 y3 y4] from BoxL.new w [.int .i64 y0, .int .i64 y1, .slice y2 y3 y4] 29)
  have HRO := Lib.hid (HR.out.on HB0.out)
  generalize hE : (w.alloc (.cells #[.int .i64 y0, .int .i64 y1, .slice y2 y3 y4] 29)) = W at HB0 HX HRO
  obtain ⟨g, hg⟩ : ∃ g, w.heap.size = g := ⟨_, rfl⟩
  rw [hg] at HX
  have c0 := (HX.out 0 _ rfl).1
  have c1 := (HX.out 1 _ rfl).1
  have c2 := (HX.out 2 _ rfl).1
  have HBA := Lib.hid (below_ad W (.cells #[.int .i64 y0, .int .i64 y1, .slice y2 y3 y4] 29))
  go_enter Tryz.func82, Tryz.ntmps82
  go_wp2_with fail
  go_region_law (first
    | (refine step_of_wp rfl ?_; refine wp_append_full (.tmp 10) (.tmp 12) 22 rfl 29 i0 (.agg #[.int .i64 0, .int .i64 0, .slice none 0 0]) 3 40 Tryz.underlying22 hi hz0 hz1 hz2 rfl (by decide) (some ⟨b, o, none⟩) k (cs.take (k * 3)) rfl (by have h := @List.length_take _ (k * 3) cs; rw [hl] at h; omega) ((HRO.out.take _).on HBA.out) (fun h => by cases h) ⟨W.heap.size, 0, none⟩ 1 1 [.int .i64 y0, .int .i64 y1, .slice y2 y3 y4] rfl rfl (new_src W [.int .i64 y0, .int .i64 y1, .slice y2 y3 y4] 29) (by decide) (by simp only [maxLen]; omega) (by omega) ?_; intro v1 w1 hown1 hg1)
    | (refine step_of_wp rfl ?_; refine wp_append_row (.tmp 13) (.tmp 16) 22 rfl W.heap.size 29 i0 (.agg #[.int .i64 0, .int .i64 0, .slice none 0 0]) 3 40 Tryz.underlying22 hi hz0 hz1 hz2 rfl (by decide) v1 (k + 1) (cs.take (k * 3) ++ [.int .i64 y0, .int .i64 y1, .slice y2 y3 y4]) rfl (owns_base hown1 HBA.out.size) _ (n - k) _ (cs.drop (k * 3)) rfl (by have h := @List.length_drop _ (k * 3) cs; rw [hl] at h; omega) (by have h := (HRO.out.drop (k * 3)).on (below_gr HBA.out hg1); simpa only [Nat.mul_one] using h) (fun h => by cases h) (fun u hu => H1.out u (List.mem_of_mem_drop hu)) (by simp only [maxLen]; omega) (by omega) (below_gr HBA.out hg1).size ?_; intro v2 w2 hown2 hg2))
  go_wp2_with fail
  go_ret
  have hlt2 := hown1.lt
  obtain ⟨a', cap', rfl, hrow, hwf, hfar⟩ := row_of_owns hown2
  refine ⟨⟨a', cap', (by rw [show k + 1 + (n - k) = n + 1 by omega]; rfl), ?_, (by rwa [show k + 1 + (n - k) = n + 1 by omega] at hwf), fun p hp => .inr (Nat.le_trans HB0.out.size (hfar p hp))⟩, HB0.out.trans (((below_gr HBA.out hg1).grown hg2 (below_gr HBA.out hg1).size (fun k hk => Nat.le_trans HBA.out.size (hlt2 k hk).1)).mono HB0.out.size)⟩
  rw [List.append_assoc] at hrow
  exact hrow

theorem put_fun (a : Option Addr) (cs : List Value) (n cap k : Nat) (y0 y1 : Int) (y2 : Option Addr) (y3 y4 : Nat) (w : World) (hr : RowIs w.heap.size w a cs) (hl : cs.length = n * 3) (h1 : ∀ u ∈ cs, u.oneCell' = true) (hn : n ≤ 1000) (hk : k ≤ n) (hc : n ≤ cap) (ha : a = none → cap = 0) :
    Calls Tryz.prog 82 #[.slice a n cap, .int .i64 (k : Nat), .agg #[.int .i64 y0, .int .i64 y1, .slice y2 y3 y4]] w fun e w' => (∃ a' cap', e = .returned (.slice a' (n + 1) cap') ∧ RowIs w'.heap.size w' a' (cs.take (k * 3) ++ ([.int .i64 y0, .int .i64 y1, .slice y2 y3 y4] ++ cs.drop (k * 3))) ∧ wfS a' (n + 1) cap' ∧ farS w.heap.size none a') ∧ Below w.heap.size w w' := by
  by_cases hkn : k = n
  · subst hkn
    cases a with
    | none =>
      obtain rfl := ha rfl
      obtain rfl : k = 0 := by omega
      exact put_funN cs y0 y1 y2 y3 y4 w hr hl h1
    | some p =>
      by_cases hck : cap = k
      · exact put_funE p cs k cap y0 y1 y2 y3 y4 w hr hl h1 hn hck.symm
      · exact put_funS p cs k cap y0 y1 y2 y3 y4 w hr hl h1 hn hc hck
  · have hj : 0 < cs.length := by rw [hl]; omega
    obtain ⟨b, o, rfl, -, -⟩ := hr 0 cs[0] (by simp [hj])
    exact put_funM b o cs n cap k y0 y1 y2 y3 y4 w hr hl h1 hn (by omega) hc

set_option maxRecDepth 100000 in
set_option maxHeartbeats 4000000 in
theorem put_blkN (cs : List Value) (y0 : Bool) (y1 : Option Addr) (y2 y3 : Nat) (y4 : Option Addr) (y5 y6 : Nat) (w : World) (hr : RowIs w.heap.size w none cs) (hl : cs.length = 0 * 3) (h1 : ∀ u ∈ cs, u.oneCell' = true)  :
    Calls Tryz.prog 149 #[.slice none 0 0, .int .i64 (0 : Nat), .agg #[.bool y0, .slice y1 y2 y3, .slice y4 y5 y6]] w fun e w' => (∃ a' cap', e = .returned (.slice a' (0 + 1) cap') ∧ RowIs w'.heap.size w' a' (cs.take (0 * 3) ++ ([.bool y0, .slice y1 y2 y3, .slice y4 y5 y6] ++ cs.drop (0 * 3))) ∧ wfS a' (0 + 1) cap' ∧ farS w.heap.size none a') ∧ Below w.heap.size w w' := by
  obtain ⟨i0, hi, hz0, hz1, hz2⟩ := parts_of info_blk
  have HR := Lib.hid hr
  have H1 := Lib.hid h1

  clear hr h1
  have HB0 := Lib.hid (below1 w (.cells #[.bool y0, .slice y1 y2 y3, .slice y4 y5 y6] 35))
  have HX := Lib.hid (show BoxL (w.alloc (.cells #[.bool y0, .slice y1 y2 y3, .slice y4 y5 y6] 35)) w.heap.size [.bool y0, .slice y1 y2 y3, .slice y4 y5 y6] from BoxL.new w [.bool y0, .slice y1 y2 y3, .slice y4 y5 y6] 35)
  have HRO := Lib.hid (HR.out.on HB0.out)
  generalize hE : (w.alloc (.cells #[.bool y0, .slice y1 y2 y3, .slice y4 y5 y6] 35)) = W at HB0 HX HRO
  obtain ⟨g, hg⟩ : ∃ g, w.heap.size = g := ⟨_, rfl⟩
  rw [hg] at HX
  have c0 := (HX.out 0 _ rfl).1
  have c1 := (HX.out 1 _ rfl).1
  have c2 := (HX.out 2 _ rfl).1
  have HBA := Lib.hid (below_ad W (.cells #[.bool y0, .slice y1 y2 y3, .slice y4 y5 y6] 35))
  go_enter Tryz.func149, Tryz.ntmps149
  go_wp2_with fail
  go_region_law (first
    | (refine step_of_wp rfl ?_; refine wp_append_full (.tmp 10) (.tmp 12) 27 rfl 35 i0 (.agg #[.bool false, .slice none 0 0, .slice none 0 0]) 3 56 Tryz.underlying27 hi hz0 hz1 hz2 rfl (by decide) none 0 (cs.take (0 * 3)) rfl (by have h := @List.length_take _ (0 * 3) cs; rw [hl] at h; omega) ((HRO.out.take _).on HBA.out) (fun _ => rfl) ⟨W.heap.size, 0, none⟩ 1 1 [.bool y0, .slice y1 y2 y3, .slice y4 y5 y6] rfl rfl (new_src W [.bool y0, .slice y1 y2 y3, .slice y4 y5 y6] 35) (by decide) (by simp only [maxLen]; omega) (by omega) ?_; intro v1 w1 hown1 hg1)
    | (refine step_of_wp rfl ?_; refine wp_append_row (.tmp 13) (.tmp 16) 27 rfl W.heap.size 35 i0 (.agg #[.bool false, .slice none 0 0, .slice none 0 0]) 3 56 Tryz.underlying27 hi hz0 hz1 hz2 rfl (by decide) v1 (0 + 1) (cs.take (0 * 3) ++ [.bool y0, .slice y1 y2 y3, .slice y4 y5 y6]) rfl (owns_base hown1 HBA.out.size) _ 0 _ (cs.drop (0 * 3)) rfl (by have h := @List.length_drop _ (0 * 3) cs; rw [hl] at h; omega) (by rw [List.drop_of_length_le (by rw [hl]; omega)]; exact RowIs.nil _ _ _) (fun _ => ⟨rfl, rfl⟩) (fun u hu => H1.out u (List.mem_of_mem_drop hu)) (by simp only [maxLen]; omega) (by omega) (below_gr HBA.out hg1).size ?_; intro v2 w2 hown2 hg2))
  go_wp2_with fail
  go_ret
  have hlt2 := hown1.lt
  obtain ⟨a', cap', rfl, hrow, hwf, hfar⟩ := row_of_owns hown2
  refine ⟨⟨a', cap', rfl, ?_, hwf, fun p hp => .inr (Nat.le_trans HB0.out.size (hfar p hp))⟩, HB0.out.trans (((below_gr HBA.out hg1).grown hg2 (below_gr HBA.out hg1).size (fun k hk => Nat.le_trans HBA.out.size (hlt2 k hk).1)).mono HB0.out.size)⟩
  rw [List.append_assoc] at hrow
  exact hrow

set_option maxRecDepth 100000 in
set_option maxHeartbeats 4000000 in
theorem put_blkE (p : Addr) (cs : List Value) (n cap : Nat) (y0 : Bool) (y1 : Option Addr) (y2 y3 : Nat) (y4 : Option Addr) (y5 y6 : Nat) (w : World) (hr : RowIs w.heap.size w (some p) cs) (hl : cs.length = n * 3) (h1 : ∀ u ∈ cs, u.oneCell' = true) (hn : n ≤ 1000) (hc : n = cap) :
    Calls Tryz.prog 149 #[.slice (some p) n cap, .int .i64 (n : Nat), .agg #[.bool y0, .slice y1 y2 y3, .slice y4 y5 y6]] w fun e w' => (∃ a' cap', e = .returned (.slice a' (n + 1) cap') ∧ RowIs w'.heap.size w' a' (cs.take (n * 3) ++ ([.bool y0, .slice y1 y2 y3, .slice y4 y5 y6] ++ cs.drop (n * 3))) ∧ wfS a' (n + 1) cap' ∧ farS w.heap.size none a') ∧ Below w.heap.size w w' := by
  obtain ⟨i0, hi, hz0, hz1, hz2⟩ := parts_of info_blk
  have HR := Lib.hid hr
  have H1 := Lib.hid h1
  subst hc
  clear hr h1
  have HB0 := Lib.hid (below1 w (.cells #[.bool y0, .slice y1 y2 y3, .slice y4 y5 y6] 35))
  have HX := Lib.hid (show BoxL (w.alloc (.cells #[.bool y0, .slice y1 y2 y3, .slice y4 y5 y6] 35)) w.heap.size [.bool y0, .slice y1 y2 y3, .slice y4 y5 y6] from BoxL.new w [.bool y0, .slice y1 y2 y3, .slice y4 y5 y6] 35)
  have HRO := Lib.hid (HR.out.on HB0.out)
  generalize hE : (w.alloc (.cells #[.bool y0, .slice y1 y2 y3, .slice y4 y5 y6] 35)) = W at HB0 HX HRO
  obtain ⟨g, hg⟩ : ∃ g, w.heap.size = g := ⟨_, rfl⟩
  rw [hg] at HX
  have c0 := (HX.out 0 _ rfl).1
  have c1 := (HX.out 1 _ rfl).1
  have c2 := (HX.out 2 _ rfl).1
  have HBA := Lib.hid (below_ad W (.cells #[.bool y0, .slice y1 y2 y3, .slice y4 y5 y6] 35))
  go_enter Tryz.func149, Tryz.ntmps149
  go_wp2_with fail
  go_region_law (first
    | (refine step_of_wp rfl ?_; refine wp_append_full (.tmp 10) (.tmp 12) 27 rfl 35 i0 (.agg #[.bool false, .slice none 0 0, .slice none 0 0]) 3 56 Tryz.underlying27 hi hz0 hz1 hz2 rfl (by decide) (some p) n (cs.take (n * 3)) rfl (by have h := @List.length_take _ (n * 3) cs; rw [hl] at h; omega) ((HRO.out.take _).on HBA.out) (fun h => by cases h) ⟨W.heap.size, 0, none⟩ 1 1 [.bool y0, .slice y1 y2 y3, .slice y4 y5 y6] rfl rfl (new_src W [.bool y0, .slice y1 y2 y3, .slice y4 y5 y6] 35) (by decide) (by simp only [maxLen]; omega) (by omega) ?_; intro v1 w1 hown1 hg1)
    | (refine step_of_wp rfl ?_; refine wp_append_row (.tmp 13) (.tmp 16) 27 rfl W.heap.size 35 i0 (.agg #[.bool false, .slice none 0 0, .slice none 0 0]) 3 56 Tryz.underlying27 hi hz0 hz1 hz2 rfl (by decide) v1 (n + 1) (cs.take (n * 3) ++ [.bool y0, .slice y1 y2 y3, .slice y4 y5 y6]) rfl (owns_base hown1 HBA.out.size) _ 0 _ (cs.drop (n * 3)) rfl (by have h := @List.length_drop _ (n * 3) cs; rw [hl] at h; omega) (by rw [List.drop_of_length_le (by rw [hl]; omega)]; exact RowIs.nil _ _ _) (fun h => by cases h) (fun u hu => H1.out u (List.mem_of_mem_drop hu)) (by simp only [maxLen]; omega) (by omega) (below_gr HBA.out hg1).size ?_; intro v2 w2 hown2 hg2))
  go_wp2_with fail
  go_ret
  have hlt2 := hown1.lt
  obtain ⟨a', cap', rfl, hrow, hwf, hfar⟩ := row_of_owns hown2
  refine ⟨⟨a', cap', rfl, ?_, hwf, fun p hp => .inr (Nat.le_trans HB0.out.size (hfar p hp))⟩, HB0.out.trans (((below_gr HBA.out hg1).grown hg2 (below_gr HBA.out hg1).size (fun k hk => Nat.le_trans HBA.out.size (hlt2 k hk).1)).mono HB0.out.size)⟩
  rw [List.append_assoc] at hrow
  exact hrow

set_option maxRecDepth 100000 in
set_option maxHeartbeats 4000000 in
theorem put_blkS (p : Addr) (cs : List Value) (n cap : Nat) (y0 : Bool) (y1 : Option Addr) (y2 y3 : Nat) (y4 : Option Addr) (y5 y6 : Nat) (w : World) (hr : RowIs w.heap.size w (some p) cs) (hl : cs.length = n * 3) (h1 : ∀ u ∈ cs, u.oneCell' = true) (hn : n ≤ 1000) (hc : n ≤ cap) (hck : ¬ cap = n) :
    Calls Tryz.prog 149 #[.slice (some p) n cap, .int .i64 (n : Nat), .agg #[.bool y0, .slice y1 y2 y3, .slice y4 y5 y6]] w fun e w' => (∃ a' cap', e = .returned (.slice a' (n + 1) cap') ∧ RowIs w'.heap.size w' a' (cs.take (n * 3) ++ ([.bool y0, .slice y1 y2 y3, .slice y4 y5 y6] ++ cs.drop (n * 3))) ∧ wfS a' (n + 1) cap' ∧ farS w.heap.size none a') ∧ Below w.heap.size w w' := by
  obtain ⟨i0, hi, hz0, hz1, hz2⟩ := parts_of info_blk
  have HR := Lib.hid hr
  have H1 := Lib.hid h1
  have hki : (n : Int) ≤ (cap : Int) := by omega
  clear hr h1
  have HB0 := Lib.hid (below1 w (.cells #[.bool y0, .slice y1 y2 y3, .slice y4 y5 y6] 35))
  have HX := Lib.hid (show BoxL (w.alloc (.cells #[.bool y0, .slice y1 y2 y3, .slice y4 y5 y6] 35)) w.heap.size [.bool y0, .slice y1 y2 y3, .slice y4 y5 y6] from BoxL.new w [.bool y0, .slice y1 y2 y3, .slice y4 y5 y6] 35)
  have HRO := Lib.hid (HR.out.on HB0.out)
  generalize hE : (w.alloc (.cells #[.bool y0, .slice y1 y2 y3, .slice y4 y5 y6] 35)) = W at HB0 HX HRO
  obtain ⟨g, hg⟩ : ∃ g, w.heap.size = g := ⟨_, rfl⟩
  rw [hg] at HX
  have c0 := (HX.out 0 _ rfl).1
  have c1 := (HX.out 1 _ rfl).1
  have c2 := (HX.out 2 _ rfl).1
  have HBA := Lib.hid (below_ad W (.cells #[.bool y0, .slice y1 y2 y3, .slice y4 y5 y6] 35))
  go_enter Tryz.func149, Tryz.ntmps149
  go_wp2_with fail
  go_region_law (first
    | (refine step_of_wp rfl ?_; refine wp_append_full (.tmp 10) (.tmp 12) 27 rfl 35 i0 (.agg #[.bool false, .slice none 0 0, .slice none 0 0]) 3 56 Tryz.underlying27 hi hz0 hz1 hz2 rfl (by decide) (some p) n (cs.take (n * 3)) rfl (by have h := @List.length_take _ (n * 3) cs; rw [hl] at h; omega) ((HRO.out.take _).on HBA.out) (fun h => by cases h) ⟨W.heap.size, 0, none⟩ 1 1 [.bool y0, .slice y1 y2 y3, .slice y4 y5 y6] rfl rfl (new_src W [.bool y0, .slice y1 y2 y3, .slice y4 y5 y6] 35) (by decide) (by simp only [maxLen]; omega) (by omega) ?_; intro v1 w1 hown1 hg1)
    | (refine step_of_wp rfl ?_; refine wp_append_row (.tmp 13) (.tmp 16) 27 rfl W.heap.size 35 i0 (.agg #[.bool false, .slice none 0 0, .slice none 0 0]) 3 56 Tryz.underlying27 hi hz0 hz1 hz2 rfl (by decide) v1 (n + 1) (cs.take (n * 3) ++ [.bool y0, .slice y1 y2 y3, .slice y4 y5 y6]) rfl (owns_base hown1 HBA.out.size) _ 0 _ (cs.drop (n * 3)) rfl (by have h := @List.length_drop _ (n * 3) cs; rw [hl] at h; omega) (by rw [List.drop_of_length_le (by rw [hl]; omega)]; exact RowIs.nil _ _ _) (fun h => by cases h) (fun u hu => H1.out u (List.mem_of_mem_drop hu)) (by simp only [maxLen]; omega) (by omega) (below_gr HBA.out hg1).size ?_; intro v2 w2 hown2 hg2))
  go_wp2_with fail
  go_ret
  have hlt2 := hown1.lt
  obtain ⟨a', cap', rfl, hrow, hwf, hfar⟩ := row_of_owns hown2
  refine ⟨⟨a', cap', rfl, ?_, hwf, fun p hp => .inr (Nat.le_trans HB0.out.size (hfar p hp))⟩, HB0.out.trans (((below_gr HBA.out hg1).grown hg2 (below_gr HBA.out hg1).size (fun k hk => Nat.le_trans HBA.out.size (hlt2 k hk).1)).mono HB0.out.size)⟩
  rw [List.append_assoc] at hrow
  exact hrow

set_option maxRecDepth 100000 in
set_option maxHeartbeats 4000000 in
theorem put_blkM (b o : Nat) (cs : List Value) (n cap k : Nat) (y0 : Bool) (y1 : Option Addr) (y2 y3 : Nat) (y4 : Option Addr) (y5 y6 : Nat) (w : World) (hr : RowIs w.heap.size w (some ⟨b, o, none⟩) cs) (hl : cs.length = n * 3) (h1 : ∀ u ∈ cs, u.oneCell' = true) (hn : n ≤ 1000) (hk : k < n) (hc : n ≤ cap) :
    Calls Tryz.prog 149 #[.slice (some ⟨b, o, none⟩) n cap, .int .i64 (k : Nat), .agg #[.bool y0, .slice y1 y2 y3, .slice y4 y5 y6]] w fun e w' => (∃ a' cap', e = .returned (.slice a' (n + 1) cap') ∧ RowIs w'.heap.size w' a' (cs.take (k * 3) ++ ([.bool y0, .slice y1 y2 y3, .slice y4 y5 y6] ++ cs.drop (k * 3))) ∧ wfS a' (n + 1) cap' ∧ farS w.heap.size none a') ∧ Below w.heap.size w w' := by
  obtain ⟨i0, hi, hz0, hz1, hz2⟩ := parts_of info_blk
  have HR := Lib.hid hr
  have H1 := Lib.hid h1
  have hki : (k : Int) ≤ (cap : Int) := by omega
  have hki2 : (k : Int) ≤ (n : Int) := by omega
  have hck : ¬ cap = k := by omega
  clear hr h1
  have HB0 := Lib.hid (below1 w (.cells #[.bool y0, .slice y1 y2 y3, .slice y4 y5 y6] 35))
  have HX := Lib.hid (show BoxL (w.alloc (.cells #[.bool y0, .slice y1 y2 y3, .slice y4 y5 y6] 35)) w.heap.size [.bool y0, .slice y1 y2 y3, .slice y4 y5 y6] from BoxL.new w [.bool y0, .slice y1 y2 y3, .slice y4 y5 y6] 35)
  have HRO := Lib.hid (HR.out.on HB0.out)
  generalize hE : (w.alloc (.cells #[.bool y0, .slice y1 y2 y3, .slice y4 y5 y6] 35)) = W at HB0 HX HRO
  obtain ⟨g, hg⟩ : ∃ g, w.heap.size = g := ⟨_, rfl⟩
  rw [hg] at HX
  have c0 := (HX.out 0 _ rfl).1
  have c1 := (HX.out 1 _ rfl).1
  have c2 := (HX.out 2 _ rfl).1
  have HBA := Lib.hid (below_ad W (.cells #[.bool y0, .slice y1 y2 y3, .slice y4 y5 y6] 35))
  go_enter Tryz.func149, Tryz.ntmps149
  go_wp2_with fail
  go_region_law (first
    | (refine step_of_wp rfl ?_; refine wp_append_full (.tmp 10) (.tmp 12) 27 rfl 35 i0 (.agg #[.bool false, .slice none 0 0, .slice none 0 0]) 3 56 Tryz.underlying27 hi hz0 hz1 hz2 rfl (by decide) (some ⟨b, o, none⟩) k (cs.take (k * 3)) rfl (by have h := @List.length_take _ (k * 3) cs; rw [hl] at h; omega) ((HRO.out.take _).on HBA.out) (fun h => by cases h) ⟨W.heap.size, 0, none⟩ 1 1 [.bool y0, .slice y1 y2 y3, .slice y4 y5 y6] rfl rfl (new_src W [.bool y0, .slice y1 y2 y3, .slice y4 y5 y6] 35) (by decide) (by simp only [maxLen]; omega) (by omega) ?_; intro v1 w1 hown1 hg1)
    | (refine step_of_wp rfl ?_; refine wp_append_row (.tmp 13) (.tmp 16) 27 rfl W.heap.size 35 i0 (.agg #[.bool false, .slice none 0 0, .slice none 0 0]) 3 56 Tryz.underlying27 hi hz0 hz1 hz2 rfl (by decide) v1 (k + 1) (cs.take (k * 3) ++ [.bool y0, .slice y1 y2 y3, .slice y4 y5 y6]) rfl (owns_base hown1 HBA.out.size) _ (n - k) _ (cs.drop (k * 3)) rfl (by have h := @List.length_drop _ (k * 3) cs; rw [hl] at h; omega) (by have h := (HRO.out.drop (k * 3)).on (below_gr HBA.out hg1); simpa only [Nat.mul_one] using h) (fun h => by cases h) (fun u hu => H1.out u (List.mem_of_mem_drop hu)) (by simp only [maxLen]; omega) (by omega) (below_gr HBA.out hg1).size ?_; intro v2 w2 hown2 hg2))
  go_wp2_with fail
  go_ret
  have hlt2 := hown1.lt
  obtain ⟨a', cap', rfl, hrow, hwf, hfar⟩ := row_of_owns hown2
  refine ⟨⟨a', cap', (by rw [show k + 1 + (n - k) = n + 1 by omega]; rfl), ?_, (by rwa [show k + 1 + (n - k) = n + 1 by omega] at hwf), fun p hp => .inr (Nat.le_trans HB0.out.size (hfar p hp))⟩, HB0.out.trans (((below_gr HBA.out hg1).grown hg2 (below_gr HBA.out hg1).size (fun k hk => Nat.le_trans HBA.out.size (hlt2 k hk).1)).mono HB0.out.size)⟩
  rw [List.append_assoc] at hrow
  exact hrow

theorem put_blk (a : Option Addr) (cs : List Value) (n cap k : Nat) (y0 : Bool) (y1 : Option Addr) (y2 y3 : Nat) (y4 : Option Addr) (y5 y6 : Nat) (w : World) (hr : RowIs w.heap.size w a cs) (hl : cs.length = n * 3) (h1 : ∀ u ∈ cs, u.oneCell' = true) (hn : n ≤ 1000) (hk : k ≤ n) (hc : n ≤ cap) (ha : a = none → cap = 0) :
    Calls Tryz.prog 149 #[.slice a n cap, .int .i64 (k : Nat), .agg #[.bool y0, .slice y1 y2 y3, .slice y4 y5 y6]] w fun e w' => (∃ a' cap', e = .returned (.slice a' (n + 1) cap') ∧ RowIs w'.heap.size w' a' (cs.take (k * 3) ++ ([.bool y0, .slice y1 y2 y3, .slice y4 y5 y6] ++ cs.drop (k * 3))) ∧ wfS a' (n + 1) cap' ∧ farS w.heap.size none a') ∧ Below w.heap.size w w' := by
  by_cases hkn : k = n
  · subst hkn
    cases a with
    | none =>
      obtain rfl := ha rfl
      obtain rfl : k = 0 := by omega
      exact put_blkN cs y0 y1 y2 y3 y4 y5 y6 w hr hl h1
    | some p =>
      by_cases hck : cap = k
      · exact put_blkE p cs k cap y0 y1 y2 y3 y4 y5 y6 w hr hl h1 hn hck.symm
      · exact put_blkS p cs k cap y0 y1 y2 y3 y4 y5 y6 w hr hl h1 hn hc hck
  · have hj : 0 < cs.length := by rw [hl]; omega
    obtain ⟨b, o, rfl, -, -⟩ := hr 0 cs[0] (by simp [hj])
    exact put_blkM b o cs n cap k y0 y1 y2 y3 y4 y5 y6 w hr hl h1 hn (by omega) hc

end Go.Proofs.YtbddjneinfkmpaaGreatDoor

namespace Go.Proofs.YtbddjneinfkmpaaGreatDoor
open Go Go.RowKit Go.Sort

theorem RowIs.set {B : Nat} {W : World} {g : Nat} {cs : List Value} (h : RowIs B W (some ⟨g, 0, none⟩) cs) (j : Nat) (hj : j < cs.length) (u : Value) : RowIs B (W.setCell ⟨g, j, none⟩ u) (some ⟨g, 0, none⟩) (cs.set j u) := fun k v hk => by
  rw [List.getElem?_set] at hk
  by_cases e : j = k
  · subst e
    rw [if_pos rfl, if_pos hj] at hk
    cases hk
    obtain ⟨b, o, e, hlt, hc⟩ := h j cs[j] (by simp [hj])
    cases e
    refine ⟨g, 0, rfl, hlt, ?_⟩
    rw [Nat.zero_add] at hc ⊢
    exact World.cell?_setCell_same' _ _ _ (by rw [hc]; rfl)
  · rw [if_neg e] at hk
    obtain ⟨b, o, e2, hlt, hc⟩ := h k v hk
    cases e2
    refine ⟨g, 0, rfl, hlt, ?_⟩
    rw [World.cell?_setCell_other _ _ _ _ (by simp only [ne_eq, Addr.mk.injEq, true_and, and_true]; omega)]
    exact hc
theorem size_set (W : World) (p : Addr) (u : Value) : (W.setCell p u).heap.size = W.heap.size := by simp [World.setCell]
theorem row_block {W : World} {g : Nat} {cs : List Value} {t : TypeId} (h : W.heap[g]? = some (.cells cs.toArray t (0, 0))) : RowIs W.heap.size W (some ⟨g, 0, none⟩) cs := fun j v hj => by
  refine ⟨g, 0, rfl, (Array.getElem?_eq_some_iff.1 h).1, ?_⟩
  rw [Nat.zero_add, cell_of_row W g j _ t (0, 0) h]
  simpa using hj
theorem frozen_block {W : World} {g j : Nat} {cs : Array Value} {t : TypeId} (h : W.heap[g]? = some (.cells cs t (0, 0))) : W.frozen? ⟨g, j, none⟩ = false := by
  simp [World.frozen?, h]
theorem row_at {W : World} {g : Nat} {cs : List Value} {t : TypeId} (h : W.heap[g]? = some (.cells cs.toArray t (0, 0))) (j : Nat) (hj : j < cs.length) : W.cell? ⟨g, j, none⟩ = some cs[j] ∧ W.frozen? ⟨g, j, none⟩ = false := by
  refine ⟨?_, frozen_block h⟩
  rw [cell_of_row W g j _ t (0, 0) h]
  simp [hj]

theorem mk_fun (n : Nat) (hn : n ≤ 1000) (W : World) : ∃ cur : Array Value, cur.size = n * 3 ∧ (Instr.makeSlice 22 (.int .i64 (n : Nat)) (.int .i64 (n : Nat))).run Tryz.prog W = .ok (.slice (some ⟨W.heap.size, 0, none⟩) n n) (W.alloc (.cells cur 29)) := by
  obtain ⟨i0, hi, hz0, hz1, hz2⟩ := parts_of info_fun
  have h := run_makeSlice (P := Tryz.prog) W 22 29 i0 (.agg #[.int .i64 0, .int .i64 0, .slice none 0 0]) Tryz.underlying22 hi hz0 .i64 .i64 (n : Int) (n : Int) (by omega) (Int.le_refl _) (by rw [hz1]; simp; omega) (by rw [hz2]; omega) (by omega)
  rw [Int.toNat_natCast, hz1] at h
  exact ⟨_, size_madeCells _ _, h⟩

set_option maxRecDepth 100000 in
set_option maxHeartbeats 4000000 in
theorem set_funM (b o : Nat) (cs : List Value) (n cap k : Nat) (y0 y1 : Int) (y2 : Option Addr) (y3 y4 : Nat) (w : World) (hr : RowIs w.heap.size w (some ⟨b, o, none⟩) cs) (hl : cs.length = n * 3) (h1 : ∀ u ∈ cs, u.oneCell' = true) (hn : n ≤ 1000) (hk : k < n) :
    Calls Tryz.prog 85 #[.slice (some ⟨b, o, none⟩) n cap, .int .i64 (k : Nat), .agg #[.int .i64 y0, .int .i64 y1, .slice y2 y3 y4]] w fun e w' => (∃ g' : Nat, e = .returned (.slice (some ⟨g', 0, none⟩) n n) ∧ w.heap.size ≤ g' ∧ w'.heap[g']? = some (.cells (List.toArray (((cs.set (k * 3) (.int .i64 y0)).set (k * 3 + 1) (.int .i64 y1)).set (k * 3 + 2) (.slice y2 y3 y4))) 29 (0, 0))) ∧ Below w.heap.size w w' := by
  obtain ⟨i0, hi, hz0, hz1, hz2⟩ := parts_of info_fun
  have HR := Lib.hid hr
  have H1 := Lib.hid h1
  have HL := Lib.hid hl
  have hkn : (k : Int) < (n : Int) := by omega
  have HB0 := Lib.hid (below1 w (.cells #[.int .i64 y0, .int .i64 y1, .slice y2 y3 y4] 29))
  have HX := Lib.hid (show BoxL (w.alloc (.cells #[.int .i64 y0, .int .i64 y1, .slice y2 y3 y4] 29)) w.heap.size [.int .i64 y0, .int .i64 y1, .slice y2 y3 y4] from BoxL.new w [.int .i64 y0, .int .i64 y1, .slice y2 y3 y4] 29)
  have HRO := Lib.hid (HR.out.on HB0.out)
  generalize hE : w.alloc (.cells #[.int .i64 y0, .int .i64 y1, .slice y2 y3 y4] 29) = W at HB0 HX HRO
  obtain ⟨g, hg⟩ : ∃ g, w.heap.size = g := ⟨_, rfl⟩
  rw [hg] at HX
  have HXL := Lib.hid (HX.out.lt (Nat.zero_lt_succ _))
  obtain ⟨cur, hcur, hmk⟩ := mk_fun n hn W
  have HCU := Lib.hid hcur
  have HBM := Lib.hid (below1 W (.cells cur 29))
  have HRM := Lib.hid (HRO.out.on HBM.out)
  have HHG : Hid ((W.alloc (.cells cur 29)).heap[W.heap.size]? = some (.cells cur 29 (0, 0))) := Lib.hid (heap_alloc_new W _)
  clear hr h1 hcur
  go_enter Tryz.func85, Tryz.ntmps85
  go_wp2_with (refine wpList_copy_whole (o := ⟨some 13, _, _, _, _, _⟩) rfl (.tmp 11) (.tmp 12) 22 22 rfl 29 i0 3 Tryz.underlying22 hi hz1 W.heap.size n n cap ⟨b, o, none⟩ rfl rfl cur 29 HHG.out HCU.out cs HL.out HRM.out.cells H1.out ?_; intro w2 hw2 hg2; have HB2 := Lib.hid (show Below W.heap.size W w2 from HBM.out.grown hg2 HBM.out.size (fun k hk => by cases hk; exact Nat.le_refl _)); have HR2 := Lib.hid (row_block hw2); obtain ⟨q0, f0⟩ := row_at hw2 (k * 3) (by omega); obtain ⟨q1, f1⟩ := row_at hw2 (k * 3 + 1) (by omega); obtain ⟨q2, f2⟩ := row_at hw2 (k * 3 + 2) (by omega); have c0 := ((HX.out.below HB2.out HXL.out) 0 _ rfl).1; have c1 := ((HX.out.below HB2.out HXL.out) 1 _ rfl).1; have c2 := ((HX.out.below HB2.out HXL.out) 2 _ rfl).1)
  go_ret
  refine ⟨⟨W.heap.size, rfl, HB0.out.size, ?_⟩, ?_⟩
  · have e1 := heap_setCell_same w2 W.heap.size (k * 3) _ _ (.int .i64 y0) hw2
    have e2 := heap_setCell_same _ W.heap.size (k * 3 + 1) _ _ (.int .i64 y1) e1
    have e3 := heap_setCell_same _ W.heap.size (k * 3 + 2) _ _ (.slice y2 y3 y4) e2
    simp only [List.setIfInBounds_toArray] at e3
    exact e3
  · have hb := HB0.out.trans (HB2.out.mono HB0.out.size)
    rw [hg] at hb ⊢
    have hgm : g ≤ W.heap.size := Nat.le_of_lt HXL.out
    exact ((hb.setCell (p := ⟨W.heap.size, k * 3, none⟩) hgm _).setCell (p := ⟨W.heap.size, k * 3 + 1, none⟩) hgm _).setCell (p := ⟨W.heap.size, k * 3 + 2, none⟩) hgm _

theorem set_fun (a : Option Addr) (cs : List Value) (n cap k : Nat) (y0 y1 : Int) (y2 : Option Addr) (y3 y4 : Nat) (w : World) (hr : RowIs w.heap.size w a cs) (hl : cs.length = n * 3) (h1 : ∀ u ∈ cs, u.oneCell' = true) (hn : n ≤ 1000) (hk : k < n) :
    Calls Tryz.prog 85 #[.slice a n cap, .int .i64 (k : Nat), .agg #[.int .i64 y0, .int .i64 y1, .slice y2 y3 y4]] w fun e w' => (∃ g' : Nat, e = .returned (.slice (some ⟨g', 0, none⟩) n n) ∧ w.heap.size ≤ g' ∧ w'.heap[g']? = some (.cells (List.toArray (((cs.set (k * 3) (.int .i64 y0)).set (k * 3 + 1) (.int .i64 y1)).set (k * 3 + 2) (.slice y2 y3 y4))) 29 (0, 0))) ∧ Below w.heap.size w w' := by
  have hj : 0 < cs.length := by rw [hl]; omega
  obtain ⟨b, o, rfl, -, -⟩ := hr 0 cs[0] (by simp [hj])
  exact set_funM b o cs n cap k y0 y1 y2 y3 y4 w hr hl h1 hn hk

theorem mk_blk (n : Nat) (hn : n ≤ 1000) (W : World) : ∃ cur : Array Value, cur.size = n * 3 ∧ (Instr.makeSlice 27 (.int .i64 (n : Nat)) (.int .i64 (n : Nat))).run Tryz.prog W = .ok (.slice (some ⟨W.heap.size, 0, none⟩) n n) (W.alloc (.cells cur 35)) := by
  obtain ⟨i0, hi, hz0, hz1, hz2⟩ := parts_of info_blk
  have h := run_makeSlice (P := Tryz.prog) W 27 35 i0 (.agg #[.bool false, .slice none 0 0, .slice none 0 0]) Tryz.underlying27 hi hz0 .i64 .i64 (n : Int) (n : Int) (by omega) (Int.le_refl _) (by rw [hz1]; simp; omega) (by rw [hz2]; omega) (by omega)
  rw [Int.toNat_natCast, hz1] at h
  exact ⟨_, size_madeCells _ _, h⟩

set_option maxRecDepth 100000 in
set_option maxHeartbeats 4000000 in
theorem set_blkM (b o : Nat) (cs : List Value) (n cap k : Nat) (y0 : Bool) (y1 : Option Addr) (y2 y3 : Nat) (y4 : Option Addr) (y5 y6 : Nat) (w : World) (hr : RowIs w.heap.size w (some ⟨b, o, none⟩) cs) (hl : cs.length = n * 3) (h1 : ∀ u ∈ cs, u.oneCell' = true) (hn : n ≤ 1000) (hk : k < n) :
    Calls Tryz.prog 114 #[.slice (some ⟨b, o, none⟩) n cap, .int .i64 (k : Nat), .agg #[.bool y0, .slice y1 y2 y3, .slice y4 y5 y6]] w fun e w' => (∃ g' : Nat, e = .returned (.slice (some ⟨g', 0, none⟩) n n) ∧ w.heap.size ≤ g' ∧ w'.heap[g']? = some (.cells (List.toArray (((cs.set (k * 3) (.bool y0)).set (k * 3 + 1) (.slice y1 y2 y3)).set (k * 3 + 2) (.slice y4 y5 y6))) 35 (0, 0))) ∧ Below w.heap.size w w' := by
  obtain ⟨i0, hi, hz0, hz1, hz2⟩ := parts_of info_blk
  have HR := Lib.hid hr
  have H1 := Lib.hid h1
  have HL := Lib.hid hl
  have hkn : (k : Int) < (n : Int) := by omega
  have HB0 := Lib.hid (below1 w (.cells #[.bool y0, .slice y1 y2 y3, .slice y4 y5 y6] 35))
  have HX := Lib.hid (show BoxL (w.alloc (.cells #[.bool y0, .slice y1 y2 y3, .slice y4 y5 y6] 35)) w.heap.size [.bool y0, .slice y1 y2 y3, .slice y4 y5 y6] from BoxL.new w [.bool y0, .slice y1 y2 y3, .slice y4 y5 y6] 35)
  have HRO := Lib.hid (HR.out.on HB0.out)
  generalize hE : w.alloc (.cells #[.bool y0, .slice y1 y2 y3, .slice y4 y5 y6] 35) = W at HB0 HX HRO
  obtain ⟨g, hg⟩ : ∃ g, w.heap.size = g := ⟨_, rfl⟩
  rw [hg] at HX
  have HXL := Lib.hid (HX.out.lt (Nat.zero_lt_succ _))
  obtain ⟨cur, hcur, hmk⟩ := mk_blk n hn W
  have HCU := Lib.hid hcur
  have HBM := Lib.hid (below1 W (.cells cur 35))
  have HRM := Lib.hid (HRO.out.on HBM.out)
  have HHG : Hid ((W.alloc (.cells cur 35)).heap[W.heap.size]? = some (.cells cur 35 (0, 0))) := Lib.hid (heap_alloc_new W _)
  clear hr h1 hcur
  go_enter Tryz.func114, Tryz.ntmps114
  go_wp2_with (refine wpList_copy_whole (o := ⟨some 13, _, _, _, _, _⟩) rfl (.tmp 11) (.tmp 12) 27 27 rfl 35 i0 3 Tryz.underlying27 hi hz1 W.heap.size n n cap ⟨b, o, none⟩ rfl rfl cur 35 HHG.out HCU.out cs HL.out HRM.out.cells H1.out ?_; intro w2 hw2 hg2; have HB2 := Lib.hid (show Below W.heap.size W w2 from HBM.out.grown hg2 HBM.out.size (fun k hk => by cases hk; exact Nat.le_refl _)); have HR2 := Lib.hid (row_block hw2); obtain ⟨q0, f0⟩ := row_at hw2 (k * 3) (by omega); obtain ⟨q1, f1⟩ := row_at hw2 (k * 3 + 1) (by omega); obtain ⟨q2, f2⟩ := row_at hw2 (k * 3 + 2) (by omega); have c0 := ((HX.out.below HB2.out HXL.out) 0 _ rfl).1; have c1 := ((HX.out.below HB2.out HXL.out) 1 _ rfl).1; have c2 := ((HX.out.below HB2.out HXL.out) 2 _ rfl).1)
  go_ret
  refine ⟨⟨W.heap.size, rfl, HB0.out.size, ?_⟩, ?_⟩
  · have e1 := heap_setCell_same w2 W.heap.size (k * 3) _ _ (.bool y0) hw2
    have e2 := heap_setCell_same _ W.heap.size (k * 3 + 1) _ _ (.slice y1 y2 y3) e1
    have e3 := heap_setCell_same _ W.heap.size (k * 3 + 2) _ _ (.slice y4 y5 y6) e2
    simp only [List.setIfInBounds_toArray] at e3
    exact e3
  · have hb := HB0.out.trans (HB2.out.mono HB0.out.size)
    rw [hg] at hb ⊢
    have hgm : g ≤ W.heap.size := Nat.le_of_lt HXL.out
    exact ((hb.setCell (p := ⟨W.heap.size, k * 3, none⟩) hgm _).setCell (p := ⟨W.heap.size, k * 3 + 1, none⟩) hgm _).setCell (p := ⟨W.heap.size, k * 3 + 2, none⟩) hgm _

theorem set_blk (a : Option Addr) (cs : List Value) (n cap k : Nat) (y0 : Bool) (y1 : Option Addr) (y2 y3 : Nat) (y4 : Option Addr) (y5 y6 : Nat) (w : World) (hr : RowIs w.heap.size w a cs) (hl : cs.length = n * 3) (h1 : ∀ u ∈ cs, u.oneCell' = true) (hn : n ≤ 1000) (hk : k < n) :
    Calls Tryz.prog 114 #[.slice a n cap, .int .i64 (k : Nat), .agg #[.bool y0, .slice y1 y2 y3, .slice y4 y5 y6]] w fun e w' => (∃ g' : Nat, e = .returned (.slice (some ⟨g', 0, none⟩) n n) ∧ w.heap.size ≤ g' ∧ w'.heap[g']? = some (.cells (List.toArray (((cs.set (k * 3) (.bool y0)).set (k * 3 + 1) (.slice y1 y2 y3)).set (k * 3 + 2) (.slice y4 y5 y6))) 35 (0, 0))) ∧ Below w.heap.size w w' := by
  have hj : 0 < cs.length := by rw [hl]; omega
  obtain ⟨b, o, rfl, -, -⟩ := hr 0 cs[0] (by simp [hj])
  exact set_blkM b o cs n cap k y0 y1 y2 y3 y4 y5 y6 w hr hl h1 hn hk

end Go.Proofs.YtbddjneinfkmpaaGreatDoor

namespace Go.Proofs.YtbddjneinfkmpaaGreatDoor
open Go Go.RowKit Go.Sort

theorem rises_same (l : List Int) : Rises l ↔ RisesB l := Iff.rfl
theorem take_posN (l : List Int) (n : Int) : l.take (posN l n) = l.takeWhile (fun x => decide (x < n)) := by
  unfold posN
  conv => lhs; arg 2; rw [← List.takeWhile_append_dropWhile (p := fun x => decide (x < n)) (l := l)]
  exact List.take_left
theorem drop_posN (l : List Int) (n : Int) : l.drop (posN l n) = l.dropWhile (fun x => decide (x < n)) := by
  unfold posN
  conv => lhs; arg 2; rw [← List.takeWhile_append_dropWhile (p := fun x => decide (x < n)) (l := l)]
  exact List.drop_left
theorem addN_put (l : List Int) (n : Int) : addN l n = l.take (posN l n) ++ ([n] ++ l.drop (posN l n)) := by
  rw [take_posN, drop_posN]
  rfl
theorem addN_length (l : List Int) (n : Int) : (addN l n).length = l.length + 1 := by
  rw [addN_put]
  have := posN_le l n
  simp
  omega
theorem delN_cut {l : List Int} (h : Rises l) {n : Int} (hn : n ∈ l) : delN l n = l.take (posN l n) ++ l.drop (posN l n + 1) := by
  induction l with
  | nil => simp at hn
  | cons x l ih =>
    have h2 := h
    unfold Rises at h2
    rw [List.pairwise_cons] at h2
    unfold posN
    rw [List.takeWhile_cons]
    by_cases hx : x < n
    · have hnl : n ∈ l := by
        rcases List.mem_cons.1 hn with e | h3
        · omega
        · exact h3
      rw [decide_eq_true hx, if_pos rfl, List.length_cons]
      have e : delN (x :: l) n = x :: delN l n := by
        unfold delN
        rw [List.filter_cons_of_pos (by simp; omega)]
      rw [e, ih h2.2 hnl]
      rfl
    · have hxn : x = n := by
        rcases List.mem_cons.1 hn with e | h3
        · exact e.symm
        · have := h2.1 n h3; omega
      subst hxn
      rw [decide_eq_false hx, if_neg (by decide)]
      have e : delN (x :: l) x = delN l x := by
        unfold delN
        rw [List.filter_cons_of_neg (by simp)]
      rw [e, delN_none (fun h3 => Int.lt_irrefl x (h2.1 x h3))]
      simp
theorem map_one (l : List Int) : ∀ u ∈ l.map (Value.int .i64), u.oneCell' = true := fun u hu => by
  obtain ⟨x, -, rfl⟩ := List.mem_map.1 hu
  rfl

set_option maxRecDepth 100000 in
set_option maxHeartbeats 4000000 in
theorem withEdge_any (a : Option Addr) (l : List Int) (cap : Nat) (n : Int) (w : World) (hI : Is w.heap.size w a l) (hr : Rises l) (hwf : wfS a l.length cap) (hl : l.length ≤ 1000) :
    Calls Tryz.prog 151 #[.slice a l.length cap, .int .i64 n] w fun e w' => (∃ a' cap', e = .returned (.slice a' (l.length + 1) cap') ∧ Is w'.heap.size w' a' (addN l n) ∧ wfS a' (l.length + 1) cap' ∧ farS w.heap.size none a') ∧ Below w.heap.size w w' := by
  have HBS := Lib.hid (BinarySearch_any a l cap n w hI hr hl)
  have HPU := Lib.hid (put_int a (l.map (Value.int .i64)) l.length cap (posN l n) n w (row_of_nums hI) (by simp) (map_one l) hl (posN_le l n) hwf.1 hwf.2)
  have HAD : Hid (∀ (B : Nat) (W : World) (a' : Option Addr), RowIs B W a' ((l.map (Value.int .i64)).take (posN l n * 1) ++ ([.int .i64 n] ++ (l.map (Value.int .i64)).drop (posN l n * 1))) → Is B W a' (addN l n)) := Lib.hid fun B W a' h => nums_of_row (by
    rw [addN_put]
    rw [Nat.mul_one, ← List.map_take, ← List.map_drop] at h
    simpa using h)
  clear hI hr hl hwf
  obtain ⟨P, hP⟩ : ∃ P, posN l n = P := ⟨_, rfl⟩
  obtain ⟨L, hL⟩ : ∃ L, l.length = L := ⟨_, rfl⟩
  rw [hP] at HBS HPU HAD
  rw [hL] at HBS HPU ⊢
  clear hP hL
  go_enter Tryz.func151, Tryz.ntmps151
  go_wp2_with (first
    | (go_at_call 171; refine HBS.out.mono ?_; rintro e w' ⟨rfl, rfl⟩)
    | (go_at_call 173; refine HPU.out.mono ?_; rintro e w' ⟨⟨a', cap', rfl, hrow, hwf, hfar⟩, hb⟩))
  go_ret
  exact ⟨⟨a', cap', rfl, HAD.out _ _ _ hrow, hwf, hfar⟩, hb⟩

set_option maxRecDepth 100000 in
set_option maxHeartbeats 4000000 in
theorem withoutEdge_any (a : Option Addr) (l : List Int) (cap : Nat) (n : Int) (w : World) (hI : Is w.heap.size w a l) (hr : Rises l) (hwf : wfS a l.length cap) (hl : l.length ≤ 1000) :
    Calls Tryz.prog 150 #[.slice a l.length cap, .int .i64 n] w fun e w' => (∃ a' cap', e = .returned (.slice a' (delN l n).length cap') ∧ Is w'.heap.size w' a' (delN l n) ∧ wfS a' (delN l n).length cap' ∧ farS w.heap.size a a') ∧ Below w.heap.size w w' := by
  have HBS := Lib.hid (BinarySearch_any a l cap n w hI hr hl)
  by_cases hn : n ∈ l
  · have hpl := (posN_mem hr n).1 hn
    have hdl : (delN l n).length = l.length - 1 := by
      rw [delN_cut hr hn]
      simp
      omega
    have HCT := Lib.hid (cut_int a (l.map (Value.int .i64)) l.length cap (posN l n) (posN l n + 1) w (row_of_nums hI) (by simp) hl hpl.1 hwf.1 rfl)
    have HDE : Hid (∀ (B : Nat) (W : World) (a' : Option Addr), RowIs B W a' ((l.map (Value.int .i64)).take (posN l n * 1) ++ (l.map (Value.int .i64)).drop ((posN l n + 1) * 1)) → Is B W a' (delN l n)) := Lib.hid fun B W a' h => nums_of_row (by
      rw [delN_cut hr hn]
      rw [Nat.mul_one, Nat.mul_one, ← List.map_take, ← List.map_drop] at h
      simpa using h)
    rw [decide_eq_true hn] at HBS
    rw [hdl]
    clear hI hr hl hwf hpl hdl hn
    obtain ⟨P, hP⟩ : ∃ P, posN l n = P := ⟨_, rfl⟩
    obtain ⟨L, hL⟩ : ∃ L, l.length = L := ⟨_, rfl⟩
    rw [hP] at HBS HCT HDE
    rw [hL] at HBS HCT ⊢
    clear hP hL
    go_enter Tryz.func150, Tryz.ntmps150
    go_wp2_with (first
      | (go_at_call 171; refine HBS.out.mono ?_; rintro e w' ⟨rfl, rfl⟩)
      | (go_at_call 172; refine HCT.out.mono ?_; rintro e w' ⟨⟨a', cap', rfl, hrow, hwf, hfar⟩, hb⟩))
    go_ret
    exact ⟨⟨a', cap', rfl, HDE.out _ _ _ hrow, hwf, hfar⟩, hb⟩
  · rw [decide_eq_false hn] at HBS
    rw [delN_none hn]
    have HI := Lib.hid hI
    have HWF := Lib.hid hwf
    clear hI hr hl hwf hn
    obtain ⟨P, hP⟩ : ∃ P, posN l n = P := ⟨_, rfl⟩
    obtain ⟨L, hL⟩ : ∃ L, l.length = L := ⟨_, rfl⟩
    rw [hP] at HBS
    rw [hL] at HBS HWF ⊢
    clear hP hL
    go_enter Tryz.func150, Tryz.ntmps150
    go_wp2_with (first
      | (go_at_call 171; refine HBS.out.mono ?_; rintro e w' ⟨rfl, rfl⟩))
    go_ret
    exact ⟨⟨_, _, rfl, HI.out, HWF.out, fun p hp => .inl hp⟩, Below.refl _ _⟩

set_option maxRecDepth 100000 in
set_option maxHeartbeats 4000000 in
theorem Trim_any (a : Option Addr) (l : List Blk) (cap m : Nat) (w : World) (hI : BlksIs w.heap.size w a l) (hwf : wfS a l.length cap) (hl : l.length ≤ 1000) (hm : m ≤ l.length) (h0 : ∀ k, m ≤ k → (blkAt l k).live = false) (h1 : 0 < m → (blkAt l (m - 1)).live = true) :
    Calls Tryz.prog 53 #[.slice a l.length cap] w fun e w' => e = .returned (.slice a m m) ∧ w' = w := by
  have HI := Lib.hid hI
  have H0 := Lib.hid h0
  have H1 := Lib.hid h1
  have hwc := hwf.1
  have hwn := hwf.2
  obtain ⟨L, hL⟩ : ∃ L, l.length = L := ⟨_, rfl⟩
  have HL := Lib.hid hL
  rw [hL] at hm hl hwc ⊢
  clear hI hwf h0 h1 hL
  go_enter Tryz.func53, Tryz.ntmps53
  go_wp2_with fail
  go_loop [3] (fun i => ∃ q : Nat, m ≤ q ∧ q ≤ L ∧ i = .int .i64 q) (fun i => (intOf i).toNat)
  case atStart => exact ⟨L, hm, Nat.le_refl _, rfl⟩
  case round =>
    obtain ⟨q, hq, hqL, rfl⟩ := hrel
    by_cases hq0 : q = 0
    · subst hq0
      obtain rfl : m = 0 := by omega
      have hqi : ¬ ((0 : Int) < 0) := by omega
      go_wp2_with fail
      go_ret
      exact ⟨rfl, rfl⟩
    · obtain ⟨q', rfl⟩ : ∃ q', q = q' + 1 := ⟨q - 1, by omega⟩
      have hqi : (0 : Int) < ((q' + 1 : Nat) : Int) := by omega
      have hqi2 : (0 : Int) < (q' : Int) + 1 := by omega
      obtain ⟨b, o, rfl, hb, c0, -⟩ := HI.out q' (by rw [HL.out]; omega)
      have hqLi : (q' : Int) < (L : Int) := by omega
      cases hlv : (blkAt l q').live with
      | false =>
        rw [hlv] at c0
        have hqm : m ≤ q' := Nat.not_lt.1 (fun h => by
          have e : m = q' + 1 := by omega
          subst e
          have := H1.out (Nat.succ_pos _)
          rw [Nat.add_sub_cancel, hlv] at this
          cases this)
        clear hlv
        go_wp2_with fail
        refine ⟨⟨q', hqm, by omega, by go_num⟩, by simp [intOf]⟩
      | true =>
        rw [hlv] at c0
        have hqm : m = q' + 1 := by
          rcases Nat.lt_or_ge q' m with h | h
          · omega
          · rw [H0.out q' h] at hlv; cases hlv
        subst hqm
        clear hlv
        have hci : ((q' : Int) + 1) ≤ (cap : Int) := by omega
        go_wp2_with fail
        go_ret
        exact ⟨rfl, rfl⟩
end Go.Proofs.YtbddjneinfkmpaaGreatDoor

namespace Go.Proofs.YtbddjneinfkmpaaGreatDoor
open Go Go.RowKit Go.Sort

/-- A list that lies not in a block. -/
def apartS {α : Type} (g : Nat) (a : Option Addr) (l : List α) : Prop := l ≠ [] → ∀ p, a = some p → p.block ≠ g
theorem Is.setFar {B : Nat} {W : World} {a : Option Addr} {l : List Int} (h : Is B W a l) {g : Nat} (ha : apartS g a l) (j : Nat) (u : Value) : Is B (W.setCell ⟨g, j, none⟩ u) a l := fun k hk => by
  obtain ⟨b, o, e, hlt, hc⟩ := h k hk
  refine ⟨b, o, e, hlt, ?_⟩
  have hne := ha (fun e => by subst e; simp at hk) _ e
  rw [World.cell?_setCell_other _ _ _ _ (fun e => hne (by simpa using (congrArg Addr.block e).symm))]
  exact hc
theorem CodeIs.setFar {B : Nat} {W : World} {a : Option Addr} {l : List Ins} (h : CodeIs B W a l) {g : Nat} (ha : apartS g a l) (j : Nat) (u : Value) : CodeIs B (W.setCell ⟨g, j, none⟩ u) a l := fun k hk => by
  obtain ⟨b, o, e, hlt, hc⟩ := h k hk
  refine ⟨b, o, e, hlt, fun t ht => ?_⟩
  have hne := ha (fun e => by subst e; simp at hk) _ e
  rw [World.cell?_setCell_other _ _ _ _ (fun e => hne (by simpa using (congrArg Addr.block e).symm))]
  exact hc t ht
theorem apart_nums {B g : Nat} {W : World} {a : Option Addr} {l : List Int} (h : Is B W a l) (hB : B ≤ g) : apartS g a l := fun hne p hp => by
  obtain ⟨b, o, e, hlt, -⟩ := h 0 (List.length_pos_iff.2 hne)
  rw [hp] at e
  cases e
  exact Nat.ne_of_lt (Nat.lt_of_lt_of_le hlt hB)
theorem apart_code {B g : Nat} {W : World} {a : Option Addr} {l : List Ins} (h : CodeIs B W a l) (hB : B ≤ g) : apartS g a l := fun hne p hp => by
  obtain ⟨b, o, e, hlt, -⟩ := h 0 (List.length_pos_iff.2 hne)
  rw [hp] at e
  cases e
  exact Nat.ne_of_lt (Nat.lt_of_lt_of_le hlt hB)
def Blk.apart (g : Nat) (b : Blk) : Prop := apartS g b.ca b.code ∧ apartS g b.sa b.succ
theorem BlkIs.setFar {B : Nat} {W : World} {b : Blk} (h : BlkIs B W b) {g : Nat} (ha : b.apart g) (j : Nat) (u : Value) : BlkIs B (W.setCell ⟨g, j, none⟩ u) b := ⟨h.1.setFar ha.1 j u, h.2.setFar ha.2 j u⟩
theorem BlkIs.apart {B g : Nat} {W : World} {b : Blk} (h : BlkIs B W b) (hB : B ≤ g) : b.apart g := ⟨apart_code h.1 hB, apart_nums h.2 hB⟩
theorem apart_far {α β : Type} {B g : Nat} {a a' : Option Addr} {l : List α} {l' : List β} (h : farS B a a') (hg : g < B) (ha : apartS g a l) (hne : ∀ p, l' ≠ [] → a' = some p → a = some p → l ≠ []) : apartS g a' l' := fun hn p hp => by
  rcases h p hp with h2 | h2
  · exact ha (hne p hn hp h2) p h2
  · omega
theorem apart_new {β : Type} {B g : Nat} {a' : Option Addr} {l' : List β} (h : farS B none a') (hg : g < B) : apartS g a' l' := fun _ p hp => by
  rcases h p hp with h2 | h2
  · cases h2
  · omega
theorem apart_blks {B g : Nat} {W : World} {a : Option Addr} {l : List Blk} (h : BlksIs B W a l) (hB : B ≤ g) : apartS g a l := fun hne p hp => by
  obtain ⟨b, o, e, hlt, -⟩ := h 0 (List.length_pos_iff.2 hne)
  rw [hp] at e
  cases e
  exact Nat.ne_of_lt (Nat.lt_of_lt_of_le hlt hB)
theorem none_apart (g : Nat) : Blk.none.apart g := ⟨fun h => absurd rfl h, fun h => absurd rfl h⟩
theorem newB_apart (g : Nat) : newB.apart g := ⟨fun h => absurd rfl h, fun h => absurd rfl h⟩
/-- Blocks that were told, as a list should be. -/
def BlksRes (B : Nat) (w w' : World) (e : Ending) (spec : List Blk) : Prop :=
  ∃ (l' : List Blk) (a' : Option Addr) (cap' : Nat), e = .returned (.slice a' l'.length cap') ∧ BlksIs w'.heap.size w' a' l' ∧ (∀ b ∈ l', b.wf) ∧ wfS a' l'.length cap' ∧ l'.map Blk.d = spec.map Blk.d ∧ Below w.heap.size w w' ∧ ∀ k, B ≤ k → k < w.heap.size → apartS k a' l' ∧ ∀ j, (blkAt l' j).apart k
theorem newB_wf : newB.wf := ⟨⟨Nat.le_refl _, fun _ => rfl⟩, Nat.le_refl _, fun _ => rfl⟩
theorem none_wf : Blk.none.wf := ⟨⟨Nat.le_refl _, fun _ => rfl⟩, Nat.le_refl _, fun _ => rfl⟩
theorem newB_is (B : Nat) (W : World) : BlkIs B W newB := ⟨fun j hj => absurd hj (Nat.not_lt_zero j), fun j hj => absurd hj (Nat.not_lt_zero j)⟩
theorem none_is (B : Nat) (W : World) : BlkIs B W Blk.none := ⟨fun j hj => absurd hj (Nat.not_lt_zero j), fun j hj => absurd hj (Nat.not_lt_zero j)⟩
theorem blk_is {B : Nat} {W : World} {a : Option Addr} {l : List Blk} (h : BlksIs B W a l) (j : Nat) : BlkIs B W (blkAt l j) := by
  by_cases hj : j < l.length
  · obtain ⟨-, -, -, -, -, -, -, hk⟩ := h j hj
    exact hk
  · have e : blkAt l j = Blk.none := by unfold blkAt; rw [List.getElem?_eq_none (by omega)]; rfl
    rw [e]
    exact none_is B W
theorem wf_at {l : List Blk} (h : ∀ b ∈ l, b.wf) (j : Nat) : (blkAt l j).wf := by
  by_cases hj : j < l.length
  · have e : blkAt l j = l[j] := by unfold blkAt; simp [hj]
    rw [e]
    exact h _ (List.getElem_mem hj)
  · have e : blkAt l j = Blk.none := by unfold blkAt; rw [List.getElem?_eq_none (by omega)]; rfl
    rw [e]
    exact none_wf
theorem wf_of_at {l : List Blk} (h : ∀ j, j < l.length → (blkAt l j).wf) : ∀ b ∈ l, b.wf := fun b hb => by
  obtain ⟨j, hj, rfl⟩ := mem_blkAt hb
  exact h j hj

theorem results_cell {fn : Func} {p : Tmp} {ty : TypeId} (h : fn.results = #[.cell p ty]) (tmps : Array Value) (P : Program) (w : World) :
    (results fn tmps).run P w = ((asAddr (tmps.getD p undef)).run P w).andThen fun a w₁ => (loadVar ty a).run P w₁ := by
  simp only [results, h]
  simp [Sem.run_bind, Result.andThen]
/-- A result of several cells. -/
theorem ret_cell {P : Program} {fn : Func} {p : Tmp} {ty : TypeId} (h : fn.results = #[.cell p ty]) (tmps : Array Value) (w : World) (g : Nat) (cs : List Value) (d : TypeDesc) (hp : tmps.getD p undef = .pointer (some ⟨g, 0, none⟩)) (hb : BoxL w g cs)
    (hu : P.underlying ty = some d) (hd : (match d with | .struct _ | .array _ _ => true | _ => false) = true) (hi : (P.info? ty).map (·.size) = some cs.length) :
    (results fn tmps).run P w = .ok (.agg cs.toArray) w := by
  rw [results_cell h, hp]
  have ha : (asAddr (.pointer (some ⟨g, 0, none⟩))).run P w = .ok ⟨g, 0, none⟩ w := rfl
  rw [ha]
  simp only [Result.andThen, run_loadVar_box w g ty cs d hb hu hd hi]
set_option maxRecDepth 100000 in
set_option maxHeartbeats 4000000 in
theorem newFun_any (ar vr : Int) (w : World) :
    Calls Tryz.prog 83 #[.int .i64 ar, .int .i64 vr] w fun e w' => (∃ g : Nat, e = .returned (.agg #[.int .i64 ar, .int .i64 vr, .slice (some ⟨g, 0, none⟩) 1 1]) ∧ BlksIs w'.heap.size w' (some ⟨g, 0, none⟩) [newB] ∧ w.heap.size ≤ g) ∧ Below w.heap.size w w' := by
  go_enter Tryz.func83, Tryz.ntmps83
  go_wp2_with fail
  have hB1 := (BoxL.new w [.int .i64 ar, .int .i64 vr, .slice (some ⟨w.heap.size + 1, 0, none⟩) 1 1] 29).alloc (Nat.zero_lt_succ _) (.cells #[.bool true, .slice none 0 0, .slice none 0 0] 35)
  have hrow := row_block (t := 35) (cs := brow [newB]) (W := (w.alloc (.cells #[.int .i64 ar, .int .i64 vr, .slice (some ⟨w.heap.size + 1, 0, none⟩) 1 1] 29)).alloc (.cells #[.bool true, .slice none 0 0, .slice none 0 0] 35)) (g := w.heap.size + 1) (by have := heap_alloc_new (w.alloc (.cells #[.int .i64 ar, .int .i64 vr, .slice (some ⟨w.heap.size + 1, 0, none⟩) 1 1] 29)) (.cells #[.bool true, .slice none 0 0, .slice none 0 0] 35); rw [World.size_alloc] at this; exact this)
  refine bodyPost_ret (ret_cell rfl _ _ w.heap.size [.int .i64 ar, .int .i64 vr, .slice (some ⟨w.heap.size + 1, 0, none⟩) 1 1] _ rfl hB1 Tryz.underlying29 rfl (by kernel_rfl)) rfl ?_
  exact ⟨⟨_, rfl, blks_of_row hrow (fun j hj => by obtain rfl : j = 0 := (by simpa using hj); exact newB_is _ _), Nat.le_succ _⟩, below2 _ _ _⟩

set_option maxRecDepth 100000 in
set_option maxHeartbeats 4000000 in
theorem withBlock_any (B : Nat) (a : Option Addr) (l : List Blk) (cap k : Nat) (w : World) (hI : BlksIs w.heap.size w a l) (hIB : BlksIs B w a l) (hw : ∀ b ∈ l, b.wf) (hwf : wfS a l.length cap) (hl : l.length ≤ 1000) (hk : k ≤ l.length) :
    Calls Tryz.prog 112 #[.slice a l.length cap, .int .i64 (k : Nat)] w fun e w' => BlksRes B w w' e (if k = l.length then l ++ [newB] else l.set k newB) := by
  by_cases hkl : k = l.length
  · subst hkl
    rw [if_pos rfl]
    have HPU := Lib.hid (put_blk a (brow l) l.length cap l.length true none 0 0 none 0 0 w (row_of_blks hI) (brow_length l) (brow_one l) hl (Nat.le_refl _) hwf.1 hwf.2)
    have HRS : Hid (∀ (W : World) (a' : Option Addr) (cap' : Nat), Below w.heap.size w W → RowIs W.heap.size W a' ((brow l).take (l.length * 3) ++ ([.bool true, .slice none 0 0, .slice none 0 0] ++ (brow l).drop (l.length * 3))) → wfS a' (l.length + 1) cap' → farS w.heap.size none a' → BlksRes B w W (.returned (.slice a' (l.length + 1) cap')) (l ++ [newB])) := Lib.hid fun W a' cap' hb hrow hwf' hfar => by
      refine ⟨l ++ [newB], a', cap', by simp, blks_of_row ?_ (fun j hj => ?_), fun b hb => ?_, by simpa using hwf', rfl, hb, fun kk h1 h2 => ⟨apart_new hfar h2, fun j => ?_⟩⟩
      · rw [List.take_of_length_le (by rw [brow_length]; exact Nat.le_refl _), List.drop_of_length_le (by rw [brow_length]; exact Nat.le_refl _)] at hrow
        have e : brow (l ++ [newB]) = brow l ++ ([.bool true, .slice none 0 0, .slice none 0 0] ++ []) := by simp [brow, newB, Blk.cells]
        rw [e]
        exact hrow
      · rw [blkAt_append]
        split
        · exact newB_is _ _
        · exact (blk_is hI j).on hb
      · rcases List.mem_append.1 hb with h | h
        · exact hw b h
        · rw [List.mem_singleton.1 h]; exact newB_wf
      · rw [blkAt_append]
        split
        · exact newB_apart _
        · exact (blk_is hIB j).apart h1
    clear hI hIB hw hwf hl hk
    obtain ⟨L, hL⟩ : ∃ L, l.length = L := ⟨_, rfl⟩
    simp only [hL] at HPU HRS ⊢
    clear hL
    go_enter Tryz.func112, Tryz.ntmps112
    go_wp2_with (go_at_call 149; refine HPU.out.mono ?_; rintro e w' ⟨⟨a', cap', rfl, hrow, hwf, hfar⟩, hb⟩)
    go_ret
    exact HRS.out _ _ _ hb hrow hwf hfar
  · rw [if_neg hkl]
    have hkl2 : k < l.length := by omega
    have HSE := Lib.hid (set_blk a (brow l) l.length cap k true none 0 0 none 0 0 w (row_of_blks hI) (brow_length l) (brow_one l) hl hkl2)
    have HRS : Hid (∀ (W : World) (g' : Nat), Below w.heap.size w W → w.heap.size ≤ g' → W.heap[g']? = some (.cells (List.toArray ((((brow l).set (k * 3) (.bool true)).set (k * 3 + 1) (.slice none 0 0)).set (k * 3 + 2) (.slice none 0 0))) 35 (0, 0)) → BlksRes B w W (.returned (.slice (some ⟨g', 0, none⟩) l.length l.length)) (l.set k newB)) := Lib.hid fun W g' hb hgw hg => by
      refine ⟨l.set k newB, some ⟨g', 0, none⟩, l.length, by rw [List.length_set], blks_of_row ?_ (fun j hj => ?_), wf_of_at (fun j hj => ?_), by rw [List.length_set]; exact ⟨Nat.le_refl _, fun h => by cases h⟩, rfl, hb, fun kk h1 h2 => ⟨fun _ p hp => by cases hp; show g' ≠ kk; omega, fun j => ?_⟩⟩
      · have := row_block hg
        rw [← brow_set hkl2 newB]
        exact this
      · rw [blkAt_set]
        split
        · exact newB_is _ _
        · exact (blk_is hI j).on hb
      · rw [blkAt_set]
        split
        · exact newB_wf
        · exact wf_at hw j
      · rw [blkAt_set]
        split
        · exact newB_apart _
        · exact (blk_is hIB j).apart h1
    clear hI hIB hw hwf hl hk hkl2
    obtain ⟨L, hL⟩ : ∃ L, l.length = L := ⟨_, rfl⟩
    simp only [hL] at HSE HRS hkl ⊢
    clear hL
    have hkb : ((k : Int) == (L : Int)) = false := beq_false_of_ne (by omega)
    go_enter Tryz.func112, Tryz.ntmps112
    go_wp2_with (go_at_call 114; refine HSE.out.mono ?_; rintro e w' ⟨⟨g', rfl, hgw, hg⟩, hb⟩)
    go_ret
    exact HRS.out _ _ hb hgw hg
end Go.Proofs.YtbddjneinfkmpaaGreatDoor

namespace Go.Proofs.YtbddjneinfkmpaaGreatDoor
open Go Go.RowKit Go.Sort

theorem trimL_map (l : List Blk) : (trimL l).map Blk.d = trimL (l.map Blk.d) := by
  unfold trimL
  rw [List.map_reverse]
  congr 1
  rw [← List.map_reverse, List.dropWhile_map]
  rfl
theorem trimL_d {l m : List Blk} (h : l.map Blk.d = m.map Blk.d) : (trimL l).map Blk.d = (trimL m).map Blk.d := by rw [trimL_map, trimL_map, h]
theorem map_d_of {l m : List Blk} (hl : l.length = m.length) (h : ∀ j, (blkAt l j).d = (blkAt m j).d) : l.map Blk.d = m.map Blk.d := by
  apply List.ext_getElem?
  intro j
  rw [List.getElem?_map, List.getElem?_map]
  have := h j
  unfold blkAt at this
  by_cases hj : j < l.length
  · have hj2 : j < m.length := by omega
    rw [List.getElem?_eq_getElem hj, List.getElem?_eq_getElem hj2] at this ⊢
    simpa using this
  · rw [List.getElem?_eq_none (by omega), List.getElem?_eq_none (by omega)]
theorem brow_set2 {l : List Blk} {k : Nat} (hk : k < l.length) (a : Option Addr) (c : Nat) (s : List Int) : (brow l).set (k * 3 + 2) (.slice a s.length c) = brow (l.set k ⟨(blkAt l k).live, (blkAt l k).ca, (blkAt l k).cc, (blkAt l k).code, a, c, s⟩) := by
  have e1 : brow l = brow (l.take k) ++ ((blkAt l k).cells ++ brow (l.drop (k + 1))) := by
    conv => lhs; rw [blkAt_split hk]
    simp [brow]
  have e2 : ∀ b : Blk, brow (l.set k b) = brow (l.take k) ++ (b.cells ++ brow (l.drop (k + 1))) := fun b => by
    rw [bset_split hk]
    simp [brow]
  rw [e2, e1, List.set_append_right _ _ (by rw [brow_length, List.length_take]; omega), brow_length, List.length_take, show k * 3 + 2 - min k l.length * 3 = 2 by omega]
  rfl
def delB (k : Int) (x : Blk) : Blk := x.with x.code (delN x.succ k)
/-- How far the edges to a block are gone. -/
def Wob (B : Nat) (w wr : World) (g q : Nat) (k : Int) (l0 l' : List Blk) : Prop :=
  l'.length = l0.length ∧ wr.heap[g]? = some (.cells (List.toArray (brow l')) 35 (0, 0)) ∧ Below w.heap.size w wr ∧ (∀ j, BlkIs wr.heap.size wr (blkAt l' j) ∧ (blkAt l' j).wf ∧ (blkAt l' j).apart g) ∧
    (∀ j, (blkAt l' j).d = if j < q then delB k (blkAt l0 j) else (blkAt l0 j).d) ∧ (∀ j, q ≤ j → blkAt l' j = blkAt l0 j) ∧ (∀ j kk, B ≤ kk → kk < w.heap.size → (blkAt l' j).apart kk)

set_option maxRecDepth 100000 in
set_option maxHeartbeats 4000000 in
theorem withoutBlock_any (B : Nat) (a : Option Addr) (l : List Blk) (cap k : Nat) (w : World) (hI : BlksIs w.heap.size w a l) (hIB : BlksIs B w a l) (hw : ∀ b ∈ l, b.wf) (hl : l.length ≤ 1000) (hk : k < l.length) (hrs : ∀ j, Rises (blkAt l j).succ ∧ (blkAt l j).succ.length ≤ 1000) :
    Calls Tryz.prog 113 #[.slice a l.length cap, .int .i64 (k : Nat)] w fun e w' => BlksRes B w w' e (trimL ((l.set k Blk.none).map (delB (k : Int)))) := by
  have HSE := Lib.hid (set_blk a (brow l) l.length cap k false none 0 0 none 0 0 w (row_of_blks hI) (brow_length l) (brow_one l) hl hk)
  obtain ⟨l0, hl0⟩ : ∃ l0, l.set k Blk.none = l0 := ⟨_, rfl⟩
  have hrow : (((brow l).set (k * 3) (.bool false)).set (k * 3 + 1) (.slice none 0 0)).set (k * 3 + 2) (.slice none 0 0) = brow l0 := by rw [← hl0]; exact brow_set hk Blk.none
  have hlen0 : l0.length = l.length := by rw [← hl0, List.length_set]
  have hat0 : ∀ j, blkAt l0 j = if j = k then Blk.none else blkAt l j := fun j => by
    rw [← hl0, blkAt_set]
    by_cases h : j = k
    · rw [if_pos ⟨h, hk⟩, if_pos h]
    · rw [if_neg (fun h2 => h h2.1), if_neg h]
  have HIS := Lib.hid (fun j => show BlkIs w.heap.size w (blkAt l0 j) ∧ (blkAt l0 j).wf ∧ Rises (blkAt l0 j).succ ∧ (blkAt l0 j).succ.length ≤ 1000 by
    rw [hat0]
    split
    · exact ⟨none_is _ _, none_wf, List.Pairwise.nil, Nat.zero_le _⟩
    · exact ⟨blk_is hI j, wf_at hw j, hrs j⟩)
  have HAP := Lib.hid (fun j kk (h1 : B ≤ kk) => show (blkAt l0 j).apart kk by
    rw [hat0]
    split
    · exact none_apart _
    · exact (blk_is hIB j).apart h1)
  rw [hrow] at HSE
  rw [hl0]
  obtain ⟨L, hL⟩ : ∃ L, l.length = L := ⟨_, rfl⟩
  have hlen1 : l0.length = L := hlen0.trans hL
  have HL0 := Lib.hid hlen1
  have hkL : k < L := by omega
  simp only [hL] at HSE ⊢
  have hL1000 : L ≤ 1000 := by omega
  clear hI hIB hw hl hk hrs hl0 hrow hlen0 hat0 hlen1 hL
  go_enter Tryz.func113, Tryz.ntmps113
  go_wp2_with (go_at_call 114; refine HSE.out.mono ?_; rintro e w1 ⟨⟨g', rfl, hgw, hg⟩, hb⟩; have HG := Lib.hid hg; have HGW := Lib.hid hgw; have HB := Lib.hid hb; clear hg hgw hb)
  go_loopw [13] (fun i wr => ∃ (q : Nat) (l' : List Blk), q ≤ L ∧ i = .int .i64 q ∧ Hid (Wob B w wr g' q k l0 l')) (fun i _ => L - (intOf i).toNat)
  case atStart => exact ⟨0, l0, Nat.zero_le _, rfl, rfl, HG.out, HB.out, fun j => ⟨(HIS.out j).1.on HB.out, (HIS.out j).2.1, (HIS.out j).1.apart HGW.out⟩, fun j => by rw [if_neg (Nat.not_lt_zero j)], fun j _ => rfl, fun j kk h1 _ => HAP.out j kk h1⟩
  case round =>
    obtain ⟨q, l', hq, rfl, hW⟩ := hrel
    by_cases hlt : q < L
    · obtain ⟨h1, h2, h3, h4, h5, h6, h7⟩ := hW.out
      have hxq := h6 q (Nat.le_refl _)
      obtain ⟨x, hx⟩ : ∃ x, blkAt l0 q = x := ⟨_, rfl⟩
      have hxs := HIS.out q
      rw [hx] at hxq hxs
      have hq' : q < l'.length := by rw [h1, HL0.out]; exact hlt
      have hcat := brow_at l' q 2 hq' (by omega)
      rw [hxq] at hcat
      obtain ⟨b, o, e, -, c2⟩ := row_block h2 (q * 3 + 2) _ hcat
      cases e
      rw [Nat.zero_add] at c2
      have hx2 := (h4 q).1
      rw [hxq] at hx2
      have HWE := Lib.hid (withoutEdge_any x.sa x.succ x.sc (k : Int) wr hx2.2 hxs.2.2.1 hxs.2.1.2 hxs.2.2.2)
      have hqi : (q : Int) < (L : Int) := by omega
      have hqb : q * 3 + 2 < (brow l').length := by rw [brow_length]; omega
      have HH2 := Lib.hid h2
      have HX := Lib.hid hx
      have hgr : g' < wr.heap.size := (Array.getElem?_eq_some_iff.1 h2).1
      clear h1 h2 h3 h4 h5 h6 h7 hxq hxs hx2 hcat hq'
      obtain ⟨lv, ca, cc, code, sa, sc, succ⟩ := x
      dsimp only [Blk.cells] at c2
      dsimp only at HWE
      obtain ⟨SL, hSL⟩ : ∃ n, succ.length = n := ⟨_, rfl⟩
      rw [hSL] at c2 HWE
      obtain ⟨DL, hDL⟩ : ∃ n, (delN succ (k : Int)).length = n := ⟨_, rfl⟩
      rw [hDL] at HWE
      have HDL := Lib.hid hDL
      clear hSL hDL
      go_wp2_with (go_at_call 150; refine HWE.out.mono ?_; rintro e w2 ⟨⟨a', cap', rfl, hIs, hwf', hfar⟩, hb2⟩; have hh2 : w2.heap[g']? = some (.cells (List.toArray (brow l')) 35 (0, 0)) := (hb2.block g' hgr).trans HH2.out; obtain ⟨s2, f2⟩ := row_at hh2 (q * 3 + 2) hqb; have HHH := Lib.hid hh2; have HB2 := Lib.hid hb2; have HI2 := Lib.hid hIs; have HF2 := Lib.hid hfar; have HWF := Lib.hid hwf'; clear hh2 hb2 hIs hfar hwf' c2)
      go_roundw
      case rel =>
        obtain ⟨h1, h2, h3, h4, h5, h6, h7⟩ := hW.out
        have hq' : q < l'.length := by rw [h1, HL0.out]; exact hlt
        have hxq : blkAt l' q = ⟨lv, ca, cc, code, sa, sc, succ⟩ := (h6 q (Nat.le_refl _)).trans HX.out
        refine ⟨q + 1, l'.set q ⟨lv, ca, cc, code, a', cap', delN succ k⟩, by omega, by go_num, by rw [List.length_set]; exact h1, ?_, ?_, fun j => ?_, fun j => ?_, fun j hj => ?_, fun j kk hk1 hk2 => ?_⟩
        · have e3 := heap_setCell_same w2 g' (q * 3 + 2) _ _ (.slice a' DL cap') HHH.out
          rw [List.setIfInBounds_toArray, ← HDL.out, brow_set2 hq', hxq] at e3
          rw [← HDL.out]
          exact e3
        · exact (h3.trans (HB2.out.mono h3.size)).setCell (p := ⟨g', q * 3 + 2, none⟩) HGW.out _
        · have hap : apartS g' a' (delN succ (k : Int)) := fun hne p hp => by
            rcases HF2.out p hp with h | h
            · have := (h4 q).2.2.2
              rw [hxq] at this
              refine this (fun e => hne ?_) p h
              dsimp only at e
              rw [e]
              rfl
            · omega
          rw [blkAt_set]
          split
          · have hold := h4 q
            rw [hxq] at hold
            have hcode : CodeIs w2.heap.size w2 ca code := (hold.1.on HB2.out).1
            refine ⟨?_, ⟨hold.2.1.1, by rw [HDL.out]; exact HWF.out⟩, hold.2.2.1, hap⟩
            rw [show ((w2.setCell ⟨g', q * 3 + 2, none⟩ (.slice a' DL cap')).heap.size) = w2.heap.size from size_set _ _ _]
            exact ⟨hcode.setFar hold.2.2.1 _ _, HI2.out.setFar hap _ _⟩
          · refine ⟨?_, (h4 j).2⟩
            rw [show ((w2.setCell ⟨g', q * 3 + 2, none⟩ (.slice a' DL cap')).heap.size) = w2.heap.size from size_set _ _ _]
            exact ((h4 j).1.on HB2.out).setFar (h4 j).2.2 _ _
        · rw [blkAt_set]
          by_cases hjq : j = q
          · rw [if_pos ⟨hjq, hq'⟩, if_pos (by omega), hjq, HX.out]
            rfl
          · rw [if_neg (fun h => hjq h.1), h5 j]
            by_cases hj2 : j < q
            · rw [if_pos hj2, if_pos (by omega)]
            · rw [if_neg hj2, if_neg (by omega)]
        · rw [blkAt_set, if_neg (fun h => by omega)]
          exact h6 j (by omega)
        · rw [blkAt_set]
          split
          · have hold := h7 q kk hk1 hk2
            rw [hxq] at hold
            exact ⟨hold.1, apart_far HF2.out (Nat.lt_of_lt_of_le hk2 h3.size) hold.2 (fun p hne _ _ e => hne (by have e2 : succ = [] := e; rw [e2]; rfl))⟩
          · exact h7 j kk hk1 hk2
      case measure => simp [intOf]; omega
    · obtain rfl : q = L := by omega
      have hqi : ¬ ((q : Int) < (q : Int)) := by omega
      obtain ⟨m, hm, ht, ht0, ht1⟩ := trimL_spec l'
      have hlq : l'.length = q := hW.out.1.trans HL0.out
      have hbl : BlksIs wr.heap.size wr (some ⟨g', 0, none⟩) l' := blks_of_row (row_block hW.out.2.1) (fun j _ => (hW.out.2.2.2.1 j).1)
      have HTR := Lib.hid (Trim_any (some ⟨g', 0, none⟩) l' q m wr hbl ⟨by omega, fun h => by cases h⟩ (by omega) hm ht0 ht1)
      rw [hlq] at HTR
      have HT := Lib.hid ht
      have HBL := Lib.hid hbl
      have HMQ := Lib.hid hm
      clear ht ht0 ht1 hbl hm hlq
      go_wp2_with (go_at_call 53; refine HTR.out.mono ?_; rintro e w' ⟨rfl, rfl⟩)
      go_ret
      obtain ⟨h1, h2, h3, h4, h5, h6, h7⟩ := hW.out
      have hml : (l'.take m).length = m := by rw [List.length_take]; have := HMQ.out; omega
      refine ⟨l'.take m, some ⟨g', 0, none⟩, m, by rw [hml]; rfl, fun j hj => ?_, fun b hb => ?_, by rw [hml]; exact ⟨Nat.le_refl _, fun h => by cases h⟩, ?_, h3, fun kk hk1 hk2 => ⟨fun _ p hp => by cases hp; show g' ≠ kk; have := HGW.out; omega, fun j => ?_⟩⟩
      · rw [hml] at hj
        rw [blkAt_take, if_pos hj]
        exact HBL.out j (by have := HMQ.out; omega)
      · exact wf_of_at (fun j _ => (h4 j).2.1) b (List.mem_of_mem_take hb)
      · rw [← HT.out]
        refine trimL_d (map_d_of (by rw [List.length_map]; exact h1) (fun j => ?_))
        rw [h5 j, blkAt_map _ _ rfl]
        by_cases hj : j < q
        · rw [if_pos hj]; rfl
        · rw [if_neg hj]
          have e : blkAt l0 j = Blk.none := by unfold blkAt; rw [List.getElem?_eq_none (by rw [HL0.out]; omega)]; rfl
          rw [e]
          rfl
      · rw [blkAt_take]
        split
        · exact h7 j kk hk1 hk2
        · exact none_apart _
end Go.Proofs.YtbddjneinfkmpaaGreatDoor
