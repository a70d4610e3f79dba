/- AppH: several texts in one: AppZ AppY AppR AcM AppP. -/
import Derived.Test.YtbddjneinfkmpaaGreatDoorApQ
import Derived.Test.YtbddjneinfkmpaaGreatDoorPuA
import Derived.Test.YtbddjneinfkmpaaGreatDoorAppG

namespace Go.Proofs.YtbddjneinfkmpaaGreatDoor
open Go Go.RowKit Go.Sort

/-- A number told by each block, added up. -/
def tot (m : Blk → Int) (l : List Blk) : Int := (l.map m).sum
theorem tot_append (m : Blk → Int) (l l' : List Blk) : tot m (l ++ l') = tot m l + tot m l' := by simp [tot]
theorem tot_cons (m : Blk → Int) (b : Blk) (l : List Blk) : tot m (b :: l) = m b + tot m l := by simp [tot]
theorem tot_set (m : Blk → Int) {l : List Blk} {n : Nat} (hn : n < l.length) (g : Blk) : tot m (l.set n g) = tot m l - m (blkAt l n) + m g := by
  have h1 := congrArg (tot m) (bset_split hn g)
  have h2 := congrArg (tot m) (blkAt_split hn)
  rw [tot_append, tot_cons] at h1 h2
  omega
theorem tot_zero (m : Blk → Int) {l : List Blk} (h : ∀ b ∈ l, m b = 0) : tot m l = 0 := by
  induction l with
  | nil => rfl
  | cons b l ih =>
    rw [tot_cons, h b List.mem_cons_self, ih (fun x hx => h x (List.mem_cons_of_mem _ hx))]
    rfl
theorem tot_trim (m : Blk → Int) {l : List Blk} (h : ∀ b ∈ l, b.live = false → m b = 0) : tot m (trimL l) = tot m l := by
  obtain ⟨k, hk, e, hd, -⟩ := trimL_spec l
  have h1 := congrArg (tot m) (List.take_append_drop k l)
  rw [tot_append] at h1
  rw [e]
  have h2 : tot m (l.drop k) = 0 := tot_zero m fun b hb => by
    obtain ⟨j, hj, rfl⟩ := List.mem_iff_getElem.1 hb
    rw [List.getElem_drop]
    have hj2 : k + j < l.length := by rw [List.length_drop] at hj; omega
    refine h _ (List.getElem_mem hj2) ?_
    have := hd (k + j) (by omega)
    unfold blkAt at this
    rwa [List.getElem?_eq_getElem hj2] at this
  omega
theorem blks_set {p : Pg} {n : Nat} (hn : n < p.funs.length) (m : Blk → Int) (a : Option Addr) (c : Nat) (g : Fd) : tot m (Pg.mk a c (p.funs.set n g)).blks = tot m p.blks - tot m (fdAt p.funs n).blocks + tot m g.blocks := by
  have e1 : (Pg.mk a c (p.funs.set n g)).blks = (p.funs.take n).flatMap Fd.blocks ++ (g.blocks ++ (p.funs.drop (n + 1)).flatMap Fd.blocks) := by
    unfold Pg.blks
    rw [fset_split hn]
    simp
  have e2 : p.blks = (p.funs.take n).flatMap Fd.blocks ++ ((fdAt p.funs n).blocks ++ (p.funs.drop (n + 1)).flatMap Fd.blocks) := by
    unfold Pg.blks
    conv => lhs; rw [fdAt_split hn]
    simp
  rw [e1, e2]
  simp only [tot_append]
  omega
theorem live_tot (l : List Blk) : (nLive l : Int) = tot (fun b => if b.live then 1 else 0) l := by
  induction l with
  | nil => rfl
  | cons b l ih =>
    rw [tot_cons, ← ih]
    unfold nLive
    rw [List.filter_cons]
    split <;> simp <;> omega
theorem code_tot (p : Pg) : (p.ins.length : Int) = tot (fun b => (b.code.length : Int)) p.blks := by
  have : ∀ l : List Blk, ((l.flatMap Blk.ins).length : Int) = tot (fun b => (b.code.length : Int)) l := fun l => by
    induction l with
    | nil => rfl
    | cons b l ih =>
      rw [tot_cons, ← ih, List.flatMap_cons, List.length_append]
      simp [Blk.ins]
  rw [← this]
  have e : p.ins = p.blks.flatMap Blk.ins := by
    unfold Pg.ins Pg.blks
    rw [List.flatMap_assoc]
    rfl
  rw [e]
end Go.Proofs.YtbddjneinfkmpaaGreatDoor

namespace Go.Proofs.YtbddjneinfkmpaaGreatDoor
open Go Go.RowKit Go.Sort

def lvN (b : Blk) : Int := if b.live then 1 else 0
def cdN (b : Blk) : Int := (b.code.length : Int)
def scN (b : Blk) : Int := (b.succ.length : Int)
theorem delN_len {l : List Int} (h : Rises l) {n : Int} (hn : n ∈ l) : ((delN l n).length : Int) = l.length - 1 := by
  unfold delN
  induction l with
  | nil => exact absurd hn List.not_mem_nil
  | cons a t ih =>
    have ht : Rises t := (List.pairwise_cons.1 h).2
    have ha := (List.pairwise_cons.1 h).1
    by_cases e : a = n
    · subst e
      rw [List.filter_cons_of_neg (by simp), List.filter_eq_self.2 (fun x hx => by have := ha x hx; simp; omega)]
      simp
    · rw [List.filter_cons_of_pos (by simpa using e)]
      have := ih ht (by rcases List.mem_cons.1 hn with h | h; exact absurd h.symm e; exact h)
      simp only [List.length_cons]
      omega
theorem app_tot0 {p : Pg} {e : Ed} (hc : chk p e = 0) (h0 : e.op = 0) (m : Blk → Int) : tot m (appP p e).blks = tot m p.blks + m newB ∧ (appP p e).funs.length = p.funs.length + 1 := by
  unfold appP
  rw [if_pos hc, if_pos h0]
  refine ⟨?_, by simp⟩
  have : (Pg.mk none 0 (p.funs ++ [⟨e.b, e.tob, none, 0, [newB]⟩])).blks = p.blks ++ [newB] := by simp [Pg.blks]
  rw [this, tot_append]
  simp [tot]
theorem app_tot {p : Pg} {e : Ed} (hc : chk p e = 0) (h0 : e.op ≠ 0) (m : Blk → Int) {n : Nat} (hn : e.f = n) (hn2 : n < p.funs.length) : tot m (appP p e).blks = tot m p.blks - tot m (fdAt p.funs n).blocks + tot m (blksA p e (fdAt p.funs n).blocks) ∧ (appP p e).funs.length = p.funs.length := by
  unfold appP
  rw [if_pos hc, if_neg h0, hn]
  refine ⟨?_, by simp⟩
  rw [Int.toNat_natCast, blks_set hn2]
  rfl
theorem app_tot1 {p : Pg} {e : Ed} (hc : chk p e = 0) (h1 : e.op = 1) (m : Blk → Int) (hz : ∀ b : Blk, b.live = false → b.code.length = 0 ∧ b.succ.length = 0 → m b = 0) : tot m (appP p e).blks = tot m p.blks + m newB ∧ (appP p e).funs.length = p.funs.length := by
  obtain ⟨n, hn, hn2, hfb, hfr, hfo, hin⟩ := edit_fun hc (by omega)
  obtain ⟨k, hk, -, hkl, hkd, -⟩ := newBlk_here hfb (in1 hin h1)
  rw [hfr] at hkl hkd
  obtain ⟨ht, hl⟩ := app_tot hc (by omega) m hn hn2
  refine ⟨?_, hl⟩
  rw [ht]
  unfold blksA
  rw [if_pos h1, hk]
  by_cases hke : k = (fdAt p.funs n).blocks.length
  · rw [if_pos (by rw [hke]), tot_append]
    simp [tot]
    omega
  · rw [if_neg (by omega), Int.toNat_natCast, tot_set m (by omega)]
    have hdead : (blkAt (fdAt p.funs n).blocks k).live = false := by
      cases hb : (blkAt (fdAt p.funs n).blocks k).live
      · rfl
      · exact absurd ⟨by omega, by omega, by rw [Int.toNat_natCast]; exact hb⟩ hkd
    have := hz _ hdead ((blkOk_at hfo (by omega)).1 hdead)
    omega
theorem app_tot3 {p : Pg} {e : Ed} (hc : chk p e = 0) (h3 : 3 ≤ e.op) (m : Blk → Int) : ∃ x : Blk, x = blkR p e.f e.b ∧ blkB p e.f e.b = true ∧ Rises x.succ ∧ inFunE p e = 0 ∧ (∀ t, edgeB p e.f e.b t = true ↔ t ∈ x.succ) ∧ tot m (appP p e).blks = tot m p.blks - m x + m (blkA p e x) ∧ (appP p e).funs.length = p.funs.length := by
  obtain ⟨n, k, hn, hk, hn2, hkl, hfo, hfr, hbk, hbr, hin, -⟩ := app_view hc h3
  obtain ⟨ht, hl⟩ := app_tot hc (by omega) m hn hn2
  refine ⟨_, hbr.symm, hbk, ((succOk_iff _ _).1 (blkOk_at hfo hkl).2.2.1).1, hin, edgeB_iff hfr hk hbk, ?_, hl⟩
  rw [ht]
  unfold blksA
  rw [if_neg (by omega), if_neg (by omega), hk, Int.toNat_natCast, tot_set m hkl]
  omega
end Go.Proofs.YtbddjneinfkmpaaGreatDoor

namespace Go.Proofs.YtbddjneinfkmpaaGreatDoor
open Go Go.RowKit Go.Sort

theorem tot_map (m : Blk → Int) (F : Blk → Blk) (l : List Blk) : tot m (l.map F) = tot (fun b => m (F b)) l := by simp [tot, Function.comp_def]
theorem tot_le {m m' : Blk → Int} (h : ∀ b, m b ≤ m' b) (l : List Blk) : tot m l ≤ tot m' l := by
  induction l with
  | nil => exact Int.le_refl _
  | cons b l ih =>
    rw [tot_cons, tot_cons]
    have := h b
    omega
theorem app_tot2 {p : Pg} {e : Ed} (hc : chk p e = 0) (h2 : e.op = 2) : tot lvN (appP p e).blks = tot lvN p.blks - 1 ∧ tot cdN (appP p e).blks ≤ tot cdN p.blks ∧ tot scN (appP p e).blks ≤ tot scN p.blks ∧ (appP p e).funs.length = p.funs.length := by
  obtain ⟨n, hn, hn2, hfb, hfr, hfo, hin⟩ := edit_fun hc (by omega)
  obtain ⟨hbk, -⟩ := in2 hin h2
  obtain ⟨k, hk, hkl, -, hlive⟩ := blkB_at hbk
  rw [hfr] at hkl hlive
  have hb : ∀ m : Blk → Int, (∀ b : Blk, b.live = false → b.code.length = 0 ∧ b.succ.length = 0 → m b = 0) → tot m (blksA p e (fdAt p.funs n).blocks) = tot (fun x => m (x.with x.code (delN x.succ e.b))) ((fdAt p.funs n).blocks.set k Blk.none) := fun m hz => by
    unfold blksA
    rw [if_neg (by omega), if_pos h2, hk, Int.toNat_natCast, tot_trim, tot_map]
    intro x hx hd
    obtain ⟨y, hy, rfl⟩ := List.mem_map.1 hx
    have hyd : y.live = false := hd
    refine hz _ hd ?_
    have hy0 : y.code.length = 0 ∧ y.succ.length = 0 := by
      rcases List.mem_or_eq_of_mem_set hy with h | h
      · obtain ⟨j, hj, rfl⟩ := List.mem_iff_getElem.1 h
        have e : blkAt (fdAt p.funs n).blocks j = (fdAt p.funs n).blocks[j] := by unfold blkAt; simp [hj]
        have := (blkOk_at hfo hj).1
        rw [e] at this
        exact this hyd
      · subst h
        exact ⟨rfl, rfl⟩
    refine ⟨hy0.1, ?_⟩
    have e := List.eq_nil_of_length_eq_zero hy0.2
    show (delN y.succ _).length = 0
    rw [e]
    rfl
  obtain ⟨t1, hl⟩ := app_tot hc (by omega) lvN hn hn2
  obtain ⟨t2, -⟩ := app_tot hc (by omega) cdN hn hn2
  obtain ⟨t3, -⟩ := app_tot hc (by omega) scN hn hn2
  have b1 := hb lvN (fun b h _ => by unfold lvN; rw [h]; rfl)
  have b2 := hb cdN (fun b _ h => by unfold cdN; rw [h.1]; rfl)
  have b3 := hb scN (fun b _ h => by unfold scN; rw [h.2]; rfl)
  have s1 := tot_set lvN hkl Blk.none
  have s2 := tot_set cdN hkl Blk.none
  have s3 := tot_set scN hkl Blk.none
  have l1 : lvN (blkAt (fdAt p.funs n).blocks k) = 1 := by unfold lvN; rw [hlive]; rfl
  have l2 : 0 ≤ cdN (blkAt (fdAt p.funs n).blocks k) := Int.natCast_nonneg _
  have l3 : 0 ≤ scN (blkAt (fdAt p.funs n).blocks k) := Int.natCast_nonneg _
  have z1 : lvN Blk.none = 0 := rfl
  have z2 : cdN Blk.none = 0 := rfl
  have z3 : scN Blk.none = 0 := rfl
  have e1 : tot (fun x => lvN (x.with x.code (delN x.succ e.b))) ((fdAt p.funs n).blocks.set k Blk.none) = tot lvN ((fdAt p.funs n).blocks.set k Blk.none) := rfl
  have e2 : tot (fun x => cdN (x.with x.code (delN x.succ e.b))) ((fdAt p.funs n).blocks.set k Blk.none) = tot cdN ((fdAt p.funs n).blocks.set k Blk.none) := rfl
  have e3 : tot (fun x => scN (x.with x.code (delN x.succ e.b))) ((fdAt p.funs n).blocks.set k Blk.none) ≤ tot scN ((fdAt p.funs n).blocks.set k Blk.none) := tot_le (fun b => by
    show ((delN b.succ e.b).length : Int) ≤ b.succ.length
    exact_mod_cast List.length_filter_le _ _) _
  exact ⟨by omega, by omega, by omega, hl⟩
/-- How much more there is behind an edit that may be: functions, blocks, instructions, edges; behind a block's end not more. -/
theorem app_counts {p : Pg} {e : Ed} (hc : chk p e = 0) : (e.op = 0 → (appP p e).funs.length = p.funs.length + 1 ∧ tot lvN (appP p e).blks = tot lvN p.blks + 1 ∧ tot cdN (appP p e).blks = tot cdN p.blks ∧ tot scN (appP p e).blks = tot scN p.blks) ∧
    (e.op ≠ 0 → (appP p e).funs.length = p.funs.length) ∧
    (e.op = 1 → tot lvN (appP p e).blks = tot lvN p.blks + 1 ∧ tot cdN (appP p e).blks = tot cdN p.blks ∧ tot scN (appP p e).blks = tot scN p.blks) ∧
    (e.op = 2 → tot lvN (appP p e).blks = tot lvN p.blks - 1 ∧ tot cdN (appP p e).blks ≤ tot cdN p.blks ∧ tot scN (appP p e).blks ≤ tot scN p.blks) ∧
    (3 ≤ e.op → tot lvN (appP p e).blks = tot lvN p.blks) ∧
    (e.op = 3 → tot cdN (appP p e).blks = tot cdN p.blks ∧ tot scN (appP p e).blks = tot scN p.blks + 1) ∧
    (e.op = 4 → tot cdN (appP p e).blks = tot cdN p.blks ∧ tot scN (appP p e).blks = tot scN p.blks - 1) ∧
    (e.op = 5 → tot cdN (appP p e).blks = tot cdN p.blks ∧ tot scN (appP p e).blks = tot scN p.blks) ∧
    (e.op = 6 → tot cdN (appP p e).blks = tot cdN p.blks + 1 ∧ tot scN (appP p e).blks = tot scN p.blks) ∧
    (e.op = 7 → tot cdN (appP p e).blks = tot cdN p.blks - 1 ∧ tot scN (appP p e).blks = tot scN p.blks) := by
  refine ⟨fun h => ?_, fun h => ?_, fun h => ?_, fun h => ?_, fun h => ?_, fun h => ?_, fun h => ?_, fun h => ?_, fun h => ?_, fun h => ?_⟩
  · have a1 := app_tot0 hc h lvN
    have a2 := app_tot0 hc h cdN
    have a3 := app_tot0 hc h scN
    exact ⟨a1.2, a1.1, by rw [a2.1]; exact Int.add_zero _, by rw [a3.1]; exact Int.add_zero _⟩
  · obtain ⟨n, hn, hn2, -⟩ := edit_fun hc h
    exact (app_tot hc h lvN hn hn2).2
  · have a1 := app_tot1 hc h lvN (fun b h _ => by unfold lvN; rw [h]; rfl)
    have a2 := app_tot1 hc h cdN (fun b _ h => by unfold cdN; rw [h.1]; rfl)
    have a3 := app_tot1 hc h scN (fun b _ h => by unfold scN; rw [h.2]; rfl)
    exact ⟨a1.1, by rw [a2.1]; exact Int.add_zero _, by rw [a3.1]; exact Int.add_zero _⟩
  · have a := app_tot2 hc h
    exact ⟨a.1, a.2.1, a.2.2.1⟩
  · obtain ⟨x, -, -, -, -, -, ht, -⟩ := app_tot3 hc h lvN
    have e : lvN (blkA p e x) = lvN x := by
      unfold blkA
      split
      · rfl
      · split
        · rfl
        · split
          · rfl
          · split <;> rfl
    omega
  · obtain ⟨x, -, -, -, -, -, ht, -⟩ := app_tot3 hc (by omega) cdN
    obtain ⟨y, -, -, -, -, -, hs, -⟩ := app_tot3 hc (by omega) scN
    have e1 : cdN (blkA p e x) = cdN x := by unfold blkA; rw [if_pos h]; rfl
    have e2 : scN (blkA p e y) = scN y + 1 := by unfold blkA; rw [if_pos h]; show ((addN y.succ e.tob).length : Int) = _; rw [addN_length]; rfl
    exact ⟨by omega, by omega⟩
  · obtain ⟨x, -, -, -, -, -, ht, -⟩ := app_tot3 hc (by omega) cdN
    obtain ⟨y, -, -, hr, hin, he, hs, -⟩ := app_tot3 hc (by omega) scN
    have hm := (he _).1 ((in3 hin (by omega)).2.2.2.1.2 (by omega))
    have e1 : cdN (blkA p e x) = cdN x := by unfold blkA; rw [if_neg (by omega), if_pos h]; rfl
    have e2 : scN (blkA p e y) = scN y - 1 := by unfold blkA; rw [if_neg (by omega), if_pos h]; exact delN_len hr hm
    exact ⟨by omega, by omega⟩
  · obtain ⟨x, -, -, -, -, -, ht, -⟩ := app_tot3 hc (by omega) cdN
    obtain ⟨y, -, -, hr, hin, he, hs, -⟩ := app_tot3 hc (by omega) scN
    have hm := (he _).1 ((in3 hin (by omega)).2.2.2.1.2 (by omega))
    have e1 : cdN (blkA p e x) = cdN x := by unfold blkA; rw [if_neg (by omega), if_neg (by omega), if_pos h]; rfl
    have e2 : scN (blkA p e y) = scN y := by
      unfold blkA
      rw [if_neg (by omega), if_neg (by omega), if_pos h]
      have := delN_len hr hm
      show ((addN (delN y.succ e.tob) e.other).length : Int) = (y.succ.length : Int)
      rw [addN_length]
      omega
    exact ⟨by omega, by omega⟩
  · obtain ⟨x, hx, -, -, hin, -, ht, -⟩ := app_tot3 hc (by omega) cdN
    obtain ⟨y, -, -, -, -, -, hs, -⟩ := app_tot3 hc (by omega) scN
    have hp := (in6 hin h).2.1
    rw [← hx] at hp
    have e1 : cdN (blkA p e x) = cdN x + 1 := by
      unfold blkA
      rw [if_neg (by omega), if_neg (by omega), if_neg (by omega), if_pos h]
      show ((putL x.code e.pos.toNat _).length : Int) = (x.code.length : Int) + 1
      unfold putL
      simp
      omega
    have e2 : scN (blkA p e y) = scN y := by unfold blkA; rw [if_neg (by omega), if_neg (by omega), if_neg (by omega), if_pos h]; rfl
    exact ⟨by omega, by omega⟩
  · obtain ⟨x, hx, -, -, hin, -, ht, -⟩ := app_tot3 hc (by omega) cdN
    obtain ⟨y, -, -, -, -, -, hs, -⟩ := app_tot3 hc (by omega) scN
    have hp := (in7 hin h).2
    unfold atB at hp
    rw [← hx] at hp
    simp only [Bool.and_eq_true, decide_eq_true_eq] at hp
    have e1 : cdN (blkA p e x) = cdN x - 1 := by
      unfold blkA
      rw [if_neg (by omega), if_neg (by omega), if_neg (by omega), if_neg (by omega)]
      show ((x.code.eraseIdx e.pos.toNat).length : Int) = (x.code.length : Int) - 1
      rw [List.length_eraseIdx_of_lt (by omega)]
      omega
    have e2 : scN (blkA p e y) = scN y := by unfold blkA; rw [if_neg (by omega), if_neg (by omega), if_neg (by omega), if_neg (by omega)]; rfl
    exact ⟨by omega, by omega⟩
end Go.Proofs.YtbddjneinfkmpaaGreatDoor

namespace Go.Proofs.YtbddjneinfkmpaaGreatDoor
open Go Go.RowKit Go.Sort

/-- What the blocks of the first functions have in edges. -/
def scF (p : Pg) (x : Nat) : Int := tot scN ((p.funs.take x).flatMap Fd.blocks)
def scB (l : List Blk) (y : Nat) : Int := tot scN (l.take y)
theorem scF_zero (p : Pg) : scF p 0 = 0 := rfl
theorem scB_zero (l : List Blk) : scB l 0 = 0 := rfl
theorem scF_succ {p : Pg} {x : Nat} (hx : x < p.funs.length) : scF p (x + 1) = scF p x + scB (fdAt p.funs x).blocks (fdAt p.funs x).blocks.length := by
  unfold scF scB
  rw [List.take_succ_eq_append_getElem hx, List.flatMap_append, tot_append, List.take_length]
  have : fdAt p.funs x = p.funs[x] := by unfold fdAt; simp [hx]
  rw [this]
  simp
theorem scB_succ {l : List Blk} {y : Nat} (hy : y < l.length) : scB l (y + 1) = scB l y + ((blkAt l y).succ.length : Int) := by
  unfold scB
  rw [List.take_succ_eq_append_getElem hy, tot_append]
  have : blkAt l y = l[y] := by unfold blkAt; simp [hy]
  rw [this]
  simp [tot, scN]
theorem scF_all (p : Pg) : scF p p.funs.length = tot scN p.blks := by
  unfold scF Pg.blks
  rw [List.take_length]
theorem scB_range {l : List Blk} (h : ∀ k, k < l.length → (blkAt l k).succ.length ≤ 30) : ∀ y, y ≤ l.length → 0 ≤ scB l y ∧ scB l y ≤ 30 * y := by
  intro y
  induction y with
  | zero => intro _; rw [scB_zero]; omega
  | succ y ih =>
    intro hy
    have := ih (by omega)
    have := h y (by omega)
    rw [scB_succ (by omega)]
    omega
theorem scF_range {p : Pg} (h : p.few) : ∀ x, x ≤ p.funs.length → 0 ≤ scF p x ∧ scF p x ≤ 600 * x := by
  intro x
  induction x with
  | zero => intro _; rw [scF_zero]; omega
  | succ x ih =>
    intro hx
    have h1 := ih (by omega)
    have h2 := h.2 x (by omega)
    have h3 := scB_range (fun k hk => (h2.2 k hk).2) _ (Nat.le_refl (fdAt p.funs x).blocks.length)
    have h4 := h2.1
    rw [scF_succ (by omega)]
    omega
theorem ins_forms {p : Pg} (h : p.sane) : ∀ i ∈ p.ins, i.form := by
  intro i hi
  unfold Pg.ins at hi
  obtain ⟨f, hf, hi⟩ := List.mem_flatMap.1 hi
  obtain ⟨b, hb, hi⟩ := List.mem_flatMap.1 hi
  obtain ⟨k, hk, rfl⟩ := mem_fdAt hf
  obtain ⟨j, hj, rfl⟩ := mem_blkAt hb
  obtain ⟨q, hq, rfl⟩ := mem_insAt hi
  exact (((h.2.1 k hk).2 j hj).2.2.2 q hq).1
theorem ins_most {p : Pg} (h : p.sane) : p.ins.length ≤ 96 := by
  have h1 := nodup_le 96 (p.ins.map Ins.id) h.2.2 (fun x hx => by
    obtain ⟨i, hi, rfl⟩ := List.mem_map.1 hx
    have := ins_forms h i hi
    exact ⟨this.2.2.1, by have := this.2.2.2.1; omega⟩)
  rwa [List.length_map] at h1
/-- All that the law asks, of what is counted. -/
def cntOk (op f b i g c j n : Int) : Prop :=
  (op = 0 → g = f + 1 ∧ c = b + 1 ∧ j = i ∧ n = 0) ∧ (op = 1 → g = f ∧ c = b + 1 ∧ j = i ∧ n = 0) ∧ (op = 2 → g = f ∧ c = b - 1 ∧ j ≤ i ∧ n ≤ 0) ∧
  (op = 3 → g = f ∧ c = b ∧ j = i ∧ n = 1) ∧ (op = 4 → g = f ∧ c = b ∧ j = i ∧ n = -1) ∧ (op = 5 → g = f ∧ c = b ∧ j = i ∧ n = 0) ∧ (op = 6 → g = f ∧ c = b ∧ j = i + 1 ∧ n = 0) ∧ (op = 7 → g = f ∧ c = b ∧ j = i - 1 ∧ n = 0)
theorem cnt_ok {p q : Pg} {e : Ed} (hc : chk p e = 0) (hq : q.d = (appP p e).d) :
    (0 ≤ e.op ∧ e.op ≤ 7) ∧ cntOk e.op p.funs.length (nLive p.blks : Nat) (p.ins.length : Nat) q.funs.length (nLive q.blks : Nat) (q.ins.length : Nat) (tot scN q.blks - tot scN p.blks) := by
  have hd : ∀ (r : Pg), r.d.blks = r.blks.map Blk.d := fun r => by
    unfold Pg.blks Pg.d
    dsimp only
    rw [List.flatMap_map, List.map_flatMap]
    rfl
  have ht : ∀ (m : Blk → Int) (hm : ∀ b, m b.d = m b), tot m q.blks = tot m (appP p e).blks := fun m hm => by
    have h1 : ∀ r : Pg, tot m r.d.blks = tot m r.blks := fun r => by
      rw [hd, tot_map]
      congr 1
      funext b
      exact hm b
    rw [← h1 q, hq, h1]
  have l1 := live_tot p.blks
  have l2 := live_tot q.blks
  have i1 := code_tot p
  have i2 := code_tot q
  have e1 : tot (fun b => if b.live then 1 else 0) q.blks = tot lvN q.blks := rfl
  have e2 : tot (fun b => if b.live then 1 else 0) p.blks = tot lvN p.blks := rfl
  have e3 : tot (fun b => (b.code.length : Int)) q.blks = tot cdN q.blks := rfl
  have e4 : tot (fun b => (b.code.length : Int)) p.blks = tot cdN p.blks := rfl
  have t1 := ht lvN (fun _ => rfl)
  have t2 := ht cdN (fun _ => rfl)
  have t3 := ht scN (fun _ => rfl)
  have t4 := len_of_d hq
  obtain ⟨c0, cn, c1, c2, cl, c3, c4, c5, c6, c7⟩ := app_counts hc
  refine ⟨(chk_zero hc).2.1, ?_⟩
  unfold cntOk
  refine ⟨fun h => ?_, fun h => ?_, fun h => ?_, fun h => ?_, fun h => ?_, fun h => ?_, fun h => ?_, fun h => ?_⟩
  · have := c0 h; omega
  · have := c1 h; have := cn (by omega); omega
  · have := c2 h; have := cn (by omega); omega
  · have := c3 h; have := cn (by omega); have := cl (by omega); omega
  · have := c4 h; have := cn (by omega); have := cl (by omega); omega
  · have := c5 h; have := cn (by omega); have := cl (by omega); omega
  · have := c6 h; have := cn (by omega); have := cl (by omega); omega
  · have := c7 h; have := cn (by omega); have := cl (by omega); omega
end Go.Proofs.YtbddjneinfkmpaaGreatDoor

namespace Go.Proofs.YtbddjneinfkmpaaGreatDoor
open Go Go.RowKit Go.Sort

theorem tot_d (m : Blk → Int) (hm : ∀ b, m b.d = m b) (p : Pg) : tot m p.d.blks = tot m p.blks := by
  have e : p.d.blks = p.blks.map Blk.d := by
    unfold Pg.blks Pg.d
    dsimp only
    rw [List.flatMap_map, List.map_flatMap]
    rfl
  rw [e, tot_map]
  congr 1
  funext b
  exact hm b
theorem tot_of_d {p q : Pg} (h : p.d = q.d) (m : Blk → Int) (hm : ∀ b, m b.d = m b) : tot m p.blks = tot m q.blks := by rw [← tot_d m hm p, h, tot_d m hm]
theorem app_differs {p : Pg} {e : Ed} (hc : chk p e = 0) (hno : ¬ (e.op = 5 ∧ e.other = e.tob)) : (appP p e).d ≠ p.d := by
  intro h
  have h1 := len_of_d h
  have h2 := tot_of_d h lvN (fun _ => rfl)
  have h3 := tot_of_d h cdN (fun _ => rfl)
  have h4 := tot_of_d h scN (fun _ => rfl)
  obtain ⟨c0, -, c1, c2, -, c3, c4, -, c6, c7⟩ := app_counts hc
  have h7 := (chk_zero hc).2.1
  rcases (by omega : e.op = 0 ∨ e.op = 1 ∨ e.op = 2 ∨ e.op = 3 ∨ e.op = 4 ∨ e.op = 5 ∨ e.op = 6 ∨ e.op = 7) with ho | ho | ho | ho | ho | ho | ho | ho
  · have := c0 ho; omega
  · have := c1 ho; omega
  · have := c2 ho; omega
  · have := c3 ho; omega
  · have := c4 ho; omega
  · have h8 := ((app_edges hc (by omega)).2.2.1 ho).1
    rw [← edgeB_d, h, edgeB_d] at h8
    obtain ⟨n, hn, hn2, hfb, hfr, hfo, hin⟩ := edit_fun hc (by omega)
    have h9 := (in3 hin (by omega)).2.2.2.2 ho
    rcases h9 with h9 | h9
    · exact hno ⟨ho, h9⟩
    · rw [h9] at h8; cases h8
  · have := c6 ho; omega
  · have := c7 ho; omega
theorem putL_at (l : List Ins) (k : Nat) (hk : k ≤ l.length) (x : Ins) (j : Nat) : insAt (putL l k x) j = if j < k then insAt l j else if j = k then x else insAt l (j - 1) := by
  unfold insAt putL
  have hl : (l.take k).length = k := by rw [List.length_take]; omega
  split
  · rename_i h
    rw [List.getElem?_append_left (by omega), List.getElem?_take_of_lt h]
  · split
    · rename_i h
      rw [List.getElem?_append_right (by omega), hl, h, Nat.sub_self]
      rfl
    · rename_i h1 h2
      rw [List.getElem?_append_right (by omega), hl, show j - k = (j - k - 1) + 1 by omega, List.getElem?_cons_succ, List.getElem?_drop, show k + (j - k - 1) = j - 1 by omega]
theorem erase_at (l : List Ins) (k : Nat) (j : Nat) : insAt (l.eraseIdx k) j = if j < k then insAt l j else insAt l (j + 1) := by
  unfold insAt
  rw [List.getElem?_eraseIdx]
  split <;> rfl
/-- Places behind an instruction that is put in, or taken out. -/
theorem app_code {p : Pg} {e : Ed} (hc : chk p e = 0) (h6 : e.op = 6 ∨ e.op = 7) :
    (e.op = 6 → atB (appP p e) e.f e.b e.pos = true ∧ atR (appP p e) e.f e.b e.pos = { e.i with id := newId p }) ∧
    (e.op = 7 → atB p e.f e.b e.pos = true) ∧
    ∀ k : Int, atB p e.f e.b k = true → (e.op = 7 → k ≠ e.pos) → 
      atB (appP p e) e.f e.b (k + if e.op = 6 then (if e.pos ≤ k then 1 else 0) else (if e.pos ≤ k then -1 else 0)) = true ∧
      atR (appP p e) e.f e.b (k + if e.op = 6 then (if e.pos ≤ k then 1 else 0) else (if e.pos ≤ k then -1 else 0)) = atR p e.f e.b k := by
  obtain ⟨n, m, hn, hm, hn2, hml, hfo, hfr, hbk, hbr, hin, hlen, hfo2, hav, hB, hR, hF, hvr, hfrq, -⟩ := app_view hc (by omega)
  obtain ⟨x, hx⟩ : ∃ x, blkAt (fdAt p.funs n).blocks m = x := ⟨_, rfl⟩
  rw [hx] at hbr hR
  have hqB : ∀ k, atB (appP p e) e.f e.b k = (decide (0 ≤ k) && decide (k < ((blkA p e x).code.length : Int))) := fun k => by
    unfold atB
    rw [hR]
  have hpB : ∀ k, atB p e.f e.b k = (decide (0 ≤ k) && decide (k < (x.code.length : Int))) := fun k => by
    unfold atB
    rw [hbr]
  have hqR : ∀ k, atB (appP p e) e.f e.b k = true → atR (appP p e) e.f e.b k = insAt (blkA p e x).code k.toNat := fun k hk => by
    unfold atR
    rw [if_pos hk, hR]
  have hpR : ∀ k, atB p e.f e.b k = true → atR p e.f e.b k = insAt x.code k.toNat := fun k hk => by
    unfold atR
    rw [if_pos hk, hbr]
  rcases h6 with ho | ho
  · obtain ⟨-, hpos, -, -, -, hlen2, -⟩ := in6 hin ho
    rw [hbr] at hpos hlen2
    have hA : (blkA p e x).code = putL x.code e.pos.toNat { e.i with id := newId p } := by unfold blkA; rw [if_neg (by omega), if_neg (by omega), if_neg (by omega), if_pos ho]; rfl
    have hAl : (putL x.code e.pos.toNat { e.i with id := newId p }).length = x.code.length + 1 := by unfold putL; simp; omega
    rw [hA, hAl] at hqB
    rw [hA] at hqR
    refine ⟨fun _ => ?_, fun h => by omega, fun k hk _ => ?_⟩
    · have h1 : atB (appP p e) e.f e.b e.pos = true := by rw [hqB]; simp; omega
      refine ⟨h1, ?_⟩
      rw [hqR _ h1, putL_at _ _ (by omega), if_neg (by omega), if_pos rfl]
    · have hk2 := hk
      rw [hpB] at hk2
      simp only [Bool.and_eq_true, decide_eq_true_eq] at hk2
      rw [if_pos ho]
      have h1 : atB (appP p e) e.f e.b (k + if e.pos ≤ k then 1 else 0) = true := by rw [hqB]; simp only [Bool.and_eq_true, decide_eq_true_eq]; split <;> omega
      refine ⟨h1, ?_⟩
      rw [hqR _ h1, hpR _ hk, putL_at _ _ (by omega)]
      split
      · rw [if_neg (by omega), if_neg (by omega)]
        congr 1
        omega
      · rw [if_pos (by omega)]
        congr 1
        omega
  · obtain ⟨-, hat⟩ := in7 hin ho
    have hat2 := hat
    rw [hpB] at hat2
    simp only [Bool.and_eq_true, decide_eq_true_eq] at hat2
    have hA : (blkA p e x).code = x.code.eraseIdx e.pos.toNat := by unfold blkA; rw [if_neg (by omega), if_neg (by omega), if_neg (by omega), if_neg (by omega)]; rfl
    have hAl : (x.code.eraseIdx e.pos.toNat).length = x.code.length - 1 := List.length_eraseIdx_of_lt (by omega)
    rw [hA, hAl] at hqB
    rw [hA] at hqR
    refine ⟨fun h => by omega, fun _ => hat, fun k hk hne => ?_⟩
    have hk2 := hk
    have hne := hne ho
    rw [hpB] at hk2
    simp only [Bool.and_eq_true, decide_eq_true_eq] at hk2
    rw [if_neg (by omega)]
    have h1 : atB (appP p e) e.f e.b (k + if e.pos ≤ k then -1 else 0) = true := by rw [hqB]; simp only [Bool.and_eq_true, decide_eq_true_eq]; split <;> omega
    refine ⟨h1, ?_⟩
    rw [hqR _ h1, hpR _ hk, erase_at]
    split
    · rw [if_neg (by omega)]
      congr 1
      omega
    · rw [if_pos (by omega)]
      congr 1
      omega
end Go.Proofs.YtbddjneinfkmpaaGreatDoor
