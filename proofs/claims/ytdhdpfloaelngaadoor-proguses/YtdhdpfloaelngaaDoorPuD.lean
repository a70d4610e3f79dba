/- Programs: counting, for ProgUses. -/
import Derived.Test.YtdhdpfloaelngaaDoorPuC
namespace Go.Proofs.YtdhdpfloaelngaaDoor
open Go

def cnt7 (l : List Ins) : Nat := (l.filter fun i => decide (i.kind = 7)).length
def cntD (l : List Ins) : Nat := (l.filter fun i => decide (0 ≤ i.defn)).length
theorem cnt7_le (l : List Ins) : cnt7 l ≤ l.length := List.length_filter_le _ _
theorem cntD_le (l : List Ins) : cntD l ≤ l.length := List.length_filter_le _ _
theorem cnt7_app (l m : List Ins) : cnt7 (l ++ m) = cnt7 l + cnt7 m := by simp [cnt7]
theorem cntD_app (l m : List Ins) : cntD (l ++ m) = cntD l + cntD m := by simp [cntD]
theorem take_ins {l : List Ins} {k : Nat} (h : k < l.length) : l.take (k + 1) = l.take k ++ [insAt l k] := by
  rw [List.take_add_one]
  simp [insAt, h]
theorem take_blk {l : List Blk} {k : Nat} (h : k < l.length) : (l.take (k + 1)).flatMap Blk.ins = (l.take k).flatMap Blk.ins ++ (blkAt l k).code := by
  rw [List.take_add_one, List.flatMap_append]
  simp only [blkAt, List.getElem?_eq_getElem h, Option.toList_some, Option.getD_some, List.flatMap_cons, List.flatMap_nil, List.append_nil, Blk.ins]
theorem take_fd {l : List Fd} {k : Nat} (h : k < l.length) : (l.take (k + 1)).flatMap Fd.ins = (l.take k).flatMap Fd.ins ++ (fdAt l k).ins := by
  rw [List.take_add_one, List.flatMap_append]
  simp only [fdAt, List.getElem?_eq_getElem h, Option.toList_some, Option.getD_some, List.flatMap_cons, List.flatMap_nil, List.append_nil]
theorem cnt7_step {l : List Ins} {k : Nat} (h : k < l.length) : cnt7 (l.take (k + 1)) = cnt7 (l.take k) + if (insAt l k).kind = 7 then 1 else 0 := by
  rw [take_ins h, cnt7_app]
  by_cases hk : (insAt l k).kind = 7 <;> simp [cnt7, hk]
theorem cntD_step {l : List Ins} {k : Nat} (h : k < l.length) : cntD (l.take (k + 1)) = cntD (l.take k) + if 0 ≤ (insAt l k).defn then 1 else 0 := by
  rw [take_ins h, cntD_app]
  by_cases hk : 0 ≤ (insAt l k).defn <;> simp [cntD, hk]

theorem key_sum {α : Type} (P : α → Bool) (key : α → Int) (n : Nat) : ∀ l : List α, (∀ x ∈ l, P x = true → 0 ≤ key x ∧ key x < (n : Int)) →
    sumTo (fun k => (l.filter fun x => P x && decide (key x = (k : Int))).length) n = (l.filter P).length
  | [], _ => by simp [sumTo_zero]
  | x :: l, h => by
    have ih := key_sum P key n l (fun y hy => h y (List.mem_cons_of_mem _ hy))
    have e : ∀ k : Nat, ((x :: l).filter fun x => P x && decide (key x = (k : Int))).length = (if P x = true ∧ (k : Int) = key x then 1 else 0) + (l.filter fun x => P x && decide (key x = (k : Int))).length := fun k => by
      by_cases h1 : P x = true
      · by_cases h2 : key x = (k : Int)
        · simp [h1, h2]; omega
        · have h3 : ¬ (k : Int) = key x := fun e => h2 e.symm
          simp [h1, h2, h3]
      · simp [h1]
    rw [sumTo_congr _ (fun k _ => e k), sumTo_add, ih]
    by_cases hp : P x = true
    · obtain ⟨h0, h1⟩ := h x (by simp) hp
      obtain ⟨m, hm⟩ := Int.eq_ofNat_of_zero_le h0
      have hs : sumTo (fun k : Nat => if P x = true ∧ (k : Int) = key x then 1 else 0) n = 1 := by
        rw [sumTo_congr (g := fun k : Nat => if (k : Int) = (m : Int) then 1 else 0) _ (fun k _ => by simp [hp, hm]), one_sum, if_pos (by omega)]
      rw [hs]
      simp [hp]
      omega
    · have hs : sumTo (fun k : Nat => if P x = true ∧ (k : Int) = key x then 1 else 0) n = 0 := by
        rw [sumTo_congr (g := fun _ => 0) _ (fun k _ => by simp [hp]), sumTo_zero]
      rw [hs]
      simp [hp]

theorem calls_len (p : Pg) (f : Int) : (callsL f p.ats).length = (p.ins.filter fun i => decide (i.kind = 7) && decide (i.f = f)).length := by
  rw [← ats_i, List.filter_map, List.length_map]
  unfold callsL
  congr 1
  apply List.filter_congr
  intro x _
  simp
theorem kind7_f {i : Ins} (h : i.form) (h7 : i.kind = 7) : 0 ≤ i.f := by
  have := h.2.2.2.2.2.2.2.2.2.1
  simp [noneB, h7] at this
  omega
theorem ins_ok {p : Pg} (h : fdsOk p) : ∀ i ∈ p.ins, i.form ∧ (i.kind = 7 → i.f < p.funs.length) := by
  intro i hi
  obtain ⟨f, hf, hi⟩ := List.mem_flatMap.1 hi
  obtain ⟨b, hb, hi⟩ := List.mem_flatMap.1 hi
  obtain ⟨k, hk, rfl⟩ := mem_fdAt hf
  obtain ⟨j, hj, rfl⟩ := mem_blkAt hb
  obtain ⟨n, hn, rfl⟩ := mem_insAt hi
  have := (((h k hk).2 j hj).2.2.2 n hn)
  exact ⟨this.1, fun h7 => (this.2.2 h7).1⟩
theorem calls_sum {p : Pg} (h : p.sane) : sumTo (fun f => (callsL (f : Int) p.ats).length) p.funs.length = cnt7 p.ins := by
  rw [sumTo_congr _ (fun k _ => calls_len p k)]
  exact key_sum (fun i => decide (i.kind = 7)) Ins.f _ p.ins (fun i hi h7 => by
    have h7 : i.kind = 7 := by simpa using h7
    have := ins_ok h.2.1 i hi
    exact ⟨kind7_f this.1 h7, this.2 h7⟩)

theorem atsC_f (f b : Nat) : ∀ (l : List Ins) (k : Nat), ∀ x ∈ atsC f b k l, x.f = f
  | [], _, x, h => by simp [atsC] at h
  | i :: r, k, x, h => by
    simp only [atsC, List.mem_cons] at h
    rcases h with rfl | h
    · rfl
    · exact atsC_f f b r (k + 1) x h
theorem atsB_f (f : Nat) : ∀ (l : List Blk) (b : Nat), ∀ x ∈ atsB f b l, x.f = f
  | [], _, x, h => by simp [atsB] at h
  | y :: r, b, x, h => by
    simp only [atsB, List.mem_append] at h
    rcases h with h | h
    · exact atsC_f f b _ _ x h
    · exact atsB_f f r (b + 1) x h
theorem atsF_f : ∀ (l : List Fd) (g : Nat), ∀ x ∈ atsF g l, g ≤ x.f
  | [], _, x, h => by simp [atsF] at h
  | y :: r, g, x, h => by
    simp only [atsF, List.mem_append] at h
    rcases h with h | h
    · exact Nat.le_of_eq (atsB_f g _ _ x h).symm
    · exact Nat.le_of_succ_le (atsF_f r (g + 1) x h)
theorem atsF_at : ∀ (l : List Fd) (g f : Nat), g ≤ f → f < g + l.length → (((atsF g l).filter fun x => decide (x.f = f)).map At.i) = (fdAt l (f - g)).ins
  | [], g, f, h1, h2 => by simp at h2; omega
  | y :: r, g, f, h1, h2 => by
    simp only [atsF, List.filter_append, List.map_append]
    by_cases hg : g = f
    · subst hg
      have e1 : (atsB g 0 y.blocks).filter (fun x => decide (x.f = g)) = atsB g 0 y.blocks := List.filter_eq_self.2 (fun x hx => by simpa using atsB_f g _ _ x hx)
      have e2 : (atsF (g + 1) r).filter (fun x => decide (x.f = g)) = [] := List.filter_eq_nil_iff.2 (fun x hx => by have := atsF_f r (g + 1) x hx; simp; omega)
      rw [e1, e2, atsB_i]
      simp [fdAt, Fd.ins]
    · have e1 : (atsB g 0 y.blocks).filter (fun x => decide (x.f = f)) = [] := List.filter_eq_nil_iff.2 (fun x hx => by have := atsB_f g _ _ x hx; simp; omega)
      rw [e1, atsF_at r (g + 1) f (by omega) (by simp at h2; omega)]
      obtain ⟨m, rfl⟩ : ∃ m, f = g + 1 + m := ⟨f - g - 1, by omega⟩
      have e3 : g + 1 + m - g = m + 1 := by omega
      have e4 : g + 1 + m - (g + 1) = m := by omega
      rw [e3, e4]
      simp [fdAt]
theorem defs_len (p : Pg) (f : Nat) (hf : f < p.funs.length) (v : Int) : (defsL (f : Int) v p.ats).length = ((fdAt p.funs f).ins.filter fun i => decide (i.defn = v)).length := by
  have h := atsF_at p.funs 0 f (Nat.zero_le _) (by omega)
  rw [Nat.sub_zero] at h
  rw [← h, List.filter_map, List.length_map, List.filter_filter]
  unfold defsL
  rw [List.length_map]
  congr 1
  apply List.filter_congr
  intro x _
  by_cases h1 : x.f = f
  · simp [h1]
  · have h2 : ¬ ((x.f : Int) = (f : Int)) := by omega
    simp [h1, h2]
theorem defs_sum {p : Pg} (h : p.sane) {f : Nat} (hf : f < p.funs.length) : sumTo (fun v => (defsL (f : Int) (v : Int) p.ats).length) (fdAt p.funs f).vr.toNat = cntD (fdAt p.funs f).ins := by
  rw [sumTo_congr _ (fun k _ => defs_len p f hf k)]
  have hd : ∀ i ∈ (fdAt p.funs f).ins, 0 ≤ i.defn → i.defn < (fdAt p.funs f).vr := by
    intro i hi h0
    obtain ⟨b, hb, hi⟩ := List.mem_flatMap.1 hi
    obtain ⟨j, hj, rfl⟩ := mem_blkAt hb
    obtain ⟨n, hn, rfl⟩ := mem_insAt hi
    have := (((h.2.1 f hf).2 j hj).2.2.2 n hn).2.1
    refine this _ ?_
    unfold Blk.ins at h0 ⊢
    unfold Ins.vars
    rw [if_pos h0, mem_sortL, mem_addL]
    exact .inr rfl
  have hv0 : 0 ≤ (fdAt p.funs f).vr := by have := (h.2.1 f hf).1; unfold headOk at this; omega
  have hk := key_sum (fun i : Ins => decide (0 ≤ i.defn)) Ins.defn (fdAt p.funs f).vr.toNat (fdAt p.funs f).ins (fun i hi h0 => by
    have h0 : 0 ≤ i.defn := by simpa using h0
    have := hd i hi h0
    exact ⟨h0, by omega⟩)
  rw [cntD, ← hk]
  apply sumTo_congr
  intro k _
  congr 1
  apply List.filter_congr
  intro i _
  by_cases h1 : i.defn = (k : Int)
  · have h2 : 0 ≤ i.defn := by omega
    simp [h1]
  · simp [h1]
theorem take_all_fd (p : Pg) : (p.funs.take p.funs.length).flatMap Fd.ins = p.ins := by rw [List.take_length]; rfl
end Go.Proofs.YtdhdpfloaelngaaDoor
