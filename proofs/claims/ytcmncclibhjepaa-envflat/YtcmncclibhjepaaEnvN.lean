/- The pure side of the laws over Envs. -/
import Derived.Test.YtcmncclibhjepaaEnvF
namespace Go.Proofs.Ytcmncclibhjepaa
open Go

theorem sS_sS (x : Int) : sS ((sS x : Nat) : Int) = sS x := sS_of (sS_lt x)
theorem sS_zero : sS 0 = 0 := rfl
section
variable {α : Type}
theorem atG_tab {d : α} {f : Nat → α} {n : Nat} {i : Int} (h : 0 ≤ i ∧ i < (n : Int)) : atG d true (tabG f n) i = f i.toNat := by
  unfold atG szG
  rw [if_pos rfl, tabG_length, if_pos h]
  exact tabG_at f (by omega) d
theorem atG_tab_out {d : α} {f : Nat → α} {n : Nat} {i : Int} (h : ¬ (0 ≤ i ∧ i < (n : Int))) : atG d true (tabG f n) i = d := atG_out (by unfold szG; rw [if_pos rfl, tabG_length]; exact h)
theorem atG_off {d : α} {l : List α} {i : Int} : atG d false l i = d := atG_out (by simp [szG] <;> omega)
theorem putG_at {d : α} (l : List α) (i : Int) (v : α) (k : Int) : atG d true (putG l i v) k = if 0 ≤ i ∧ i < (l.length : Int) ∧ k = i then v else atG d true l k := by
  unfold putG
  by_cases hin : 0 ≤ i ∧ i < (l.length : Int)
  · rw [if_pos hin]
    by_cases hk : k = i
    · subst hk
      rw [if_pos ⟨hin.1, hin.2, rfl⟩]
      unfold atG szG
      rw [if_pos rfl, List.length_set, if_pos hin]
      have : k.toNat < l.length := by omega
      simp [this]
    · rw [if_neg (fun h => hk h.2.2)]
      unfold atG szG
      rw [if_pos rfl, if_pos rfl, List.length_set]
      split
      · rename_i h
        have : i.toNat ≠ k.toNat := by omega
        rw [List.getElem?_set_ne this]
      · rfl
  · rw [if_neg hin, if_neg (fun h => hin ⟨h.1, h.2.1⟩)]
/-- The value at a place of a join. -/
theorem joinG_at {d : α} {jn : α → α → α} (on1 : Bool) (l1 : List α) (on2 : Bool) (l2 : List α) (i : Int) :
    atG d true (joinG d jn on1 l1 on2 l2) i = if 0 ≤ i ∧ i < ((max (szG on1 l1) (szG on2 l2) : Nat) : Int) then jn (atG d on1 l1 i) (atG d on2 l2 i) else d := by
  unfold joinG
  split
  · rename_i h
    rw [atG_tab h, Int.toNat_of_nonneg h.1]
  · rename_i h
    exact atG_tab_out h
theorem joinG_both_off {d : α} {jn : α → α → α} (l1 l2 : List α) : joinG d jn false l1 false l2 = [] := by simp [joinG, szG, tabG]
theorem atG_ge {d : α} {on : Bool} {l : List α} {i : Int} (h : (szG on l : Int) ≤ i) : atG d on l i = d := atG_out (by omega)
theorem atG_neg {d : α} {on : Bool} {l : List α} {i : Int} (h : i < 0) : atG d on l i = d := atG_out (by omega)
/-- Below, place by place (d is the lowest). -/
theorem leqG_iff {d : α} {le : α → α → Bool} (hd : ∀ x, le d x = true) (on1 : Bool) (l1 : List α) (on2 : Bool) (l2 : List α) :
    leqG d le on1 l1 on2 l2 = true ↔ (on1 = true → on2 = true) ∧ ∀ k : Nat, le (atG d on1 l1 (k : Int)) (atG d on2 l2 (k : Int)) = true := by
  unfold leqG
  rw [Bool.and_eq_true, allG_iff]
  constructor
  · rintro ⟨h1, h2⟩
    refine ⟨by cases on1 <;> cases on2 <;> simp_all, fun k => ?_⟩
    by_cases hk : k < szG on1 l1
    · exact h2 k hk
    · rw [atG_ge (d := d) (on := on1) (by omega)]; exact hd _
  · rintro ⟨h1, h2⟩
    exact ⟨by cases on1 <;> cases on2 <;> simp_all, fun k _ => h2 k⟩
end

theorem setS_at (on : Bool) (l : List Int) (i v k : Int) : atG 0 on (setS on l i v) k = if on = true ∧ 0 ≤ i ∧ i < (l.length : Int) ∧ k = i then ((sS v : Nat) : Int) else ((sS (atG 0 on l k) : Nat) : Int) := by
  cases on with
  | false => rw [atG_off, atG_off, if_neg (fun h => by cases h.1)]; rfl
  | true =>
    unfold setS
    rw [if_pos rfl, putG_at, tabG_length]
    by_cases h : 0 ≤ i ∧ i < (l.length : Int) ∧ k = i
    · rw [if_pos h, if_pos ⟨rfl, h⟩]
    · rw [if_neg h, if_neg (fun g => h g.2)]
      by_cases hk : 0 ≤ k ∧ k < (l.length : Int)
      · rw [atG_tab hk, Int.toNat_of_nonneg hk.1]
      · rw [atG_tab_out hk, atG_out (by simpa [szG] using hk)]; rfl
theorem setS_sz (on : Bool) (l : List Int) (i v : Int) : szG on (setS on l i v) = szG on l := by
  cases on <;> simp [szG, setS, putG_length, tabG_length]
theorem setF_at (on : Bool) (l : List V) (i : Int) (v : V) (k : Int) : atG vbot on (setF on l i v) k = if on = true ∧ 0 ≤ i ∧ i < (l.length : Int) ∧ k = i then v.sn else (atG vbot on l k).sn := by
  cases on with
  | false => rw [atG_off, atG_off, if_neg (fun h => by cases h.1)]; rfl
  | true =>
    unfold setF
    rw [if_pos rfl, putG_at, tabG_length]
    by_cases h : 0 ≤ i ∧ i < (l.length : Int) ∧ k = i
    · rw [if_pos h, if_pos ⟨rfl, h⟩]
    · rw [if_neg h, if_neg (fun g => h g.2)]
      by_cases hk : 0 ≤ k ∧ k < (l.length : Int)
      · rw [atG_tab hk, Int.toNat_of_nonneg hk.1]
      · rw [atG_tab_out hk, atG_out (by simpa [szG] using hk)]; rfl
theorem setF_sz (on : Bool) (l : List V) (i : Int) (v : V) : szG on (setF on l i v) = szG on l := by
  cases on <;> simp [szG, setF, putG_length, tabG_length]

theorem joinS_at (on1 : Bool) (l1 : List Int) (on2 : Bool) (l2 : List Int) (i : Int) : atG 0 (on1 || on2) (joinS on1 l1 on2 l2) i = ((sS (atG 0 on1 l1 i) ||| sS (atG 0 on2 l2 i) : Nat) : Int) := by
  by_cases hon : (on1 || on2) = true
  · rw [hon]
    unfold joinS
    rw [joinG_at]
    split
    · rfl
    · rename_i h
      by_cases h0 : i < 0
      · rw [atG_neg h0, atG_neg h0]; rfl
      · rw [atG_ge (d := 0) (on := on1) (by omega), atG_ge (d := 0) (on := on2) (by omega)]; rfl
  · obtain ⟨rfl, rfl⟩ : on1 = false ∧ on2 = false := by cases on1 <;> cases on2 <;> simp_all
    show atG 0 false _ i = _
    rw [atG_off, atG_off, atG_off]; rfl
theorem join_bot : join vbot vbot = vbot := by decide
theorem joinF_at (on1 : Bool) (l1 : List V) (on2 : Bool) (l2 : List V) (i : Int) : atG vbot (on1 || on2) (joinF on1 l1 on2 l2) i = join (atG vbot on1 l1 i) (atG vbot on2 l2 i) := by
  by_cases hon : (on1 || on2) = true
  · rw [hon]
    unfold joinF
    rw [joinG_at]
    split
    · rfl
    · rename_i h
      by_cases h0 : i < 0
      · rw [atG_neg h0, atG_neg h0, join_bot]
      · rw [atG_ge (d := vbot) (on := on1) (by omega), atG_ge (d := vbot) (on := on2) (by omega), join_bot]
  · obtain ⟨rfl, rfl⟩ : on1 = false ∧ on2 = false := by cases on1 <;> cases on2 <;> simp_all
    show atG vbot false _ i = _
    rw [atG_off, atG_off, atG_off, join_bot]
theorem leqN_zero (x : Nat) : leqN 0 x = true := by simp [leqN]
theorem leq_bot (x : V) : leq vbot x = true := by
  rw [leq_sn, sn_of vbot_sane]; simp [leV, vbot]
theorem leqS_iff (on1 : Bool) (l1 : List Int) (on2 : Bool) (l2 : List Int) :
    leqS on1 l1 on2 l2 = true ↔ (on1 = true → on2 = true) ∧ ∀ k : Nat, leqN (sS (atG 0 on1 l1 (k : Int))) (sS (atG 0 on2 l2 (k : Int))) = true :=
  leqG_iff (d := (0 : Int)) (le := fun x y => leqN (sS x) (sS y)) (fun x => leqN_zero (sS x)) on1 l1 on2 l2
theorem leqF_iff (on1 : Bool) (l1 : List V) (on2 : Bool) (l2 : List V) :
    leqF on1 l1 on2 l2 = true ↔ (on1 = true → on2 = true) ∧ ∀ k : Nat, leq (atG vbot on1 l1 (k : Int)) (atG vbot on2 l2 (k : Int)) = true :=
  leqG_iff (le := leq) leq_bot on1 l1 on2 l2
theorem leqN_or_left {a b : Nat} (ha : a < 8) (hb : b < 8) : leqN a (a ||| b) = true := by
  have h : ∀ x y : Fin 8, leqN x.val (x.val ||| y.val) = true := by decide
  exact h ⟨a, ha⟩ ⟨b, hb⟩
theorem leqN_or_right {a b : Nat} (ha : a < 8) (hb : b < 8) : leqN b (a ||| b) = true := by
  have h : ∀ x y : Fin 8, leqN y.val (x.val ||| y.val) = true := by decide
  exact h ⟨a, ha⟩ ⟨b, hb⟩
theorem leqS_left (on1 : Bool) (l1 : List Int) (on2 : Bool) (l2 : List Int) (on : Bool) (l : List Int) (ho : (on1 || on2) = on) (hl : joinS on1 l1 on2 l2 = l) : leqS on1 l1 on l = true := by
  subst ho hl
  rw [leqS_iff]
  refine ⟨fun h => by rw [h]; rfl, fun k => ?_⟩
  rw [joinS_at, sS_of (or_lt (sS_lt _) (sS_lt _))]
  exact leqN_or_left (sS_lt _) (sS_lt _)
theorem leqS_right (on1 : Bool) (l1 : List Int) (on2 : Bool) (l2 : List Int) (on : Bool) (l : List Int) (ho : (on1 || on2) = on) (hl : joinS on1 l1 on2 l2 = l) : leqS on2 l2 on l = true := by
  subst ho hl
  rw [leqS_iff]
  refine ⟨fun h => by rw [h, Bool.or_true], fun k => ?_⟩
  rw [joinS_at, sS_of (or_lt (sS_lt _) (sS_lt _))]
  exact leqN_or_right (sS_lt _) (sS_lt _)
end Go.Proofs.Ytcmncclibhjepaa
