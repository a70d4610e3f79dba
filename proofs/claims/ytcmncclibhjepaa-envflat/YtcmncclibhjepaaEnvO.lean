/- The lattice of Envs: the pure side of the laws. -/
import Derived.Test.YtcmncclibhjepaaEnvN
import Derived.Test.YtcmncclibhjepaaFlatN
namespace Go.Proofs.Ytcmncclibhjepaa
open Go

theorem tabG_congr {α : Type} {f g : Nat → α} {n m : Nat} (hn : n = m) (h : ∀ k, f k = g k) : tabG f n = tabG g m := by
  subst hn
  unfold tabG
  exact List.map_congr_left fun k _ => h k
theorem joinS_sz (on1 : Bool) (l1 : List Int) (on2 : Bool) (l2 : List Int) : szG (on1 || on2) (joinS on1 l1 on2 l2) = max (szG on1 l1) (szG on2 l2) := by
  cases on1 <;> cases on2 <;> simp [szG, joinS, joinG, tabG_length]
theorem joinF_sz (on1 : Bool) (l1 : List V) (on2 : Bool) (l2 : List V) : szG (on1 || on2) (joinF on1 l1 on2 l2) = max (szG on1 l1) (szG on2 l2) := by
  cases on1 <;> cases on2 <;> simp [szG, joinF, joinG, tabG_length]
theorem joinS_comm (on1 : Bool) (l1 : List Int) (on2 : Bool) (l2 : List Int) : joinS on2 l2 on1 l1 = joinS on1 l1 on2 l2 :=
  tabG_congr (Nat.max_comm _ _) fun k => by dsimp only; rw [Nat.or_comm]
theorem joinF_comm (on1 : Bool) (l1 : List V) (on2 : Bool) (l2 : List V) : joinF on2 l2 on1 l1 = joinF on1 l1 on2 l2 :=
  tabG_congr (Nat.max_comm _ _) fun _ => join_comm _ _
theorem joinS_assoc (on1 : Bool) (l1 : List Int) (on2 : Bool) (l2 : List Int) (on3 : Bool) (l3 : List Int) :
    joinS on1 l1 (on2 || on3) (joinS on2 l2 on3 l3) = joinS (on1 || on2) (joinS on1 l1 on2 l2) on3 l3 := by
  refine tabG_congr (by rw [joinS_sz, joinS_sz, Nat.max_assoc]) fun k => ?_
  dsimp only
  rw [joinS_at, joinS_at, sS_of (or_lt (sS_lt _) (sS_lt _)), sS_of (or_lt (sS_lt _) (sS_lt _)), Nat.or_assoc]
theorem joinF_assoc (on1 : Bool) (l1 : List V) (on2 : Bool) (l2 : List V) (on3 : Bool) (l3 : List V) :
    joinF on1 l1 (on2 || on3) (joinF on2 l2 on3 l3) = joinF (on1 || on2) (joinF on1 l1 on2 l2) on3 l3 := by
  refine tabG_congr (by rw [joinF_sz, joinF_sz, Nat.max_assoc]) fun k => ?_
  rw [joinF_at, joinF_at, join_assoc]
theorem leqN_refl (a : Nat) : leqN a a = true := by simp [leqN]
theorem leqN_trans {a b c : Nat} (ha : a < 8) (hb : b < 8) (hc : c < 8) (h1 : leqN a b = true) (h2 : leqN b c = true) : leqN a c = true := by
  have h : ∀ x y z : Fin 8, leqN x.val y.val = true → leqN y.val z.val = true → leqN x.val z.val = true := by decide
  exact h ⟨a, ha⟩ ⟨b, hb⟩ ⟨c, hc⟩ h1 h2
theorem leqN_or {a b c : Nat} (ha : a < 8) (hb : b < 8) (hc : c < 8) : leqN (a ||| b) c = (leqN a c && leqN b c) := by
  have h : ∀ x y z : Fin 8, leqN (x.val ||| y.val) z.val = (leqN x.val z.val && leqN y.val z.val) := by decide
  exact h ⟨a, ha⟩ ⟨b, hb⟩ ⟨c, hc⟩
theorem leqS_refl (on : Bool) (l : List Int) : leqS on l on l = true := (leqS_iff _ _ _ _).2 ⟨id, fun _ => leqN_refl _⟩
theorem leqF_refl (on : Bool) (l : List V) : leqF on l on l = true := (leqF_iff _ _ _ _).2 ⟨id, fun _ => leq_refl _⟩
theorem leqS_none (on : Bool) (l : List Int) : leqS false [] on l = true := (leqS_iff _ _ _ _).2 ⟨fun h => (Bool.false_ne_true h).elim, fun _ => by rw [atG_off]; exact leqN_zero _⟩
theorem leqF_none (on : Bool) (l : List V) : leqF false [] on l = true := (leqF_iff _ _ _ _).2 ⟨fun h => (Bool.false_ne_true h).elim, fun _ => by rw [atG_off]; exact leq_bot _⟩
theorem leqS_trans {on1 on2 on3 : Bool} {l1 l2 l3 : List Int} (h1 : leqS on1 l1 on2 l2 = true) (h2 : leqS on2 l2 on3 l3 = true) : leqS on1 l1 on3 l3 = true := by
  rw [leqS_iff] at *
  exact ⟨fun h => h2.1 (h1.1 h), fun k => leqN_trans (sS_lt _) (sS_lt _) (sS_lt _) (h1.2 k) (h2.2 k)⟩
theorem leqF_trans {on1 on2 on3 : Bool} {l1 l2 l3 : List V} (h1 : leqF on1 l1 on2 l2 = true) (h2 : leqF on2 l2 on3 l3 = true) : leqF on1 l1 on3 l3 = true := by
  rw [leqF_iff] at *
  exact ⟨fun h => h2.1 (h1.1 h), fun k => leq_trans (h1.2 k) (h2.2 k)⟩
theorem leqS_join (on1 : Bool) (l1 : List Int) (on2 : Bool) (l2 : List Int) (on3 : Bool) (l3 : List Int) : leqS (on1 || on2) (joinS on1 l1 on2 l2) on3 l3 = (leqS on1 l1 on3 l3 && leqS on2 l2 on3 l3) := by
  rw [Bool.eq_iff_iff, Bool.and_eq_true, leqS_iff, leqS_iff, leqS_iff]
  have e : ∀ k : Nat, leqN (sS (atG 0 (on1 || on2) (joinS on1 l1 on2 l2) (k : Int))) (sS (atG 0 on3 l3 (k : Int))) = (leqN (sS (atG 0 on1 l1 (k : Int))) (sS (atG 0 on3 l3 (k : Int))) && leqN (sS (atG 0 on2 l2 (k : Int))) (sS (atG 0 on3 l3 (k : Int)))) := fun k => by
    rw [joinS_at, sS_of (or_lt (sS_lt _) (sS_lt _)), leqN_or (sS_lt _) (sS_lt _) (sS_lt _)]
  constructor
  · rintro ⟨h1, h2⟩
    have h3 : ∀ k : Nat, _ := fun k => by have := h2 k; rw [e, Bool.and_eq_true] at this; exact this
    exact ⟨⟨fun h => h1 (by rw [h]; rfl), fun k => (h3 k).1⟩, ⟨fun h => h1 (by rw [h, Bool.or_true]), fun k => (h3 k).2⟩⟩
  · rintro ⟨⟨h1, h2⟩, ⟨h3, h4⟩⟩
    exact ⟨fun h => by rw [Bool.or_eq_true] at h; exact h.elim h1 h3, fun k => by rw [e, h2 k, h4 k]; rfl⟩
theorem leqF_join (on1 : Bool) (l1 : List V) (on2 : Bool) (l2 : List V) (on3 : Bool) (l3 : List V) : leqF (on1 || on2) (joinF on1 l1 on2 l2) on3 l3 = (leqF on1 l1 on3 l3 && leqF on2 l2 on3 l3) := by
  rw [Bool.eq_iff_iff, Bool.and_eq_true, leqF_iff, leqF_iff, leqF_iff]
  have e : ∀ k : Nat, leq (atG vbot (on1 || on2) (joinF on1 l1 on2 l2) (k : Int)) (atG vbot on3 l3 (k : Int)) = (leq (atG vbot on1 l1 (k : Int)) (atG vbot on3 l3 (k : Int)) && leq (atG vbot on2 l2 (k : Int)) (atG vbot on3 l3 (k : Int))) := fun k => by
    rw [joinF_at, leq_join]
  constructor
  · rintro ⟨h1, h2⟩
    have h3 : ∀ k : Nat, _ := fun k => by have := h2 k; rw [e, Bool.and_eq_true] at this; exact this
    exact ⟨⟨fun h => h1 (by rw [h]; rfl), fun k => (h3 k).1⟩, ⟨fun h => h1 (by rw [h, Bool.or_true]), fun k => (h3 k).2⟩⟩
  · rintro ⟨⟨h1, h2⟩, ⟨h3, h4⟩⟩
    exact ⟨fun h => by rw [Bool.or_eq_true] at h; exact h.elim h1 h3, fun k => by rw [e, h2 k, h4 k]; rfl⟩
theorem leqF_left (on1 : Bool) (l1 : List V) (on2 : Bool) (l2 : List V) (on : Bool) (l : List V) (ho : (on1 || on2) = on) (hl : joinF on1 l1 on2 l2 = l) : leqF on1 l1 on l = true := by
  subst ho hl
  have h := leqF_join on1 l1 on2 l2 (on1 || on2) (joinF on1 l1 on2 l2)
  rw [leqF_refl] at h
  exact (Bool.and_eq_true _ _ ▸ h.symm).1
theorem leqF_right (on1 : Bool) (l1 : List V) (on2 : Bool) (l2 : List V) (on : Bool) (l : List V) (ho : (on1 || on2) = on) (hl : joinF on1 l1 on2 l2 = l) : leqF on2 l2 on l = true := by
  subst ho hl
  have h := leqF_join on1 l1 on2 l2 (on1 || on2) (joinF on1 l1 on2 l2)
  rw [leqF_refl] at h
  exact (Bool.and_eq_true _ _ ▸ h.symm).2
theorem join_bot_right (v : V) : join v vbot = v.sn := by
  rw [join_J, sn_of vbot_sane]
  rcases V.cases (sn_sane v) with h | h | ⟨n, _, _, h⟩ <;> rw [h] <;> simp [J, leV, vbot, vtop]
theorem join_bot_left (v : V) : join vbot v = v.sn := by rw [← join_comm, join_bot_right]
theorem join_sn (a b : V) : join a.sn b.sn = join a b := by rw [join_J, join_J, sn_sn, sn_sn]
theorem leq_sn_sn (a b : V) : leq a.sn b.sn = leq a b := by rw [leq_sn, leq_sn, sn_sn, sn_sn]
theorem leq_top (v : V) : leq v vtop = true := by rw [leq_sn, sn_of vtop_sane]; simp [leV, vtop]
/-- Set lower, or higher, is below, or above. -/
theorem leqF_set {on : Bool} {l : List V} {i : Int} {u v : V} (h : leq u v = true) : leqF on (setF on l i u) on (setF on l i v) = true := by
  rw [leqF_iff]
  refine ⟨id, fun k => ?_⟩
  rw [setF_at, setF_at]
  split
  · rw [leq_sn_sn]; exact h
  · exact leq_refl _
end Go.Proofs.Ytcmncclibhjepaa
