/- EnvZ: several texts in one: EnvG EnvH EnvI EnvN FlatN EnvO EnvR EnvS EnvV. -/
import Derived.Test.YtmcbedlmgffckaaDoorEnvY
import Derived.Test.YtmcbedlmgffckaaDoorLate
import Derived.Test.YtmcbedlmgffckaaDoorFlaG

namespace Go.Proofs.YtmcbedlmgffckaaDoor
open Go Go.RowKit Go.Sort

/-- The cells of values. -/
def encF (l : List V) : List Value := l.flatMap fun v => [.int .i64 v.k, .int .i64 v.c]
theorem encF_snoc (l : List V) (v : V) : encF (l ++ [v]) = encF l ++ [.int .i64 v.k, .int .i64 v.c] := by simp [encF]
theorem encF_at (l : List V) : ∀ j, j < l.length → (encF l)[j * 2]? = some (.int .i64 (l[j]?.getD vbot).k) ∧ (encF l)[j * 2 + 1]? = some (.int .i64 (l[j]?.getD vbot).c) := by
  induction l with
  | nil => intro j hj; exact absurd hj (Nat.not_lt_zero _)
  | cons v r ih =>
    intro j hj
    have e : encF (v :: r) = .int .i64 v.k :: .int .i64 v.c :: encF r := by simp [encF]
    rw [e]
    cases j with
    | zero => simp
    | succ j =>
      have := ih j (by simpa using hj)
      rw [show (j + 1) * 2 = j * 2 + 1 + 1 by omega]
      simpa using this
/-- Values of the call's own, as a slice that is read, and may be written. -/
def OwnF (t : TypeId) (n0 : Nat) (W : World) (a : Option Addr) (l : List V) : Prop := l = [] ∨ ∃ g, a = some ⟨g, 0, none⟩ ∧ FreshF t n0 W g l
def OwnS (t : TypeId) (n0 : Nat) (W : World) (a : Option Addr) (l : List Int) : Prop := l = [] ∨ ∃ g, a = some ⟨g, 0, none⟩ ∧ FreshS t n0 W g l
theorem OwnF.fis {t : TypeId} {n0 : Nat} {W : World} {a : Option Addr} {l : List V} (h : OwnF t n0 W a l) : FIs W.heap.size W a l := by
  rcases h with rfl | ⟨g, rfl, hF⟩
  · exact FIs.nil _ _ _
  · exact hF.fis
theorem OwnS.fis {t : TypeId} {n0 : Nat} {W : World} {a : Option Addr} {l : List Int} (h : OwnS t n0 W a l) : Is W.heap.size W a l := by
  rcases h with rfl | ⟨g, rfl, hF⟩
  · exact Is.nil _ _ _
  · exact hF.fis
theorem OwnF.block {t : TypeId} {n0 n1 : Nat} {W W' : World} {a : Option Addr} {l : List V} (h : OwnF t n0 W a l) (hn : n1 ≤ n0) (hb : ∀ g, n0 ≤ g → g < W.heap.size → W'.heap[g]? = W.heap[g]?) : OwnF t n1 W' a l :=
  h.imp id fun ⟨g, e, hF⟩ => ⟨g, e, (hF.block (hb g hF.1 hF.lt)).base hn⟩
theorem OwnS.block {t : TypeId} {n0 n1 : Nat} {W W' : World} {a : Option Addr} {l : List Int} (h : OwnS t n0 W a l) (hn : n1 ≤ n0) (hb : ∀ g, n0 ≤ g → g < W.heap.size → W'.heap[g]? = W.heap[g]?) : OwnS t n1 W' a l :=
  h.imp id fun ⟨g, e, hF⟩ => ⟨g, e, (hF.block (hb g hF.1 hF.lt)).base hn⟩
theorem ownF_of {t : TypeId} {n0 : Nat} {W : World} {v : Value} {l : List V} {n : Nat} (h : W.ownsRow n0 t 2 v n (encF l)) (hn : l.length = n) : ∃ a cap, v = .slice a n cap ∧ OwnF t n0 W a l := by
  obtain ⟨hlen, ⟨rfl, h0⟩ | ⟨g, cap, cur, rfl, hb, hc, hle, _, hsz, htk⟩⟩ := h
  · subst h0
    exact ⟨none, 0, rfl, .inl (List.eq_nil_of_length_eq_zero hn)⟩
  · refine ⟨_, cap, rfl, .inr ⟨g, rfl, hb, cur, hc, by rw [hn, hsz]; exact Nat.mul_le_mul_right _ hle, fun j hj => ?_⟩⟩
    obtain ⟨e0, e1⟩ := encF_at l j hj
    have ht : ∀ q, q < n * 2 → cur[q]? = (encF l)[q]? := fun q hq => by rw [← htk, List.getElem?_take_of_lt hq, Array.getElem?_toList]
    exact ⟨(ht _ (by omega)).trans e0, (ht _ (by omega)).trans e1⟩
theorem ownS_of {t : TypeId} {n0 : Nat} {W : World} {v : Value} {l : List Int} {n : Nat} (h : W.ownsRow n0 t 1 v n (l.map (Value.int .i64))) (hn : l.length = n) : ∃ a cap, v = .slice a n cap ∧ OwnS t n0 W a l := by
  obtain ⟨hlen, ⟨rfl, h0⟩ | ⟨g, cap, cur, rfl, hb, hc, hle, _, hsz, htk⟩⟩ := h
  · subst h0
    exact ⟨none, 0, rfl, .inl (List.eq_nil_of_length_eq_zero hn)⟩
  · refine ⟨_, cap, rfl, .inr ⟨g, rfl, hb, cur, hc, by rw [hn, hsz]; omega, fun j hj => ?_⟩⟩
    have ht : cur[j]? = (l.map (Value.int .i64))[j]? := by rw [← htk, List.getElem?_take_of_lt (by omega), Array.getElem?_toList]
    rw [ht]
    simp [hj]
/-- A row of the call's own, of which the world's blocks from B on have not been written. -/
theorem owns_far {W W' : World} {b : Nat} {e : TypeId} {size n : Nat} {v : Value} {xs : List Value} (h : W.ownsRow b e size v n xs) (hb : ∀ g, b ≤ g → g < W.heap.size → W'.heap[g]? = W.heap[g]?) : W'.ownsRow b e size v n xs :=
  ⟨h.1, h.2.imp id fun ⟨g, cap, cur, a, hg, hc, r⟩ => ⟨g, cap, cur, a, hg, (hb g hg (Array.getElem?_eq_some_iff.1 hc).1).trans hc, r⟩⟩
theorem owns_below' {W W' : World} {b : Nat} {e : TypeId} {size n : Nat} {v : Value} {xs : List Value} (h : W.ownsRow b e size v n xs) (hb : Below W.heap.size W W') : W'.ownsRow b e size v n xs := owns_far h fun g _ hl => hb.block g hl
theorem own_ne {W : World} {b : Nat} {e : TypeId} {size n : Nat} {v : Value} {xs : List Value} (h : W.ownsRow b e size v n xs) {k : Nat} (hk : k < b) : some k ≠ v.ownBlock := fun he => by
  have := (h.lt k he.symm).1
  omega
theorem Box.put1 {W : World} {b : Nat} {x y : Value} (h : Box W b x y) (y' : Value) : Box (W.setCell ⟨b, 1, none⟩ y') b x y' := by
  obtain ⟨c0, c1, f0, f1⟩ := h
  refine ⟨by rw [World.cell?_setCell_other _ _ _ _ (by simp)]; exact c0, World.cell?_setCell_same' _ _ _ (by rw [c1]; rfl), by rw [World.frozen?_setCell]; exact f0, by rw [World.frozen?_setCell]; exact f1⟩
theorem heap_put1 (W : World) (b k i : Nat) (x : Value) (h : k ≠ b) : (W.setCell ⟨b, i, none⟩ x).heap[k]? = W.heap[k]? := Below.heap_setCell _ _ _ _ (by simpa using h)
theorem size_put1 (W : World) (b i : Nat) (x : Value) : (W.setCell ⟨b, i, none⟩ x).heap.size = W.heap.size := by simp [World.setCell]









end Go.Proofs.YtmcbedlmgffckaaDoor

namespace Go.Proofs.YtmcbedlmgffckaaDoor
open Go Go.RowKit Go.Sort









end Go.Proofs.YtmcbedlmgffckaaDoor

namespace Go.Proofs.YtmcbedlmgffckaaDoor
open Go Go.RowKit Go.Sort



end Go.Proofs.YtmcbedlmgffckaaDoor

namespace Go.Proofs.YtmcbedlmgffckaaDoor
open Go

theorem sS_sS (x : Int) : sS ((sS x : Nat) : Int) = sS x := sS_of (sS_lt x)
theorem sS_zero : sS 0 = 0 := rfl
section
variable {α : Type}
theorem atG_tab {d : α} {f : Nat → α} {n : Nat} {i : Int} (h : 0 ≤ i ∧ i < (n : Int)) : atG d true (tabG f n) i = f i.toNat := by
  unfold atG szG
  rw [if_pos rfl, tabG_length, if_pos h]
  exact tabG_at f (by omega) d
theorem atG_tab_out {d : α} {f : Nat → α} {n : Nat} {i : Int} (h : ¬ (0 ≤ i ∧ i < (n : Int))) : atG d true (tabG f n) i = d := atG_out (by unfold szG; rw [if_pos rfl, tabG_length]; exact h)
theorem atG_off {d : α} {l : List α} {i : Int} : atG d false l i = d := atG_out (by simp [szG] <;> omega)
theorem putG_at {d : α} (l : List α) (i : Int) (v : α) (k : Int) : atG d true (putG l i v) k = if 0 ≤ i ∧ i < (l.length : Int) ∧ k = i then v else atG d true l k := by
  unfold putG
  by_cases hin : 0 ≤ i ∧ i < (l.length : Int)
  · rw [if_pos hin]
    by_cases hk : k = i
    · subst hk
      rw [if_pos ⟨hin.1, hin.2, rfl⟩]
      unfold atG szG
      rw [if_pos rfl, List.length_set, if_pos hin]
      have : k.toNat < l.length := by omega
      simp [this]
    · rw [if_neg (fun h => hk h.2.2)]
      unfold atG szG
      rw [if_pos rfl, if_pos rfl, List.length_set]
      split
      · rename_i h
        have : i.toNat ≠ k.toNat := by omega
        rw [List.getElem?_set_ne this]
      · rfl
  · rw [if_neg hin, if_neg (fun h => hin ⟨h.1, h.2.1⟩)]
/-- The value at a place of a join. -/
theorem joinG_at {d : α} {jn : α → α → α} (on1 : Bool) (l1 : List α) (on2 : Bool) (l2 : List α) (i : Int) :
    atG d true (joinG d jn on1 l1 on2 l2) i = if 0 ≤ i ∧ i < ((max (szG on1 l1) (szG on2 l2) : Nat) : Int) then jn (atG d on1 l1 i) (atG d on2 l2 i) else d := by
  unfold joinG
  split
  · rename_i h
    rw [atG_tab h, Int.toNat_of_nonneg h.1]
  · rename_i h
    exact atG_tab_out h
theorem joinG_both_off {d : α} {jn : α → α → α} (l1 l2 : List α) : joinG d jn false l1 false l2 = [] := by simp [joinG, szG, tabG]
theorem atG_ge {d : α} {on : Bool} {l : List α} {i : Int} (h : (szG on l : Int) ≤ i) : atG d on l i = d := atG_out (by omega)
theorem atG_neg {d : α} {on : Bool} {l : List α} {i : Int} (h : i < 0) : atG d on l i = d := atG_out (by omega)
/-- Below, place by place (d is the lowest). -/
theorem leqG_iff {d : α} {le : α → α → Bool} (hd : ∀ x, le d x = true) (on1 : Bool) (l1 : List α) (on2 : Bool) (l2 : List α) :
    leqG d le on1 l1 on2 l2 = true ↔ (on1 = true → on2 = true) ∧ ∀ k : Nat, le (atG d on1 l1 (k : Int)) (atG d on2 l2 (k : Int)) = true := by
  unfold leqG
  rw [Bool.and_eq_true, allG_iff]
  constructor
  · rintro ⟨h1, h2⟩
    refine ⟨by cases on1 <;> cases on2 <;> simp_all, fun k => ?_⟩
    by_cases hk : k < szG on1 l1
    · exact h2 k hk
    · rw [atG_ge (d := d) (on := on1) (by omega)]; exact hd _
  · rintro ⟨h1, h2⟩
    exact ⟨by cases on1 <;> cases on2 <;> simp_all, fun k _ => h2 k⟩
end

theorem setS_at (on : Bool) (l : List Int) (i v k : Int) : atG 0 on (setS on l i v) k = if on = true ∧ 0 ≤ i ∧ i < (l.length : Int) ∧ k = i then ((sS v : Nat) : Int) else ((sS (atG 0 on l k) : Nat) : Int) := by
  cases on with
  | false => rw [atG_off, atG_off, if_neg (fun h => by cases h.1)]; rfl
  | true =>
    unfold setS
    rw [if_pos rfl, putG_at, tabG_length]
    by_cases h : 0 ≤ i ∧ i < (l.length : Int) ∧ k = i
    · rw [if_pos h, if_pos ⟨rfl, h⟩]
    · rw [if_neg h, if_neg (fun g => h g.2)]
      by_cases hk : 0 ≤ k ∧ k < (l.length : Int)
      · rw [atG_tab hk, Int.toNat_of_nonneg hk.1]
      · rw [atG_tab_out hk, atG_out (by simpa [szG] using hk)]; rfl
theorem setS_sz (on : Bool) (l : List Int) (i v : Int) : szG on (setS on l i v) = szG on l := by
  cases on <;> simp [szG, setS, putG_length, tabG_length]
theorem setF_at (on : Bool) (l : List V) (i : Int) (v : V) (k : Int) : atG vbot on (setF on l i v) k = if on = true ∧ 0 ≤ i ∧ i < (l.length : Int) ∧ k = i then v.sn else (atG vbot on l k).sn := by
  cases on with
  | false => rw [atG_off, atG_off, if_neg (fun h => by cases h.1)]; rfl
  | true =>
    unfold setF
    rw [if_pos rfl, putG_at, tabG_length]
    by_cases h : 0 ≤ i ∧ i < (l.length : Int) ∧ k = i
    · rw [if_pos h, if_pos ⟨rfl, h⟩]
    · rw [if_neg h, if_neg (fun g => h g.2)]
      by_cases hk : 0 ≤ k ∧ k < (l.length : Int)
      · rw [atG_tab hk, Int.toNat_of_nonneg hk.1]
      · rw [atG_tab_out hk, atG_out (by simpa [szG] using hk)]; rfl
theorem setF_sz (on : Bool) (l : List V) (i : Int) (v : V) : szG on (setF on l i v) = szG on l := by
  cases on <;> simp [szG, setF, putG_length, tabG_length]

theorem joinS_at (on1 : Bool) (l1 : List Int) (on2 : Bool) (l2 : List Int) (i : Int) : atG 0 (on1 || on2) (joinS on1 l1 on2 l2) i = ((sS (atG 0 on1 l1 i) ||| sS (atG 0 on2 l2 i) : Nat) : Int) := by
  by_cases hon : (on1 || on2) = true
  · rw [hon]
    unfold joinS
    rw [joinG_at]
    split
    · rfl
    · rename_i h
      by_cases h0 : i < 0
      · rw [atG_neg h0, atG_neg h0]; rfl
      · rw [atG_ge (d := 0) (on := on1) (by omega), atG_ge (d := 0) (on := on2) (by omega)]; rfl
  · obtain ⟨rfl, rfl⟩ : on1 = false ∧ on2 = false := by cases on1 <;> cases on2 <;> simp_all
    show atG 0 false _ i = _
    rw [atG_off, atG_off, atG_off]; rfl
theorem join_bot : join vbot vbot = vbot := by decide
theorem joinF_at (on1 : Bool) (l1 : List V) (on2 : Bool) (l2 : List V) (i : Int) : atG vbot (on1 || on2) (joinF on1 l1 on2 l2) i = join (atG vbot on1 l1 i) (atG vbot on2 l2 i) := by
  by_cases hon : (on1 || on2) = true
  · rw [hon]
    unfold joinF
    rw [joinG_at]
    split
    · rfl
    · rename_i h
      by_cases h0 : i < 0
      · rw [atG_neg h0, atG_neg h0, join_bot]
      · rw [atG_ge (d := vbot) (on := on1) (by omega), atG_ge (d := vbot) (on := on2) (by omega), join_bot]
  · obtain ⟨rfl, rfl⟩ : on1 = false ∧ on2 = false := by cases on1 <;> cases on2 <;> simp_all
    show atG vbot false _ i = _
    rw [atG_off, atG_off, atG_off, join_bot]
theorem leqN_zero (x : Nat) : leqN 0 x = true := by simp [leqN]
theorem leq_bot (x : V) : leq vbot x = true := by
  rw [leq_sn, sn_of vbot_sane]; simp [leV, vbot]
theorem leqS_iff (on1 : Bool) (l1 : List Int) (on2 : Bool) (l2 : List Int) :
    leqS on1 l1 on2 l2 = true ↔ (on1 = true → on2 = true) ∧ ∀ k : Nat, leqN (sS (atG 0 on1 l1 (k : Int))) (sS (atG 0 on2 l2 (k : Int))) = true :=
  leqG_iff (d := (0 : Int)) (le := fun x y => leqN (sS x) (sS y)) (fun x => leqN_zero (sS x)) on1 l1 on2 l2
theorem leqF_iff (on1 : Bool) (l1 : List V) (on2 : Bool) (l2 : List V) :
    leqF on1 l1 on2 l2 = true ↔ (on1 = true → on2 = true) ∧ ∀ k : Nat, leq (atG vbot on1 l1 (k : Int)) (atG vbot on2 l2 (k : Int)) = true :=
  leqG_iff (le := leq) leq_bot on1 l1 on2 l2
theorem leqN_or_left {a b : Nat} (ha : a < 8) (hb : b < 8) : leqN a (a ||| b) = true := by
  have h : ∀ x y : Fin 8, leqN x.val (x.val ||| y.val) = true := by decide
  exact h ⟨a, ha⟩ ⟨b, hb⟩
theorem leqN_or_right {a b : Nat} (ha : a < 8) (hb : b < 8) : leqN b (a ||| b) = true := by
  have h : ∀ x y : Fin 8, leqN y.val (x.val ||| y.val) = true := by decide
  exact h ⟨a, ha⟩ ⟨b, hb⟩
theorem leqS_left (on1 : Bool) (l1 : List Int) (on2 : Bool) (l2 : List Int) (on : Bool) (l : List Int) (ho : (on1 || on2) = on) (hl : joinS on1 l1 on2 l2 = l) : leqS on1 l1 on l = true := by
  subst ho hl
  rw [leqS_iff]
  refine ⟨fun h => by rw [h]; rfl, fun k => ?_⟩
  rw [joinS_at, sS_of (or_lt (sS_lt _) (sS_lt _))]
  exact leqN_or_left (sS_lt _) (sS_lt _)
theorem leqS_right (on1 : Bool) (l1 : List Int) (on2 : Bool) (l2 : List Int) (on : Bool) (l : List Int) (ho : (on1 || on2) = on) (hl : joinS on1 l1 on2 l2 = l) : leqS on2 l2 on l = true := by
  subst ho hl
  rw [leqS_iff]
  refine ⟨fun h => by rw [h, Bool.or_true], fun k => ?_⟩
  rw [joinS_at, sS_of (or_lt (sS_lt _) (sS_lt _))]
  exact leqN_or_right (sS_lt _) (sS_lt _)
end Go.Proofs.YtmcbedlmgffckaaDoor

namespace Go.Proofs.YtmcbedlmgffckaaDoor
open Go

def J (A B : V) : V := if leV A B then B else if leV B A then A else vtop
theorem join_J (a b : V) : join a b = J a.sn b.sn := rfl
theorem sn_join (a b : V) : (join a b).sn = J a.sn b.sn := sn_of (join_sane a b)

theorem J_comm {A B : V} (ha : A.sane) (hb : B.sane) : J A B = J B A := by
  rcases V.cases ha with rfl | rfl | ⟨n, -, -, rfl⟩ <;> rcases V.cases hb with rfl | rfl | ⟨m, -, -, rfl⟩ <;> simp [J, leV, vbot, vtop] <;>
    (by_cases h : n = m <;> simp [h, eq_comm])
theorem J_assoc {A B C : V} (ha : A.sane) (hb : B.sane) (hc : C.sane) : J (J A B) C = J A (J B C) := by
  rcases V.cases ha with rfl | rfl | ⟨n, -, -, rfl⟩ <;> rcases V.cases hb with rfl | rfl | ⟨m, -, -, rfl⟩ <;> rcases V.cases hc with rfl | rfl | ⟨l, -, -, rfl⟩ <;> simp [J, leV, vbot, vtop] <;>
    (first | (by_cases h : n = m <;> by_cases h' : m = l <;> by_cases h'' : n = l <;> simp_all [eq_comm] <;> omega) | (by_cases h : n = m <;> simp_all [eq_comm]) | (by_cases h : m = l <;> simp_all [eq_comm]) | (by_cases h : n = l <;> simp_all [eq_comm]))
theorem leV_J {A B C : V} (ha : A.sane) (hb : B.sane) (hc : C.sane) : leV (J A B) C = (leV A C && leV B C) := by
  rcases V.cases ha with rfl | rfl | ⟨n, -, -, rfl⟩ <;> rcases V.cases hb with rfl | rfl | ⟨m, -, -, rfl⟩ <;> rcases V.cases hc with rfl | rfl | ⟨l, -, -, rfl⟩ <;> simp [J, leV, vbot, vtop] <;>
    (first | (by_cases h : n = m <;> by_cases h' : m = l <;> by_cases h'' : n = l <;> simp_all [eq_comm] <;> omega) | (by_cases h : n = m <;> simp_all [eq_comm]) | (by_cases h : m = l <;> simp_all [eq_comm]) | (by_cases h : n = l <;> simp_all [eq_comm]))
theorem join_comm (a b : V) : join b a = join a b := J_comm (sn_sane b) (sn_sane a)
theorem join_assoc (a b c : V) : join a (join b c) = join (join a b) c := by
  rw [join_J a, sn_join, join_J (join a b), sn_join]
  exact (J_assoc (sn_sane a) (sn_sane b) (sn_sane c)).symm
theorem leq_join (a b c : V) : leq (join a b) c = (leq a c && leq b c) := by
  rw [leq_sn, sn_join]
  exact leV_J (sn_sane a) (sn_sane b) (sn_sane c)
theorem leq_refl (a : V) : leq a a = true := leV_refl _
theorem leq_trans {a b c : V} (h1 : leq a b = true) (h2 : leq b c = true) : leq a c = true := leV_trans (sn_sane b) h1 h2
theorem leq_antisymm {a b : V} (h1 : leq a b = true) (h2 : leq b a = true) : a.sn = b.sn := by
  rw [leq_sn] at h1 h2
  have ha := sn_sane a
  have hb := sn_sane b
  generalize a.sn = A at *
  generalize b.sn = B at *
  rcases V.cases ha with rfl | rfl | ⟨n, -, -, rfl⟩ <;> rcases V.cases hb with rfl | rfl | ⟨m, -, -, rfl⟩ <;> simp_all [leV, vbot, vtop]
theorem join_self (a : V) : join a a = a.sn := by rw [join_J]; simp [J, leV_refl]
theorem hgt_le {a b : V} (h : leq a b = true) : hgt a ≤ hgt b := by
  rw [leq_sn] at h
  unfold hgt
  have ha := sn_sane a
  have hb := sn_sane b
  generalize a.sn = A at *
  generalize b.sn = B at *
  rcases V.cases ha with rfl | rfl | ⟨n, -, -, rfl⟩ <;> rcases V.cases hb with rfl | rfl | ⟨m, -, -, rfl⟩ <;> simp_all [leV, vbot, vtop]
theorem hgt_le2 (a : V) : hgt a ≤ 2 := by
  unfold hgt
  rcases sn_k a with h | h | h <;> rw [h] <;> decide

theorem w32_congr {n m : Int} (h : n % 4294967296 = m % 4294967296) : w32 n = w32 m := by unfold w32; omega
theorem w32_mod (n : Int) : w32 n % 4294967296 = n % 4294967296 := by unfold w32; omega
theorem w32_w32 (n : Int) : w32 (w32 n) = w32 n := w32_congr (w32_mod n)
theorem comb_one (f : Int → Int → Int) (a b : Int) : comb f (vone a) (vone b) = vone (f (w32 a) (w32 b)) := by
  unfold comb
  rw [sn_of (vone_sane a), sn_of (vone_sane b)]
  simp [vone]
theorem vone_congr {n m : Int} (h : n % 4294967296 = m % 4294967296) : vone n = vone m := by unfold vone; rw [w32_congr h]
theorem mul_mod (a b : Int) : (w32 a * w32 b) % 4294967296 = (a * b) % 4294967296 := by
  rw [Int.mul_emod, w32_mod, w32_mod, ← Int.mul_emod]
theorem add_one (a b : Int) : addV (vone a) (vone b) = vone (a + b) := by
  unfold addV; rw [comb_one]; exact vone_congr (by have := w32_mod a; have := w32_mod b; omega)
theorem sub_one (a b : Int) : subV (vone a) (vone b) = vone (a - b) := by
  unfold subV; rw [comb_one]; exact vone_congr (by have := w32_mod a; have := w32_mod b; omega)
theorem mul_one' (a b : Int) : mulV (vone a) (vone b) = vone (a * b) := by
  unfold mulV; rw [comb_one]; exact vone_congr (mul_mod a b)
theorem neg_one (a : Int) : negV (vone a) = vone (-a) := by
  unfold negV; rw [sub_one]; exact vone_congr (by omega)

/-- Heights of what comes of two. -/
theorem hgt_comb (f : Int → Int → Int) (a b : V) : hgt (comb f a b) = kindZ (hgt a) (hgt b) := by
  unfold hgt
  rw [sn_of (comb_sane f a b)]
  unfold comb kindZ
  rcases sn_k a with h | h | h <;> rcases sn_k b with g | g | g <;> simp [h, g, vbot, vtop, vone] <;> decide
theorem hgt_neg (a : V) : hgt (negV a) = hgt a := by
  unfold negV subV
  rw [hgt_comb]
  have h1 : hgt (vone 0) = 1 := by unfold hgt; rw [sn_of (vone_sane 0)]; rfl
  rw [h1]
  unfold hgt kindZ
  rcases sn_k a with h | h | h <;> rw [h] <;> decide
end Go.Proofs.YtmcbedlmgffckaaDoor
namespace Go.Proofs.YtmcbedlmgffckaaDoor
theorem leq_of {a b : V} (ha : a.sane) (hb : b.sane) : leq a b = leV a b := by rw [leq_sn, sn_of ha, sn_of hb]
theorem hgt_of {a : V} (ha : a.sane) : hgt a = a.k := by unfold hgt; rw [sn_of ha]
end Go.Proofs.YtmcbedlmgffckaaDoor

namespace Go.Proofs.YtmcbedlmgffckaaDoor
open Go

theorem tabG_congr {α : Type} {f g : Nat → α} {n m : Nat} (hn : n = m) (h : ∀ k, f k = g k) : tabG f n = tabG g m := by
  subst hn
  unfold tabG
  exact List.map_congr_left fun k _ => h k
theorem joinS_sz (on1 : Bool) (l1 : List Int) (on2 : Bool) (l2 : List Int) : szG (on1 || on2) (joinS on1 l1 on2 l2) = max (szG on1 l1) (szG on2 l2) := by
  cases on1 <;> cases on2 <;> simp [szG, joinS, joinG, tabG_length]
theorem joinF_sz (on1 : Bool) (l1 : List V) (on2 : Bool) (l2 : List V) : szG (on1 || on2) (joinF on1 l1 on2 l2) = max (szG on1 l1) (szG on2 l2) := by
  cases on1 <;> cases on2 <;> simp [szG, joinF, joinG, tabG_length]
theorem joinS_comm (on1 : Bool) (l1 : List Int) (on2 : Bool) (l2 : List Int) : joinS on2 l2 on1 l1 = joinS on1 l1 on2 l2 :=
  tabG_congr (Nat.max_comm _ _) fun k => by dsimp only; rw [Nat.or_comm]
theorem joinF_comm (on1 : Bool) (l1 : List V) (on2 : Bool) (l2 : List V) : joinF on2 l2 on1 l1 = joinF on1 l1 on2 l2 :=
  tabG_congr (Nat.max_comm _ _) fun _ => join_comm _ _
theorem joinS_assoc (on1 : Bool) (l1 : List Int) (on2 : Bool) (l2 : List Int) (on3 : Bool) (l3 : List Int) :
    joinS on1 l1 (on2 || on3) (joinS on2 l2 on3 l3) = joinS (on1 || on2) (joinS on1 l1 on2 l2) on3 l3 := by
  refine tabG_congr (by rw [joinS_sz, joinS_sz, Nat.max_assoc]) fun k => ?_
  dsimp only
  rw [joinS_at, joinS_at, sS_of (or_lt (sS_lt _) (sS_lt _)), sS_of (or_lt (sS_lt _) (sS_lt _)), Nat.or_assoc]
theorem joinF_assoc (on1 : Bool) (l1 : List V) (on2 : Bool) (l2 : List V) (on3 : Bool) (l3 : List V) :
    joinF on1 l1 (on2 || on3) (joinF on2 l2 on3 l3) = joinF (on1 || on2) (joinF on1 l1 on2 l2) on3 l3 := by
  refine tabG_congr (by rw [joinF_sz, joinF_sz, Nat.max_assoc]) fun k => ?_
  rw [joinF_at, joinF_at, join_assoc]
theorem leqN_refl (a : Nat) : leqN a a = true := by simp [leqN]
theorem leqN_trans {a b c : Nat} (ha : a < 8) (hb : b < 8) (hc : c < 8) (h1 : leqN a b = true) (h2 : leqN b c = true) : leqN a c = true := by
  have h : ∀ x y z : Fin 8, leqN x.val y.val = true → leqN y.val z.val = true → leqN x.val z.val = true := by decide
  exact h ⟨a, ha⟩ ⟨b, hb⟩ ⟨c, hc⟩ h1 h2
theorem leqN_or {a b c : Nat} (ha : a < 8) (hb : b < 8) (hc : c < 8) : leqN (a ||| b) c = (leqN a c && leqN b c) := by
  have h : ∀ x y z : Fin 8, leqN (x.val ||| y.val) z.val = (leqN x.val z.val && leqN y.val z.val) := by decide
  exact h ⟨a, ha⟩ ⟨b, hb⟩ ⟨c, hc⟩
theorem leqS_refl (on : Bool) (l : List Int) : leqS on l on l = true := (leqS_iff _ _ _ _).2 ⟨id, fun _ => leqN_refl _⟩
theorem leqF_refl (on : Bool) (l : List V) : leqF on l on l = true := (leqF_iff _ _ _ _).2 ⟨id, fun _ => leq_refl _⟩
theorem leqS_none (on : Bool) (l : List Int) : leqS false [] on l = true := (leqS_iff _ _ _ _).2 ⟨fun h => (Bool.false_ne_true h).elim, fun _ => by rw [atG_off]; exact leqN_zero _⟩
theorem leqF_none (on : Bool) (l : List V) : leqF false [] on l = true := (leqF_iff _ _ _ _).2 ⟨fun h => (Bool.false_ne_true h).elim, fun _ => by rw [atG_off]; exact leq_bot _⟩
theorem leqS_trans {on1 on2 on3 : Bool} {l1 l2 l3 : List Int} (h1 : leqS on1 l1 on2 l2 = true) (h2 : leqS on2 l2 on3 l3 = true) : leqS on1 l1 on3 l3 = true := by
  rw [leqS_iff] at *
  exact ⟨fun h => h2.1 (h1.1 h), fun k => leqN_trans (sS_lt _) (sS_lt _) (sS_lt _) (h1.2 k) (h2.2 k)⟩
theorem leqF_trans {on1 on2 on3 : Bool} {l1 l2 l3 : List V} (h1 : leqF on1 l1 on2 l2 = true) (h2 : leqF on2 l2 on3 l3 = true) : leqF on1 l1 on3 l3 = true := by
  rw [leqF_iff] at *
  exact ⟨fun h => h2.1 (h1.1 h), fun k => leq_trans (h1.2 k) (h2.2 k)⟩
theorem leqS_join (on1 : Bool) (l1 : List Int) (on2 : Bool) (l2 : List Int) (on3 : Bool) (l3 : List Int) : leqS (on1 || on2) (joinS on1 l1 on2 l2) on3 l3 = (leqS on1 l1 on3 l3 && leqS on2 l2 on3 l3) := by
  rw [Bool.eq_iff_iff, Bool.and_eq_true, leqS_iff, leqS_iff, leqS_iff]
  have e : ∀ k : Nat, leqN (sS (atG 0 (on1 || on2) (joinS on1 l1 on2 l2) (k : Int))) (sS (atG 0 on3 l3 (k : Int))) = (leqN (sS (atG 0 on1 l1 (k : Int))) (sS (atG 0 on3 l3 (k : Int))) && leqN (sS (atG 0 on2 l2 (k : Int))) (sS (atG 0 on3 l3 (k : Int)))) := fun k => by
    rw [joinS_at, sS_of (or_lt (sS_lt _) (sS_lt _)), leqN_or (sS_lt _) (sS_lt _) (sS_lt _)]
  constructor
  · rintro ⟨h1, h2⟩
    have h3 : ∀ k : Nat, _ := fun k => by have := h2 k; rw [e, Bool.and_eq_true] at this; exact this
    exact ⟨⟨fun h => h1 (by rw [h]; rfl), fun k => (h3 k).1⟩, ⟨fun h => h1 (by rw [h, Bool.or_true]), fun k => (h3 k).2⟩⟩
  · rintro ⟨⟨h1, h2⟩, ⟨h3, h4⟩⟩
    exact ⟨fun h => by rw [Bool.or_eq_true] at h; exact h.elim h1 h3, fun k => by rw [e, h2 k, h4 k]; rfl⟩
theorem leqF_join (on1 : Bool) (l1 : List V) (on2 : Bool) (l2 : List V) (on3 : Bool) (l3 : List V) : leqF (on1 || on2) (joinF on1 l1 on2 l2) on3 l3 = (leqF on1 l1 on3 l3 && leqF on2 l2 on3 l3) := by
  rw [Bool.eq_iff_iff, Bool.and_eq_true, leqF_iff, leqF_iff, leqF_iff]
  have e : ∀ k : Nat, leq (atG vbot (on1 || on2) (joinF on1 l1 on2 l2) (k : Int)) (atG vbot on3 l3 (k : Int)) = (leq (atG vbot on1 l1 (k : Int)) (atG vbot on3 l3 (k : Int)) && leq (atG vbot on2 l2 (k : Int)) (atG vbot on3 l3 (k : Int))) := fun k => by
    rw [joinF_at, leq_join]
  constructor
  · rintro ⟨h1, h2⟩
    have h3 : ∀ k : Nat, _ := fun k => by have := h2 k; rw [e, Bool.and_eq_true] at this; exact this
    exact ⟨⟨fun h => h1 (by rw [h]; rfl), fun k => (h3 k).1⟩, ⟨fun h => h1 (by rw [h, Bool.or_true]), fun k => (h3 k).2⟩⟩
  · rintro ⟨⟨h1, h2⟩, ⟨h3, h4⟩⟩
    exact ⟨fun h => by rw [Bool.or_eq_true] at h; exact h.elim h1 h3, fun k => by rw [e, h2 k, h4 k]; rfl⟩
theorem leqF_left (on1 : Bool) (l1 : List V) (on2 : Bool) (l2 : List V) (on : Bool) (l : List V) (ho : (on1 || on2) = on) (hl : joinF on1 l1 on2 l2 = l) : leqF on1 l1 on l = true := by
  subst ho hl
  have h := leqF_join on1 l1 on2 l2 (on1 || on2) (joinF on1 l1 on2 l2)
  rw [leqF_refl] at h
  exact (Bool.and_eq_true _ _ ▸ h.symm).1
theorem leqF_right (on1 : Bool) (l1 : List V) (on2 : Bool) (l2 : List V) (on : Bool) (l : List V) (ho : (on1 || on2) = on) (hl : joinF on1 l1 on2 l2 = l) : leqF on2 l2 on l = true := by
  subst ho hl
  have h := leqF_join on1 l1 on2 l2 (on1 || on2) (joinF on1 l1 on2 l2)
  rw [leqF_refl] at h
  exact (Bool.and_eq_true _ _ ▸ h.symm).2
theorem join_bot_right (v : V) : join v vbot = v.sn := by
  rw [join_J, sn_of vbot_sane]
  rcases V.cases (sn_sane v) with h | h | ⟨n, _, _, h⟩ <;> rw [h] <;> simp [J, leV, vbot, vtop]
theorem join_bot_left (v : V) : join vbot v = v.sn := by rw [← join_comm, join_bot_right]
theorem join_sn (a b : V) : join a.sn b.sn = join a b := by rw [join_J, join_J, sn_sn, sn_sn]
theorem leq_sn_sn (a b : V) : leq a.sn b.sn = leq a b := by rw [leq_sn, leq_sn, sn_sn, sn_sn]
theorem leq_top (v : V) : leq v vtop = true := by rw [leq_sn, sn_of vtop_sane]; simp [leV, vtop]
/-- Set lower, or higher, is below, or above. -/
theorem leqF_set {on : Bool} {l : List V} {i : Int} {u v : V} (h : leq u v = true) : leqF on (setF on l i u) on (setF on l i v) = true := by
  rw [leqF_iff]
  refine ⟨id, fun k => ?_⟩
  rw [setF_at, setF_at]
  split
  · rw [leq_sn_sn]; exact h
  · exact leq_refl _
end Go.Proofs.YtmcbedlmgffckaaDoor

namespace Go.Proofs.YtmcbedlmgffckaaDoor
open Go Go.RowKit Go.Sort









end Go.Proofs.YtmcbedlmgffckaaDoor

namespace Go.Proofs.YtmcbedlmgffckaaDoor
open Go Go.RowKit Go.Sort

/-- With values that may be. -/
def ownLF (on : Bool) (l : List V) : List V := if on then tabG (fun j => (atG vbot true l (j : Int)).sn) l.length else []
def ownLS (on : Bool) (l : List Int) : List Int := if on then tabG (fun j => ((sS (atG 0 true l (j : Int)) : Nat) : Int)) l.length else []
theorem ownLF_len (on : Bool) (l : List V) : (ownLF on l).length = szG on l := by cases on <;> simp [ownLF, szG, tabG_length]
theorem ownLS_len (on : Bool) (l : List Int) : (ownLS on l).length = szG on l := by cases on <;> simp [ownLS, szG, tabG_length]
theorem encS_snoc (l : List Int) (x : Int) : (l ++ [x]).map (Value.int .i64) = l.map (Value.int .i64) ++ [.int .i64 x] := by simp

















end Go.Proofs.YtmcbedlmgffckaaDoor

namespace Go.Proofs.YtmcbedlmgffckaaDoor
open Go Go.RowKit Go.Sort

theorem joinF_offL (l1 : List V) (on2 : Bool) (l2 : List V) : joinF false l1 on2 l2 = ownLF on2 l2 := by
  cases on2 with
  | false => exact joinG_both_off _ _
  | true => exact tabG_congr (by simp [szG]) fun k => by rw [atG_off]; exact join_bot_left _
theorem joinF_offR (l1 l2 : List V) : joinF true l1 false l2 = ownLF true l1 :=
  tabG_congr (by simp [szG]) fun k => by rw [atG_off (l := l2)]; exact join_bot_right _
theorem joinS_offL (l1 : List Int) (on2 : Bool) (l2 : List Int) : joinS false l1 on2 l2 = ownLS on2 l2 := by
  cases on2 with
  | false => exact joinG_both_off _ _
  | true => exact tabG_congr (by simp [szG]) fun k => by dsimp only; rw [atG_off, sS_zero, Nat.zero_or]
theorem joinS_offR (l1 l2 : List Int) : joinS true l1 false l2 = ownLS true l1 :=
  tabG_congr (by simp [szG]) fun k => by dsimp only; rw [atG_off (l := l2), sS_zero, Nat.or_zero]
theorem setF_own (on : Bool) (l : List V) (i : Int) (v : V) : setF on l i v = putG (ownLF on l) i v.sn := by
  cases on with
  | true => rfl
  | false => simp [setF, ownLF, putG]
theorem setS_own (on : Bool) (l : List Int) (i v : Int) : setS on l i v = putG (ownLS on l) i ((sS v : Nat) : Int) := by
  cases on with
  | true => rfl
  | false => simp [setS, ownLS, putG]
theorem OwnF.below {t : TypeId} {n0 : Nat} {W W' : World} {a : Option Addr} {l : List V} (h : OwnF t n0 W a l) (hb : Below W.heap.size W W') : OwnF t n0 W' a l := h.block (Nat.le_refl _) fun g _ hl => hb.block g hl
theorem OwnS.below {t : TypeId} {n0 : Nat} {W W' : World} {a : Option Addr} {l : List Int} (h : OwnS t n0 W a l) (hb : Below W.heap.size W W') : OwnS t n0 W' a l := h.block (Nat.le_refl _) fun g _ hl => hb.block g hl

end Go.Proofs.YtmcbedlmgffckaaDoor
