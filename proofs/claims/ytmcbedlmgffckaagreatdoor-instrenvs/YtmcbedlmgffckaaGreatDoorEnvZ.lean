/- EnvZ: several texts in one: EnvG EnvH EnvI EnvN FlatN EnvO EnvR EnvS EnvV. -/
import Derived.Test.YtmcbedlmgffckaaGreatDoorEnvY
import Derived.Test.YtmcbedlmgffckaaGreatDoorLate
import Derived.Test.YtmcbedlmgffckaaGreatDoorFlaG

namespace Go.Proofs.YtmcbedlmgffckaaGreatDoor
open Go Go.RowKit Go.Sort

/-- The cells of values. -/
def encF (l : List V) : List Value := l.flatMap fun v => [.int .i64 v.k, .int .i64 v.c]
theorem encF_snoc (l : List V) (v : V) : encF (l ++ [v]) = encF l ++ [.int .i64 v.k, .int .i64 v.c] := by simp [encF]
theorem encF_at (l : List V) : ∀ j, j < l.length → (encF l)[j * 2]? = some (.int .i64 (l[j]?.getD vbot).k) ∧ (encF l)[j * 2 + 1]? = some (.int .i64 (l[j]?.getD vbot).c) := by
  induction l with
  | nil => intro j hj; exact absurd hj (Nat.not_lt_zero _)
  | cons v r ih =>
    intro j hj
    have e : encF (v :: r) = .int .i64 v.k :: .int .i64 v.c :: encF r := by simp [encF]
    rw [e]
    cases j with
    | zero => simp
    | succ j =>
      have := ih j (by simpa using hj)
      rw [show (j + 1) * 2 = j * 2 + 1 + 1 by omega]
      simpa using this
/-- Values of the call's own, as a slice that is read, and may be written. -/
def OwnF (t : TypeId) (n0 : Nat) (W : World) (a : Option Addr) (l : List V) : Prop := l = [] ∨ ∃ g, a = some ⟨g, 0, none⟩ ∧ FreshF t n0 W g l
def OwnS (t : TypeId) (n0 : Nat) (W : World) (a : Option Addr) (l : List Int) : Prop := l = [] ∨ ∃ g, a = some ⟨g, 0, none⟩ ∧ FreshS t n0 W g l
theorem OwnF.fis {t : TypeId} {n0 : Nat} {W : World} {a : Option Addr} {l : List V} (h : OwnF t n0 W a l) : FIs W.heap.size W a l := by
  rcases h with rfl | ⟨g, rfl, hF⟩
  · exact FIs.nil _ _ _
  · exact hF.fis
theorem OwnS.fis {t : TypeId} {n0 : Nat} {W : World} {a : Option Addr} {l : List Int} (h : OwnS t n0 W a l) : Is W.heap.size W a l := by
  rcases h with rfl | ⟨g, rfl, hF⟩
  · exact Is.nil _ _ _
  · exact hF.fis
theorem OwnF.block {t : TypeId} {n0 n1 : Nat} {W W' : World} {a : Option Addr} {l : List V} (h : OwnF t n0 W a l) (hn : n1 ≤ n0) (hb : ∀ g, n0 ≤ g → g < W.heap.size → W'.heap[g]? = W.heap[g]?) : OwnF t n1 W' a l :=
  h.imp id fun ⟨g, e, hF⟩ => ⟨g, e, (hF.block (hb g hF.1 hF.lt)).base hn⟩
theorem OwnS.block {t : TypeId} {n0 n1 : Nat} {W W' : World} {a : Option Addr} {l : List Int} (h : OwnS t n0 W a l) (hn : n1 ≤ n0) (hb : ∀ g, n0 ≤ g → g < W.heap.size → W'.heap[g]? = W.heap[g]?) : OwnS t n1 W' a l :=
  h.imp id fun ⟨g, e, hF⟩ => ⟨g, e, (hF.block (hb g hF.1 hF.lt)).base hn⟩
theorem ownF_of {t : TypeId} {n0 : Nat} {W : World} {v : Value} {l : List V} {n : Nat} (h : W.ownsRow n0 t 2 v n (encF l)) (hn : l.length = n) : ∃ a cap, v = .slice a n cap ∧ OwnF t n0 W a l := by
  obtain ⟨hlen, ⟨rfl, h0⟩ | ⟨g, cap, cur, rfl, hb, hc, hle, _, hsz, htk⟩⟩ := h
  · subst h0
    exact ⟨none, 0, rfl, .inl (List.eq_nil_of_length_eq_zero hn)⟩
  · refine ⟨_, cap, rfl, .inr ⟨g, rfl, hb, cur, hc, by rw [hn, hsz]; exact Nat.mul_le_mul_right _ hle, fun j hj => ?_⟩⟩
    obtain ⟨e0, e1⟩ := encF_at l j hj
    have ht : ∀ q, q < n * 2 → cur[q]? = (encF l)[q]? := fun q hq => by rw [← htk, List.getElem?_take_of_lt hq, Array.getElem?_toList]
    exact ⟨(ht _ (by omega)).trans e0, (ht _ (by omega)).trans e1⟩
theorem ownS_of {t : TypeId} {n0 : Nat} {W : World} {v : Value} {l : List Int} {n : Nat} (h : W.ownsRow n0 t 1 v n (l.map (Value.int .i64))) (hn : l.length = n) : ∃ a cap, v = .slice a n cap ∧ OwnS t n0 W a l := by
  obtain ⟨hlen, ⟨rfl, h0⟩ | ⟨g, cap, cur, rfl, hb, hc, hle, _, hsz, htk⟩⟩ := h
  · subst h0
    exact ⟨none, 0, rfl, .inl (List.eq_nil_of_length_eq_zero hn)⟩
  · refine ⟨_, cap, rfl, .inr ⟨g, rfl, hb, cur, hc, by rw [hn, hsz]; omega, fun j hj => ?_⟩⟩
    have ht : cur[j]? = (l.map (Value.int .i64))[j]? := by rw [← htk, List.getElem?_take_of_lt (by omega), Array.getElem?_toList]
    rw [ht]
    simp [hj]
/-- A row of the call's own, of which the world's blocks from B on have not been written. -/
theorem owns_far {W W' : World} {b : Nat} {e : TypeId} {size n : Nat} {v : Value} {xs : List Value} (h : W.ownsRow b e size v n xs) (hb : ∀ g, b ≤ g → g < W.heap.size → W'.heap[g]? = W.heap[g]?) : W'.ownsRow b e size v n xs :=
  ⟨h.1, h.2.imp id fun ⟨g, cap, cur, a, hg, hc, r⟩ => ⟨g, cap, cur, a, hg, (hb g hg (Array.getElem?_eq_some_iff.1 hc).1).trans hc, r⟩⟩
theorem owns_below' {W W' : World} {b : Nat} {e : TypeId} {size n : Nat} {v : Value} {xs : List Value} (h : W.ownsRow b e size v n xs) (hb : Below W.heap.size W W') : W'.ownsRow b e size v n xs := owns_far h fun g _ hl => hb.block g hl
theorem own_ne {W : World} {b : Nat} {e : TypeId} {size n : Nat} {v : Value} {xs : List Value} (h : W.ownsRow b e size v n xs) {k : Nat} (hk : k < b) : some k ≠ v.ownBlock := fun he => by
  have := (h.lt k he.symm).1
  omega
theorem Box.put1 {W : World} {b : Nat} {x y : Value} (h : Box W b x y) (y' : Value) : Box (W.setCell ⟨b, 1, none⟩ y') b x y' := by
  obtain ⟨c0, c1, f0, f1⟩ := h
  refine ⟨by rw [World.cell?_setCell_other _ _ _ _ (by simp)]; exact c0, World.cell?_setCell_same' _ _ _ (by rw [c1]; rfl), by rw [World.frozen?_setCell]; exact f0, by rw [World.frozen?_setCell]; exact f1⟩
theorem heap_put1 (W : World) (b k i : Nat) (x : Value) (h : k ≠ b) : (W.setCell ⟨b, i, none⟩ x).heap[k]? = W.heap[k]? := Below.heap_setCell _ _ _ _ (by simpa using h)
theorem size_put1 (W : World) (b i : Nat) (x : Value) : (W.setCell ⟨b, i, none⟩ x).heap.size = W.heap.size := by simp [World.setCell]









end Go.Proofs.YtmcbedlmgffckaaGreatDoor

namespace Go.Proofs.YtmcbedlmgffckaaGreatDoor
open Go Go.RowKit Go.Sort





set_option maxRecDepth 100000 in
set_option maxHeartbeats 4000000 in
theorem SameF_eq (on : Bool) (a1 : Option Addr) (cap1 : Nat) (a2 : Option Addr) (cap2 n : Nat) (l : List V) (w : World) (g1 : FE w a1 n l) (g2 : FE w a2 n l) (hl : n ≤ 200) :
    Calls Tryz.prog 5 #[.agg #[.bool on, .slice a1 n cap1], .agg #[.bool on, .slice a2 n cap2]] w fun e w' => e = .returned (.bool true) ∧ Below w.heap.size w w' := by
  have h1 := Lib.hid g1
  have h2 := Lib.hid g2
  have hn := g1.2
  have BA := (Box.new w (.bool on) (.slice a1 n cap1) 24).alloc (.cells #[.bool on, .slice a2 n cap2] 24)
  have BB := Box.new (w.alloc (.cells #[.bool on, .slice a1 n cap1] 24)) (.bool on) (.slice a2 n cap2) 24
  have hW := below2 w (.cells #[.bool on, .slice a1 n cap1] 24) (.cells #[.bool on, .slice a2 n cap2] 24)
  rw [World.size_alloc] at BB
  generalize hE : (w.alloc (.cells #[.bool on, .slice a1 n cap1] 24)).alloc (.cells #[.bool on, .slice a2 n cap2] 24) = W at *
  have HW := Lib.hid hW
  have HN := Lib.hid hn
  have HA := Lib.hid BA
  have HB := Lib.hid BB
  obtain ⟨c0, c1, -, -⟩ := id BA
  obtain ⟨d0, d1, -, -⟩ := id BB
  clear hW g1 g2 BA BB hn
  have hb0 : ((n : Int) != (n : Int)) = false := by simp
  have hb1 : (on != on) = false := by simp
  go_enter Tryz.func5, Tryz.ntmps5
  go_wp2_with fail
  clear c0 c1 d0 d1 hE
  go_loopw [5] (fun i wr => ∃ j : Nat, j ≤ n ∧ i = .int .i64 j ∧ Hid (Box wr w.heap.size (.bool on) (.slice a1 n cap1)) ∧ Hid (Box wr (w.heap.size + 1) (.bool on) (.slice a2 n cap2)) ∧ Hid (Below w.heap.size w wr)) (fun i _ => n - (intOf i).toNat)
  case atStart => exact ⟨0, Nat.zero_le _, rfl, HA, HB, HW⟩
  case round =>
    clear HA HB HW
    obtain ⟨j, hj, rfl, hA, hB, hBw⟩ := hrel
    obtain ⟨c0, c1, -, -⟩ := id hA.out
    obtain ⟨d0, d1, -, -⟩ := id hB.out
    by_cases hlt : j < n
    · have hji : (j : Int) < (n : Int) := by omega
      have hjl : j < l.length := by rw [HN.out]; exact hlt
      obtain ⟨b1, o1, rfl, hlt1, x10, x11⟩ := h1.out.1 j hjl
      have y10 := (hBw.out.cell (p := ⟨b1, o1 + j * 2, none⟩) hlt1).trans x10
      have y11 := (hBw.out.cell (p := ⟨b1, o1 + j * 2 + 1, none⟩) hlt1).trans x11
      clear x10 x11
      obtain ⟨b2, o2, rfl, hlt2, x20, x21⟩ := h2.out.1 j hjl
      have y20 := (hBw.out.cell (p := ⟨b2, o2 + j * 2, none⟩) hlt2).trans x20
      have y21 := (hBw.out.cell (p := ⟨b2, o2 + j * 2 + 1, none⟩) hlt2).trans x21
      clear x20 x21
      generalize l[j]?.getD vbot = u at *
      obtain ⟨x, y⟩ := u
      clear hjl
      go_wp2_with fail
      go_quiet (fail)
      go_wp2_with fail
      go_roundw
      case rel =>
        have hb := below_drewN (Below.refl wr.heap.size wr) nq
        exact ⟨j + 1, by omega, by go_num, Lib.hid (hA.out.below hb hA.out.lt), Lib.hid (hB.out.below hb hB.out.lt), Lib.hid (below_drewN hBw.out nq)⟩
      case measure => simp [intOf]; omega
    · obtain rfl : j = n := by omega
      go_wp2_with fail
      go_ret
      exact ⟨rfl, hBw.out⟩

set_option maxRecDepth 100000 in
set_option maxHeartbeats 4000000 in
theorem SameS_eq (on : Bool) (a1 : Option Addr) (cap1 : Nat) (a2 : Option Addr) (cap2 n : Nat) (l : List Int) (w : World) (g1 : SE w a1 n l) (g2 : SE w a2 n l) (hl : n ≤ 200) :
    Calls Tryz.prog 10 #[.agg #[.bool on, .slice a1 n cap1], .agg #[.bool on, .slice a2 n cap2]] w fun e w' => e = .returned (.bool true) ∧ Below w.heap.size w w' := by
  have h1 := Lib.hid g1
  have h2 := Lib.hid g2
  have hn := g1.2
  have BA := (Box.new w (.bool on) (.slice a1 n cap1) 27).alloc (.cells #[.bool on, .slice a2 n cap2] 27)
  have BB := Box.new (w.alloc (.cells #[.bool on, .slice a1 n cap1] 27)) (.bool on) (.slice a2 n cap2) 27
  have hW := below2 w (.cells #[.bool on, .slice a1 n cap1] 27) (.cells #[.bool on, .slice a2 n cap2] 27)
  rw [World.size_alloc] at BB
  generalize hE : (w.alloc (.cells #[.bool on, .slice a1 n cap1] 27)).alloc (.cells #[.bool on, .slice a2 n cap2] 27) = W at *
  have HW := Lib.hid hW
  have HN := Lib.hid hn
  have HA := Lib.hid BA
  have HB := Lib.hid BB
  obtain ⟨c0, c1, -, -⟩ := id BA
  obtain ⟨d0, d1, -, -⟩ := id BB
  clear hW g1 g2 BA BB hn
  have hb0 : ((n : Int) != (n : Int)) = false := by simp
  have hb1 : (on != on) = false := by simp
  go_enter Tryz.func10, Tryz.ntmps10
  go_wp2_with fail
  clear c0 c1 d0 d1 hE
  go_loopw [5] (fun i wr => ∃ j : Nat, j ≤ n ∧ i = .int .i64 j ∧ Hid (Box wr w.heap.size (.bool on) (.slice a1 n cap1)) ∧ Hid (Box wr (w.heap.size + 1) (.bool on) (.slice a2 n cap2)) ∧ Hid (Below w.heap.size w wr)) (fun i _ => n - (intOf i).toNat)
  case atStart => exact ⟨0, Nat.zero_le _, rfl, HA, HB, HW⟩
  case round =>
    clear HA HB HW
    obtain ⟨j, hj, rfl, hA, hB, hBw⟩ := hrel
    obtain ⟨c0, c1, -, -⟩ := id hA.out
    obtain ⟨d0, d1, -, -⟩ := id hB.out
    by_cases hlt : j < n
    · have hji : (j : Int) < (n : Int) := by omega
      have hjl : j < l.length := by rw [HN.out]; exact hlt
      obtain ⟨b1, o1, rfl, hlt1, x10⟩ := h1.out.1 j hjl
      have y10 := (hBw.out.cell (p := ⟨b1, o1 + j, none⟩) hlt1).trans x10
      clear x10
      obtain ⟨b2, o2, rfl, hlt2, x20⟩ := h2.out.1 j hjl
      have y20 := (hBw.out.cell (p := ⟨b2, o2 + j, none⟩) hlt2).trans x20
      clear x20
      generalize l[j]?.getD 0 = x at *
      have hbb : (x != x) = false := by simp
      clear hjl
      go_wp2_with fail
      go_quiet (fail)
      go_wp2_with fail
      go_roundw
      case rel =>
        have hb := below_drewN (Below.refl wr.heap.size wr) nq
        exact ⟨j + 1, by omega, by go_num, Lib.hid (hA.out.below hb hA.out.lt), Lib.hid (hB.out.below hb hB.out.lt), Lib.hid (below_drewN hBw.out nq)⟩
      case measure => simp [intOf]; omega
    · obtain rfl : j = n := by omega
      go_wp2_with fail
      go_ret
      exact ⟨rfl, hBw.out⟩

end Go.Proofs.YtmcbedlmgffckaaGreatDoor

namespace Go.Proofs.YtmcbedlmgffckaaGreatDoor
open Go Go.RowKit Go.Sort



end Go.Proofs.YtmcbedlmgffckaaGreatDoor

namespace Go.Proofs.YtmcbedlmgffckaaGreatDoor
open Go

theorem sS_sS (x : Int) : sS ((sS x : Nat) : Int) = sS x := sS_of (sS_lt x)
theorem sS_zero : sS 0 = 0 := rfl
section
variable {α : Type}
theorem atG_tab {d : α} {f : Nat → α} {n : Nat} {i : Int} (h : 0 ≤ i ∧ i < (n : Int)) : atG d true (tabG f n) i = f i.toNat := by
  unfold atG szG
  rw [if_pos rfl, tabG_length, if_pos h]
  exact tabG_at f (by omega) d
theorem atG_tab_out {d : α} {f : Nat → α} {n : Nat} {i : Int} (h : ¬ (0 ≤ i ∧ i < (n : Int))) : atG d true (tabG f n) i = d := atG_out (by unfold szG; rw [if_pos rfl, tabG_length]; exact h)
theorem atG_off {d : α} {l : List α} {i : Int} : atG d false l i = d := atG_out (by simp [szG] <;> omega)
theorem putG_at {d : α} (l : List α) (i : Int) (v : α) (k : Int) : atG d true (putG l i v) k = if 0 ≤ i ∧ i < (l.length : Int) ∧ k = i then v else atG d true l k := by
  unfold putG
  by_cases hin : 0 ≤ i ∧ i < (l.length : Int)
  · rw [if_pos hin]
    by_cases hk : k = i
    · subst hk
      rw [if_pos ⟨hin.1, hin.2, rfl⟩]
      unfold atG szG
      rw [if_pos rfl, List.length_set, if_pos hin]
      have : k.toNat < l.length := by omega
      simp [this]
    · rw [if_neg (fun h => hk h.2.2)]
      unfold atG szG
      rw [if_pos rfl, if_pos rfl, List.length_set]
      split
      · rename_i h
        have : i.toNat ≠ k.toNat := by omega
        rw [List.getElem?_set_ne this]
      · rfl
  · rw [if_neg hin, if_neg (fun h => hin ⟨h.1, h.2.1⟩)]
/-- The value at a place of a join. -/
theorem joinG_at {d : α} {jn : α → α → α} (on1 : Bool) (l1 : List α) (on2 : Bool) (l2 : List α) (i : Int) :
    atG d true (joinG d jn on1 l1 on2 l2) i = if 0 ≤ i ∧ i < ((max (szG on1 l1) (szG on2 l2) : Nat) : Int) then jn (atG d on1 l1 i) (atG d on2 l2 i) else d := by
  unfold joinG
  split
  · rename_i h
    rw [atG_tab h, Int.toNat_of_nonneg h.1]
  · rename_i h
    exact atG_tab_out h
theorem joinG_both_off {d : α} {jn : α → α → α} (l1 l2 : List α) : joinG d jn false l1 false l2 = [] := by simp [joinG, szG, tabG]
theorem atG_ge {d : α} {on : Bool} {l : List α} {i : Int} (h : (szG on l : Int) ≤ i) : atG d on l i = d := atG_out (by omega)
theorem atG_neg {d : α} {on : Bool} {l : List α} {i : Int} (h : i < 0) : atG d on l i = d := atG_out (by omega)
/-- Below, place by place (d is the lowest). -/
theorem leqG_iff {d : α} {le : α → α → Bool} (hd : ∀ x, le d x = true) (on1 : Bool) (l1 : List α) (on2 : Bool) (l2 : List α) :
    leqG d le on1 l1 on2 l2 = true ↔ (on1 = true → on2 = true) ∧ ∀ k : Nat, le (atG d on1 l1 (k : Int)) (atG d on2 l2 (k : Int)) = true := by
  unfold leqG
  rw [Bool.and_eq_true, allG_iff]
  constructor
  · rintro ⟨h1, h2⟩
    refine ⟨by cases on1 <;> cases on2 <;> simp_all, fun k => ?_⟩
    by_cases hk : k < szG on1 l1
    · exact h2 k hk
    · rw [atG_ge (d := d) (on := on1) (by omega)]; exact hd _
  · rintro ⟨h1, h2⟩
    exact ⟨by cases on1 <;> cases on2 <;> simp_all, fun k _ => h2 k⟩
end

theorem setS_at (on : Bool) (l : List Int) (i v k : Int) : atG 0 on (setS on l i v) k = if on = true ∧ 0 ≤ i ∧ i < (l.length : Int) ∧ k = i then ((sS v : Nat) : Int) else ((sS (atG 0 on l k) : Nat) : Int) := by
  cases on with
  | false => rw [atG_off, atG_off, if_neg (fun h => by cases h.1)]; rfl
  | true =>
    unfold setS
    rw [if_pos rfl, putG_at, tabG_length]
    by_cases h : 0 ≤ i ∧ i < (l.length : Int) ∧ k = i
    · rw [if_pos h, if_pos ⟨rfl, h⟩]
    · rw [if_neg h, if_neg (fun g => h g.2)]
      by_cases hk : 0 ≤ k ∧ k < (l.length : Int)
      · rw [atG_tab hk, Int.toNat_of_nonneg hk.1]
      · rw [atG_tab_out hk, atG_out (by simpa [szG] using hk)]; rfl
theorem setS_sz (on : Bool) (l : List Int) (i v : Int) : szG on (setS on l i v) = szG on l := by
  cases on <;> simp [szG, setS, putG_length, tabG_length]
theorem setF_at (on : Bool) (l : List V) (i : Int) (v : V) (k : Int) : atG vbot on (setF on l i v) k = if on = true ∧ 0 ≤ i ∧ i < (l.length : Int) ∧ k = i then v.sn else (atG vbot on l k).sn := by
  cases on with
  | false => rw [atG_off, atG_off, if_neg (fun h => by cases h.1)]; rfl
  | true =>
    unfold setF
    rw [if_pos rfl, putG_at, tabG_length]
    by_cases h : 0 ≤ i ∧ i < (l.length : Int) ∧ k = i
    · rw [if_pos h, if_pos ⟨rfl, h⟩]
    · rw [if_neg h, if_neg (fun g => h g.2)]
      by_cases hk : 0 ≤ k ∧ k < (l.length : Int)
      · rw [atG_tab hk, Int.toNat_of_nonneg hk.1]
      · rw [atG_tab_out hk, atG_out (by simpa [szG] using hk)]; rfl
theorem setF_sz (on : Bool) (l : List V) (i : Int) (v : V) : szG on (setF on l i v) = szG on l := by
  cases on <;> simp [szG, setF, putG_length, tabG_length]

theorem joinS_at (on1 : Bool) (l1 : List Int) (on2 : Bool) (l2 : List Int) (i : Int) : atG 0 (on1 || on2) (joinS on1 l1 on2 l2) i = ((sS (atG 0 on1 l1 i) ||| sS (atG 0 on2 l2 i) : Nat) : Int) := by
  by_cases hon : (on1 || on2) = true
  · rw [hon]
    unfold joinS
    rw [joinG_at]
    split
    · rfl
    · rename_i h
      by_cases h0 : i < 0
      · rw [atG_neg h0, atG_neg h0]; rfl
      · rw [atG_ge (d := 0) (on := on1) (by omega), atG_ge (d := 0) (on := on2) (by omega)]; rfl
  · obtain ⟨rfl, rfl⟩ : on1 = false ∧ on2 = false := by cases on1 <;> cases on2 <;> simp_all
    show atG 0 false _ i = _
    rw [atG_off, atG_off, atG_off]; rfl
theorem join_bot : join vbot vbot = vbot := by decide
theorem joinF_at (on1 : Bool) (l1 : List V) (on2 : Bool) (l2 : List V) (i : Int) : atG vbot (on1 || on2) (joinF on1 l1 on2 l2) i = join (atG vbot on1 l1 i) (atG vbot on2 l2 i) := by
  by_cases hon : (on1 || on2) = true
  · rw [hon]
    unfold joinF
    rw [joinG_at]
    split
    · rfl
    · rename_i h
      by_cases h0 : i < 0
      · rw [atG_neg h0, atG_neg h0, join_bot]
      · rw [atG_ge (d := vbot) (on := on1) (by omega), atG_ge (d := vbot) (on := on2) (by omega), join_bot]
  · obtain ⟨rfl, rfl⟩ : on1 = false ∧ on2 = false := by cases on1 <;> cases on2 <;> simp_all
    show atG vbot false _ i = _
    rw [atG_off, atG_off, atG_off, join_bot]
theorem leqN_zero (x : Nat) : leqN 0 x = true := by simp [leqN]
theorem leq_bot (x : V) : leq vbot x = true := by
  rw [leq_sn, sn_of vbot_sane]; simp [leV, vbot]
theorem leqS_iff (on1 : Bool) (l1 : List Int) (on2 : Bool) (l2 : List Int) :
    leqS on1 l1 on2 l2 = true ↔ (on1 = true → on2 = true) ∧ ∀ k : Nat, leqN (sS (atG 0 on1 l1 (k : Int))) (sS (atG 0 on2 l2 (k : Int))) = true :=
  leqG_iff (d := (0 : Int)) (le := fun x y => leqN (sS x) (sS y)) (fun x => leqN_zero (sS x)) on1 l1 on2 l2
theorem leqF_iff (on1 : Bool) (l1 : List V) (on2 : Bool) (l2 : List V) :
    leqF on1 l1 on2 l2 = true ↔ (on1 = true → on2 = true) ∧ ∀ k : Nat, leq (atG vbot on1 l1 (k : Int)) (atG vbot on2 l2 (k : Int)) = true :=
  leqG_iff (le := leq) leq_bot on1 l1 on2 l2
theorem leqN_or_left {a b : Nat} (ha : a < 8) (hb : b < 8) : leqN a (a ||| b) = true := by
  have h : ∀ x y : Fin 8, leqN x.val (x.val ||| y.val) = true := by decide
  exact h ⟨a, ha⟩ ⟨b, hb⟩
theorem leqN_or_right {a b : Nat} (ha : a < 8) (hb : b < 8) : leqN b (a ||| b) = true := by
  have h : ∀ x y : Fin 8, leqN y.val (x.val ||| y.val) = true := by decide
  exact h ⟨a, ha⟩ ⟨b, hb⟩
theorem leqS_left (on1 : Bool) (l1 : List Int) (on2 : Bool) (l2 : List Int) (on : Bool) (l : List Int) (ho : (on1 || on2) = on) (hl : joinS on1 l1 on2 l2 = l) : leqS on1 l1 on l = true := by
  subst ho hl
  rw [leqS_iff]
  refine ⟨fun h => by rw [h]; rfl, fun k => ?_⟩
  rw [joinS_at, sS_of (or_lt (sS_lt _) (sS_lt _))]
  exact leqN_or_left (sS_lt _) (sS_lt _)
theorem leqS_right (on1 : Bool) (l1 : List Int) (on2 : Bool) (l2 : List Int) (on : Bool) (l : List Int) (ho : (on1 || on2) = on) (hl : joinS on1 l1 on2 l2 = l) : leqS on2 l2 on l = true := by
  subst ho hl
  rw [leqS_iff]
  refine ⟨fun h => by rw [h, Bool.or_true], fun k => ?_⟩
  rw [joinS_at, sS_of (or_lt (sS_lt _) (sS_lt _))]
  exact leqN_or_right (sS_lt _) (sS_lt _)
end Go.Proofs.YtmcbedlmgffckaaGreatDoor

namespace Go.Proofs.YtmcbedlmgffckaaGreatDoor
open Go

def J (A B : V) : V := if leV A B then B else if leV B A then A else vtop
theorem join_J (a b : V) : join a b = J a.sn b.sn := rfl
theorem sn_join (a b : V) : (join a b).sn = J a.sn b.sn := sn_of (join_sane a b)

theorem J_comm {A B : V} (ha : A.sane) (hb : B.sane) : J A B = J B A := by
  rcases V.cases ha with rfl | rfl | ⟨n, -, -, rfl⟩ <;> rcases V.cases hb with rfl | rfl | ⟨m, -, -, rfl⟩ <;> simp [J, leV, vbot, vtop] <;>
    (by_cases h : n = m <;> simp [h, eq_comm])
theorem J_assoc {A B C : V} (ha : A.sane) (hb : B.sane) (hc : C.sane) : J (J A B) C = J A (J B C) := by
  rcases V.cases ha with rfl | rfl | ⟨n, -, -, rfl⟩ <;> rcases V.cases hb with rfl | rfl | ⟨m, -, -, rfl⟩ <;> rcases V.cases hc with rfl | rfl | ⟨l, -, -, rfl⟩ <;> simp [J, leV, vbot, vtop] <;>
    (first | (by_cases h : n = m <;> by_cases h' : m = l <;> by_cases h'' : n = l <;> simp_all [eq_comm] <;> omega) | (by_cases h : n = m <;> simp_all [eq_comm]) | (by_cases h : m = l <;> simp_all [eq_comm]) | (by_cases h : n = l <;> simp_all [eq_comm]))
theorem leV_J {A B C : V} (ha : A.sane) (hb : B.sane) (hc : C.sane) : leV (J A B) C = (leV A C && leV B C) := by
  rcases V.cases ha with rfl | rfl | ⟨n, -, -, rfl⟩ <;> rcases V.cases hb with rfl | rfl | ⟨m, -, -, rfl⟩ <;> rcases V.cases hc with rfl | rfl | ⟨l, -, -, rfl⟩ <;> simp [J, leV, vbot, vtop] <;>
    (first | (by_cases h : n = m <;> by_cases h' : m = l <;> by_cases h'' : n = l <;> simp_all [eq_comm] <;> omega) | (by_cases h : n = m <;> simp_all [eq_comm]) | (by_cases h : m = l <;> simp_all [eq_comm]) | (by_cases h : n = l <;> simp_all [eq_comm]))
theorem join_comm (a b : V) : join b a = join a b := J_comm (sn_sane b) (sn_sane a)
theorem join_assoc (a b c : V) : join a (join b c) = join (join a b) c := by
  rw [join_J a, sn_join, join_J (join a b), sn_join]
  exact (J_assoc (sn_sane a) (sn_sane b) (sn_sane c)).symm
theorem leq_join (a b c : V) : leq (join a b) c = (leq a c && leq b c) := by
  rw [leq_sn, sn_join]
  exact leV_J (sn_sane a) (sn_sane b) (sn_sane c)
theorem leq_refl (a : V) : leq a a = true := leV_refl _
theorem leq_trans {a b c : V} (h1 : leq a b = true) (h2 : leq b c = true) : leq a c = true := leV_trans (sn_sane b) h1 h2
theorem leq_antisymm {a b : V} (h1 : leq a b = true) (h2 : leq b a = true) : a.sn = b.sn := by
  rw [leq_sn] at h1 h2
  have ha := sn_sane a
  have hb := sn_sane b
  generalize a.sn = A at *
  generalize b.sn = B at *
  rcases V.cases ha with rfl | rfl | ⟨n, -, -, rfl⟩ <;> rcases V.cases hb with rfl | rfl | ⟨m, -, -, rfl⟩ <;> simp_all [leV, vbot, vtop]
theorem join_self (a : V) : join a a = a.sn := by rw [join_J]; simp [J, leV_refl]
theorem hgt_le {a b : V} (h : leq a b = true) : hgt a ≤ hgt b := by
  rw [leq_sn] at h
  unfold hgt
  have ha := sn_sane a
  have hb := sn_sane b
  generalize a.sn = A at *
  generalize b.sn = B at *
  rcases V.cases ha with rfl | rfl | ⟨n, -, -, rfl⟩ <;> rcases V.cases hb with rfl | rfl | ⟨m, -, -, rfl⟩ <;> simp_all [leV, vbot, vtop]
theorem hgt_le2 (a : V) : hgt a ≤ 2 := by
  unfold hgt
  rcases sn_k a with h | h | h <;> rw [h] <;> decide

theorem w32_congr {n m : Int} (h : n % 4294967296 = m % 4294967296) : w32 n = w32 m := by unfold w32; omega
theorem w32_mod (n : Int) : w32 n % 4294967296 = n % 4294967296 := by unfold w32; omega
theorem w32_w32 (n : Int) : w32 (w32 n) = w32 n := w32_congr (w32_mod n)
theorem comb_one (f : Int → Int → Int) (a b : Int) : comb f (vone a) (vone b) = vone (f (w32 a) (w32 b)) := by
  unfold comb
  rw [sn_of (vone_sane a), sn_of (vone_sane b)]
  simp [vone]
theorem vone_congr {n m : Int} (h : n % 4294967296 = m % 4294967296) : vone n = vone m := by unfold vone; rw [w32_congr h]
theorem mul_mod (a b : Int) : (w32 a * w32 b) % 4294967296 = (a * b) % 4294967296 := by
  rw [Int.mul_emod, w32_mod, w32_mod, ← Int.mul_emod]
theorem add_one (a b : Int) : addV (vone a) (vone b) = vone (a + b) := by
  unfold addV; rw [comb_one]; exact vone_congr (by have := w32_mod a; have := w32_mod b; omega)
theorem sub_one (a b : Int) : subV (vone a) (vone b) = vone (a - b) := by
  unfold subV; rw [comb_one]; exact vone_congr (by have := w32_mod a; have := w32_mod b; omega)
theorem mul_one' (a b : Int) : mulV (vone a) (vone b) = vone (a * b) := by
  unfold mulV; rw [comb_one]; exact vone_congr (mul_mod a b)
theorem neg_one (a : Int) : negV (vone a) = vone (-a) := by
  unfold negV; rw [sub_one]; exact vone_congr (by omega)

/-- Heights of what comes of two. -/
theorem hgt_comb (f : Int → Int → Int) (a b : V) : hgt (comb f a b) = kindZ (hgt a) (hgt b) := by
  unfold hgt
  rw [sn_of (comb_sane f a b)]
  unfold comb kindZ
  rcases sn_k a with h | h | h <;> rcases sn_k b with g | g | g <;> simp [h, g, vbot, vtop, vone] <;> decide
theorem hgt_neg (a : V) : hgt (negV a) = hgt a := by
  unfold negV subV
  rw [hgt_comb]
  have h1 : hgt (vone 0) = 1 := by unfold hgt; rw [sn_of (vone_sane 0)]; rfl
  rw [h1]
  unfold hgt kindZ
  rcases sn_k a with h | h | h <;> rw [h] <;> decide
end Go.Proofs.YtmcbedlmgffckaaGreatDoor
namespace Go.Proofs.YtmcbedlmgffckaaGreatDoor
theorem leq_of {a b : V} (ha : a.sane) (hb : b.sane) : leq a b = leV a b := by rw [leq_sn, sn_of ha, sn_of hb]
theorem hgt_of {a : V} (ha : a.sane) : hgt a = a.k := by unfold hgt; rw [sn_of ha]
end Go.Proofs.YtmcbedlmgffckaaGreatDoor

namespace Go.Proofs.YtmcbedlmgffckaaGreatDoor
open Go

theorem tabG_congr {α : Type} {f g : Nat → α} {n m : Nat} (hn : n = m) (h : ∀ k, f k = g k) : tabG f n = tabG g m := by
  subst hn
  unfold tabG
  exact List.map_congr_left fun k _ => h k
theorem joinS_sz (on1 : Bool) (l1 : List Int) (on2 : Bool) (l2 : List Int) : szG (on1 || on2) (joinS on1 l1 on2 l2) = max (szG on1 l1) (szG on2 l2) := by
  cases on1 <;> cases on2 <;> simp [szG, joinS, joinG, tabG_length]
theorem joinF_sz (on1 : Bool) (l1 : List V) (on2 : Bool) (l2 : List V) : szG (on1 || on2) (joinF on1 l1 on2 l2) = max (szG on1 l1) (szG on2 l2) := by
  cases on1 <;> cases on2 <;> simp [szG, joinF, joinG, tabG_length]
theorem joinS_comm (on1 : Bool) (l1 : List Int) (on2 : Bool) (l2 : List Int) : joinS on2 l2 on1 l1 = joinS on1 l1 on2 l2 :=
  tabG_congr (Nat.max_comm _ _) fun k => by dsimp only; rw [Nat.or_comm]
theorem joinF_comm (on1 : Bool) (l1 : List V) (on2 : Bool) (l2 : List V) : joinF on2 l2 on1 l1 = joinF on1 l1 on2 l2 :=
  tabG_congr (Nat.max_comm _ _) fun _ => join_comm _ _
theorem joinS_assoc (on1 : Bool) (l1 : List Int) (on2 : Bool) (l2 : List Int) (on3 : Bool) (l3 : List Int) :
    joinS on1 l1 (on2 || on3) (joinS on2 l2 on3 l3) = joinS (on1 || on2) (joinS on1 l1 on2 l2) on3 l3 := by
  refine tabG_congr (by rw [joinS_sz, joinS_sz, Nat.max_assoc]) fun k => ?_
  dsimp only
  rw [joinS_at, joinS_at, sS_of (or_lt (sS_lt _) (sS_lt _)), sS_of (or_lt (sS_lt _) (sS_lt _)), Nat.or_assoc]
theorem joinF_assoc (on1 : Bool) (l1 : List V) (on2 : Bool) (l2 : List V) (on3 : Bool) (l3 : List V) :
    joinF on1 l1 (on2 || on3) (joinF on2 l2 on3 l3) = joinF (on1 || on2) (joinF on1 l1 on2 l2) on3 l3 := by
  refine tabG_congr (by rw [joinF_sz, joinF_sz, Nat.max_assoc]) fun k => ?_
  rw [joinF_at, joinF_at, join_assoc]
theorem leqN_refl (a : Nat) : leqN a a = true := by simp [leqN]
theorem leqN_trans {a b c : Nat} (ha : a < 8) (hb : b < 8) (hc : c < 8) (h1 : leqN a b = true) (h2 : leqN b c = true) : leqN a c = true := by
  have h : ∀ x y z : Fin 8, leqN x.val y.val = true → leqN y.val z.val = true → leqN x.val z.val = true := by decide
  exact h ⟨a, ha⟩ ⟨b, hb⟩ ⟨c, hc⟩ h1 h2
theorem leqN_or {a b c : Nat} (ha : a < 8) (hb : b < 8) (hc : c < 8) : leqN (a ||| b) c = (leqN a c && leqN b c) := by
  have h : ∀ x y z : Fin 8, leqN (x.val ||| y.val) z.val = (leqN x.val z.val && leqN y.val z.val) := by decide
  exact h ⟨a, ha⟩ ⟨b, hb⟩ ⟨c, hc⟩
theorem leqS_refl (on : Bool) (l : List Int) : leqS on l on l = true := (leqS_iff _ _ _ _).2 ⟨id, fun _ => leqN_refl _⟩
theorem leqF_refl (on : Bool) (l : List V) : leqF on l on l = true := (leqF_iff _ _ _ _).2 ⟨id, fun _ => leq_refl _⟩
theorem leqS_none (on : Bool) (l : List Int) : leqS false [] on l = true := (leqS_iff _ _ _ _).2 ⟨fun h => (Bool.false_ne_true h).elim, fun _ => by rw [atG_off]; exact leqN_zero _⟩
theorem leqF_none (on : Bool) (l : List V) : leqF false [] on l = true := (leqF_iff _ _ _ _).2 ⟨fun h => (Bool.false_ne_true h).elim, fun _ => by rw [atG_off]; exact leq_bot _⟩
theorem leqS_trans {on1 on2 on3 : Bool} {l1 l2 l3 : List Int} (h1 : leqS on1 l1 on2 l2 = true) (h2 : leqS on2 l2 on3 l3 = true) : leqS on1 l1 on3 l3 = true := by
  rw [leqS_iff] at *
  exact ⟨fun h => h2.1 (h1.1 h), fun k => leqN_trans (sS_lt _) (sS_lt _) (sS_lt _) (h1.2 k) (h2.2 k)⟩
theorem leqF_trans {on1 on2 on3 : Bool} {l1 l2 l3 : List V} (h1 : leqF on1 l1 on2 l2 = true) (h2 : leqF on2 l2 on3 l3 = true) : leqF on1 l1 on3 l3 = true := by
  rw [leqF_iff] at *
  exact ⟨fun h => h2.1 (h1.1 h), fun k => leq_trans (h1.2 k) (h2.2 k)⟩
theorem leqS_join (on1 : Bool) (l1 : List Int) (on2 : Bool) (l2 : List Int) (on3 : Bool) (l3 : List Int) : leqS (on1 || on2) (joinS on1 l1 on2 l2) on3 l3 = (leqS on1 l1 on3 l3 && leqS on2 l2 on3 l3) := by
  rw [Bool.eq_iff_iff, Bool.and_eq_true, leqS_iff, leqS_iff, leqS_iff]
  have e : ∀ k : Nat, leqN (sS (atG 0 (on1 || on2) (joinS on1 l1 on2 l2) (k : Int))) (sS (atG 0 on3 l3 (k : Int))) = (leqN (sS (atG 0 on1 l1 (k : Int))) (sS (atG 0 on3 l3 (k : Int))) && leqN (sS (atG 0 on2 l2 (k : Int))) (sS (atG 0 on3 l3 (k : Int)))) := fun k => by
    rw [joinS_at, sS_of (or_lt (sS_lt _) (sS_lt _)), leqN_or (sS_lt _) (sS_lt _) (sS_lt _)]
  constructor
  · rintro ⟨h1, h2⟩
    have h3 : ∀ k : Nat, _ := fun k => by have := h2 k; rw [e, Bool.and_eq_true] at this; exact this
    exact ⟨⟨fun h => h1 (by rw [h]; rfl), fun k => (h3 k).1⟩, ⟨fun h => h1 (by rw [h, Bool.or_true]), fun k => (h3 k).2⟩⟩
  · rintro ⟨⟨h1, h2⟩, ⟨h3, h4⟩⟩
    exact ⟨fun h => by rw [Bool.or_eq_true] at h; exact h.elim h1 h3, fun k => by rw [e, h2 k, h4 k]; rfl⟩
theorem leqF_join (on1 : Bool) (l1 : List V) (on2 : Bool) (l2 : List V) (on3 : Bool) (l3 : List V) : leqF (on1 || on2) (joinF on1 l1 on2 l2) on3 l3 = (leqF on1 l1 on3 l3 && leqF on2 l2 on3 l3) := by
  rw [Bool.eq_iff_iff, Bool.and_eq_true, leqF_iff, leqF_iff, leqF_iff]
  have e : ∀ k : Nat, leq (atG vbot (on1 || on2) (joinF on1 l1 on2 l2) (k : Int)) (atG vbot on3 l3 (k : Int)) = (leq (atG vbot on1 l1 (k : Int)) (atG vbot on3 l3 (k : Int)) && leq (atG vbot on2 l2 (k : Int)) (atG vbot on3 l3 (k : Int))) := fun k => by
    rw [joinF_at, leq_join]
  constructor
  · rintro ⟨h1, h2⟩
    have h3 : ∀ k : Nat, _ := fun k => by have := h2 k; rw [e, Bool.and_eq_true] at this; exact this
    exact ⟨⟨fun h => h1 (by rw [h]; rfl), fun k => (h3 k).1⟩, ⟨fun h => h1 (by rw [h, Bool.or_true]), fun k => (h3 k).2⟩⟩
  · rintro ⟨⟨h1, h2⟩, ⟨h3, h4⟩⟩
    exact ⟨fun h => by rw [Bool.or_eq_true] at h; exact h.elim h1 h3, fun k => by rw [e, h2 k, h4 k]; rfl⟩
theorem leqF_left (on1 : Bool) (l1 : List V) (on2 : Bool) (l2 : List V) (on : Bool) (l : List V) (ho : (on1 || on2) = on) (hl : joinF on1 l1 on2 l2 = l) : leqF on1 l1 on l = true := by
  subst ho hl
  have h := leqF_join on1 l1 on2 l2 (on1 || on2) (joinF on1 l1 on2 l2)
  rw [leqF_refl] at h
  exact (Bool.and_eq_true _ _ ▸ h.symm).1
theorem leqF_right (on1 : Bool) (l1 : List V) (on2 : Bool) (l2 : List V) (on : Bool) (l : List V) (ho : (on1 || on2) = on) (hl : joinF on1 l1 on2 l2 = l) : leqF on2 l2 on l = true := by
  subst ho hl
  have h := leqF_join on1 l1 on2 l2 (on1 || on2) (joinF on1 l1 on2 l2)
  rw [leqF_refl] at h
  exact (Bool.and_eq_true _ _ ▸ h.symm).2
theorem join_bot_right (v : V) : join v vbot = v.sn := by
  rw [join_J, sn_of vbot_sane]
  rcases V.cases (sn_sane v) with h | h | ⟨n, _, _, h⟩ <;> rw [h] <;> simp [J, leV, vbot, vtop]
theorem join_bot_left (v : V) : join vbot v = v.sn := by rw [← join_comm, join_bot_right]
theorem join_sn (a b : V) : join a.sn b.sn = join a b := by rw [join_J, join_J, sn_sn, sn_sn]
theorem leq_sn_sn (a b : V) : leq a.sn b.sn = leq a b := by rw [leq_sn, leq_sn, sn_sn, sn_sn]
theorem leq_top (v : V) : leq v vtop = true := by rw [leq_sn, sn_of vtop_sane]; simp [leV, vtop]
/-- Set lower, or higher, is below, or above. -/
theorem leqF_set {on : Bool} {l : List V} {i : Int} {u v : V} (h : leq u v = true) : leqF on (setF on l i u) on (setF on l i v) = true := by
  rw [leqF_iff]
  refine ⟨id, fun k => ?_⟩
  rw [setF_at, setF_at]
  split
  · rw [leq_sn_sn]; exact h
  · exact leq_refl _
end Go.Proofs.YtmcbedlmgffckaaGreatDoor

namespace Go.Proofs.YtmcbedlmgffckaaGreatDoor
open Go Go.RowKit Go.Sort

set_option maxHeartbeats 2000000 in
theorem rval_any (v : V) (w : World) :
    Calls Tryz.prog 48 #[v.val] w fun e w' => e = .returned v.sn.val ∧ Below w.heap.size w w' := by
  have HC : Hid (∀ W, Calls Tryz.prog 46 #[v.val, .agg #[.int .i64 0, .int .i64 0]] W fun e w' => e = .returned v.sn.val ∧ Below W.heap.size W w') := fun W => by
    have := rJoin_any v vbot W
    rw [join_bot_right] at this
    exact this
  generalize v.sn = u at *
  obtain ⟨k, c⟩ := v
  obtain ⟨x, y⟩ := u
  unfold V.val at HC ⊢
  have BV := (Box.new w (.int .i64 k) (.int .i64 c) 53).alloc (.cells #[.int .i64 0, .int .i64 0] 53)
  have BR := Box.new (w.alloc (.cells #[.int .i64 k, .int .i64 c] 53)) (.int .i64 0) (.int .i64 0) 53
  have hW := below2 w (.cells #[.int .i64 k, .int .i64 c] 53) (.cells #[.int .i64 0, .int .i64 0] 53)
  rw [World.size_alloc] at BR
  generalize hE : (w.alloc (.cells #[.int .i64 k, .int .i64 c] 53)).alloc (.cells #[.int .i64 0, .int .i64 0] 53) = W at *
  have HW := Lib.hid hW
  obtain ⟨c0, c1, -, -⟩ := id BV
  clear hW
  go_enter Tryz.func48, Tryz.ntmps48
  go_wp2_with (go_at_call 46; refine (HC.out _).mono ?_; clear HC c0 c1; rintro e w1 ⟨rfl, hb⟩; obtain ⟨d2, d3, g2, g3⟩ := BR.below hb BR.lt; have HB := Lib.hid (HW.out.trans (hb.mono HW.out.size)); clear hb BV BR)
  have hb2 := below_put2 HB.out (b := w.heap.size + 1) (by omega) (.int .i64 x) (.int .i64 y)
  exact bodyPost_ret (v := .agg #[.int .i64 x, .int .i64 y]) (by simp [results, Tryz.results48, go_sem, d2, d3]) rfl ⟨rfl, hb2⟩

set_option maxHeartbeats 2000000 in
theorem rset_any (s : Int) (w : World) :
    Calls Tryz.prog 64 #[.int .i64 s] w fun e w' => e = .returned (.int .i64 (sS s : Nat)) ∧ Below w.heap.size w w' := by
  have HC : Hid (∀ W, Calls Tryz.prog 94 #[.int .i64 s, .int .i64 0] W fun e w' => e = .returned (.int .i64 (sS s : Nat)) ∧ Below W.heap.size W w') := fun W => by
    have := hJoin_any s 0 W
    rw [sS_zero, Nat.or_zero] at this
    exact this
  generalize sS s = u at *
  go_enter Tryz.func64, Tryz.ntmps64
  go_wp2_with (go_at_call 94; refine (HC.out _).mono ?_; clear HC; rintro e w1 ⟨rfl, hb⟩)
  go_ret
  exact ⟨rfl, hb⟩

set_option maxRecDepth 100000 in
set_option maxHeartbeats 4000000 in
theorem rGetF_any (on : Bool) (a : Option Addr) (n cap : Nat) (l : List V) (i : Int) (w : World) (h : FE w a n l) :
    Calls Tryz.prog 47 #[.agg #[.bool on, .slice a n cap], .int .i64 i] w fun e w' => e = .returned (atG vbot on l i).sn.val ∧ Below w.heap.size w w' := by
  obtain ⟨hF, hn⟩ := h
  have HF := Lib.hid hF
  have HN := Lib.hid hn
  have BE := (Box.new w (.bool on) (.slice a n cap) 24).alloc (.cells #[.int .i64 0, .int .i64 0] 53)
  have BR := Box.new (w.alloc (.cells #[.bool on, .slice a n cap] 24)) (.int .i64 0) (.int .i64 0) 53
  have hW := below2 w (.cells #[.bool on, .slice a n cap] 24) (.cells #[.int .i64 0, .int .i64 0] 53)
  rw [World.size_alloc] at BR
  generalize hE : (w.alloc (.cells #[.bool on, .slice a n cap] 24)).alloc (.cells #[.int .i64 0, .int .i64 0] 53) = W at *
  have HW := Lib.hid hW
  clear hW hF hn
  obtain ⟨c0, c1, -, -⟩ := id BE
  cases on with
  | false =>
    rw [atG_off]
    rw [sn_of vbot_sane]
    obtain ⟨d2, d3, g2, g3⟩ := id BR
    have hbz := Lib.hid (below_put2 HW.out (b := w.heap.size + 1) (by omega) (.int .i64 0) (.int .i64 0))
    go_enter Tryz.func47, Tryz.ntmps47
    go_wp2_with fail
    exact bodyPost_ret (v := vbot.val) (by simp [results, Tryz.results47, go_sem, d2, d3, V.val, vbot]) rfl ⟨rfl, hbz.out⟩
  | true =>
    by_cases h0 : i < 0
    · rw [atG_neg h0]
      rw [sn_of vbot_sane]
      obtain ⟨d2, d3, g2, g3⟩ := id BR
      have hbz := Lib.hid (below_put2 HW.out (b := w.heap.size + 1) (by omega) (.int .i64 0) (.int .i64 0))
      go_enter Tryz.func47, Tryz.ntmps47
      go_wp2_with fail
      exact bodyPost_ret (v := vbot.val) (by simp [results, Tryz.results47, go_sem, d2, d3, V.val, vbot]) rfl ⟨rfl, hbz.out⟩
    · by_cases h1 : (n : Int) ≤ i
      · rw [atG_ge (show (szG true l : Int) ≤ i by unfold szG; rw [if_pos rfl, HN.out]; exact h1)]
        rw [sn_of vbot_sane]
        have h0' : 0 ≤ i := by omega
        clear h0
        obtain ⟨d2, d3, g2, g3⟩ := id BR
        have hbz := Lib.hid (below_put2 HW.out (b := w.heap.size + 1) (by omega) (.int .i64 0) (.int .i64 0))
        go_enter Tryz.func47, Tryz.ntmps47
        go_wp2_with fail
        exact bodyPost_ret (v := vbot.val) (by simp [results, Tryz.results47, go_sem, d2, d3, V.val, vbot]) rfl ⟨rfl, hbz.out⟩
      · obtain ⟨k, rfl⟩ : ∃ k : Nat, i = (k : Int) := ⟨i.toNat, by omega⟩
        have hk : k < l.length := by rw [HN.out]; omega
        have hkn : k < n := by omega
        have hki : (k : Int) < (n : Int) := by omega
        rw [atG_in hk]
        obtain ⟨b, o, rfl, hlt, e0, e1⟩ := HF.out k hk
        have HC := Lib.hid (fun W => rval_any (l[k]?.getD vbot) W)
        have HT : Hid (∃ u, (l[k]?.getD vbot).sn = u) := ⟨_, rfl⟩
        obtain ⟨u, hu⟩ := HT.out
        rw [hu] at HC ⊢
        generalize l[k]?.getD vbot = v at *
        obtain ⟨x, y⟩ := v
        obtain ⟨x', y'⟩ := u
        unfold V.val at HC ⊢
        have x0 := (HW.out.cell (p := ⟨b, o + k * 2, none⟩) hlt).trans e0
        have x1 := (HW.out.cell (p := ⟨b, o + k * 2 + 1, none⟩) hlt).trans e1
        clear e0 e1 h0 h1 hk hu HT HF
        go_enter Tryz.func47, Tryz.ntmps47
        go_wp2_with (go_at_call 48; refine (HC.out _).mono ?_; clear HC c0 c1 x0 x1; rintro e w1 ⟨rfl, hb⟩; obtain ⟨d2, d3, g2, g3⟩ := BR.below hb BR.lt; have HB := Lib.hid (HW.out.trans (hb.mono HW.out.size)); clear hb BE BR)
        have hb2 := below_put2 HB.out (b := w.heap.size + 1) (by omega) (.int .i64 x') (.int .i64 y')
        exact bodyPost_ret (v := .agg #[.int .i64 x', .int .i64 y']) (by simp [results, Tryz.results47, go_sem, d2, d3]) rfl ⟨rfl, hb2⟩

set_option maxRecDepth 100000 in
set_option maxHeartbeats 4000000 in
theorem rGetS_any (on : Bool) (a : Option Addr) (n cap : Nat) (l : List Int) (i : Int) (w : World) (h : SE w a n l) :
    Calls Tryz.prog 63 #[.agg #[.bool on, .slice a n cap], .int .i64 i] w fun e w' => e = .returned (.int .i64 (sS (atG 0 on l i) : Nat)) ∧ Below w.heap.size w w' := by
  obtain ⟨hF, hn⟩ := h
  have HF := Lib.hid hF
  have HN := Lib.hid hn
  have BE := Box.new w (.bool on) (.slice a n cap) 27
  have hW := below1 w (.cells #[.bool on, .slice a n cap] 27)
  generalize hE : w.alloc (.cells #[.bool on, .slice a n cap] 27) = W at *
  have HW := Lib.hid hW
  clear hW hF hn
  obtain ⟨c0, c1, -, -⟩ := id BE
  cases on with
  | false =>
    rw [atG_off]
    rw [sS_zero]
    go_enter Tryz.func63, Tryz.ntmps63
    go_wp2_with fail
    go_ret
    exact ⟨rfl, HW.out⟩
  | true =>
    by_cases h0 : i < 0
    · rw [atG_neg h0]
      rw [sS_zero]
      go_enter Tryz.func63, Tryz.ntmps63
      go_wp2_with fail
      go_ret
      exact ⟨rfl, HW.out⟩
    · by_cases h1 : (n : Int) ≤ i
      · rw [atG_ge (show (szG true l : Int) ≤ i by unfold szG; rw [if_pos rfl, HN.out]; exact h1)]
        rw [sS_zero]
        have h0' : 0 ≤ i := by omega
        clear h0
        go_enter Tryz.func63, Tryz.ntmps63
        go_wp2_with fail
        go_ret
        exact ⟨rfl, HW.out⟩
      · obtain ⟨k, rfl⟩ : ∃ k : Nat, i = (k : Int) := ⟨i.toNat, by omega⟩
        have hk : k < l.length := by rw [HN.out]; omega
        have hkn : k < n := by omega
        have hki : (k : Int) < (n : Int) := by omega
        rw [atG_in hk]
        obtain ⟨b, o, rfl, hlt, e0⟩ := HF.out k hk
        have HC := Lib.hid (fun W => rset_any (l[k]?.getD 0) W)
        generalize sS (l[k]?.getD 0) = u at *
        generalize l[k]?.getD 0 = x at *
        have x0 := (HW.out.cell (p := ⟨b, o + k, none⟩) hlt).trans e0
        clear e0 h0 h1 hk HF
        go_enter Tryz.func63, Tryz.ntmps63
        go_wp2_with (go_at_call 64; refine (HC.out _).mono ?_; clear HC c0 c1 x0; rintro e w1 ⟨rfl, hb⟩; have HB := Lib.hid (HW.out.trans (hb.mono HW.out.size)); clear hb BE)
        go_ret
        exact ⟨rfl, HB.out⟩

end Go.Proofs.YtmcbedlmgffckaaGreatDoor

namespace Go.Proofs.YtmcbedlmgffckaaGreatDoor
open Go Go.RowKit Go.Sort

/-- With values that may be. -/
def ownLF (on : Bool) (l : List V) : List V := if on then tabG (fun j => (atG vbot true l (j : Int)).sn) l.length else []
def ownLS (on : Bool) (l : List Int) : List Int := if on then tabG (fun j => ((sS (atG 0 true l (j : Int)) : Nat) : Int)) l.length else []
theorem ownLF_len (on : Bool) (l : List V) : (ownLF on l).length = szG on l := by cases on <;> simp [ownLF, szG, tabG_length]
theorem ownLS_len (on : Bool) (l : List Int) : (ownLS on l).length = szG on l := by cases on <;> simp [ownLS, szG, tabG_length]
theorem encS_snoc (l : List Int) (x : Int) : (l ++ [x]).map (Value.int .i64) = l.map (Value.int .i64) ++ [.int .i64 x] := by simp

theorem rownF_off (a : Option Addr) (n cap : Nat) (w : World) :
    Calls Tryz.prog 45 #[.agg #[.bool false, .slice a n cap]] w fun e w' => e = .returned (.agg #[.bool false, .slice none 0 0]) ∧ Below w.heap.size w w' := by
  have HW := Lib.hid (below2 w (.cells #[.bool false, .slice a n cap] 24) (.cells #[.bool false, .slice none 0 0] 24))
  go_enter Tryz.func45, Tryz.ntmps45
  go_wp2_with fail
  exact bodyPost_ret (v := .agg #[.bool false, .slice none 0 0]) (by simp [results, Tryz.results45, go_sem]) rfl ⟨rfl, HW.out⟩

set_option maxRecDepth 100000 in
set_option maxHeartbeats 8000000 in
theorem rownF_on (a : Option Addr) (n cap : Nat) (l : List V) (w : World) (h : FE w a n l) (hl : n ≤ 200) (f : Nat → V) (hf : ∀ j : Nat, (atG vbot true l (j : Int)).sn = f j) :
    Calls Tryz.prog 45 #[.agg #[.bool true, .slice a n cap]] w fun e w' => ∃ a' cap', e = .returned (.agg #[.bool true, .slice a' n cap']) ∧ OwnF 53 w.heap.size w' a' (tabG f n) ∧ Below w.heap.size w w' := by
  have HG : Hid (∀ (j : Nat) W, Below w.heap.size w W → Calls Tryz.prog 47 #[.agg #[.bool true, .slice a n cap], .int .i64 (j : Int)] W fun e w' => e = .returned (f j).val ∧ Below W.heap.size W w') := fun j W hW => by
    have := rGetF_any true a n cap l (j : Int) W (h.below hW)
    rw [← hf j]; exact this
  have BE := ((Box.new w (.bool true) (.slice a n cap) 24).alloc (.cells #[.bool false, .slice none 0 0] 24)).alloc (.cells #[.bool true, .slice none 0 0] 24)
  have BR := (Box.new (w.alloc (.cells #[.bool true, .slice a n cap] 24)) (.bool false) (.slice none 0 0) 24).alloc (.cells #[.bool true, .slice none 0 0] 24)
  have BO := Box.new ((w.alloc (.cells #[.bool true, .slice a n cap] 24)).alloc (.cells #[.bool false, .slice none 0 0] 24)) (.bool true) (.slice none 0 0) 24
  have hW := below3 w (.cells #[.bool true, .slice a n cap] 24) (.cells #[.bool false, .slice none 0 0] 24) (.cells #[.bool true, .slice none 0 0] 24)
  have hsz : (((w.alloc (.cells #[.bool true, .slice a n cap] 24)).alloc (.cells #[.bool false, .slice none 0 0] 24)).alloc (.cells #[.bool true, .slice none 0 0] 24)).heap.size = w.heap.size + 3 := by simp
  simp only [World.size_alloc] at BR BO
  have HW := Lib.hid hW
  have HZ := Lib.hid hsz
  have HE := Lib.hid BE
  have HR := Lib.hid BR
  have HO := Lib.hid BO
  obtain ⟨c0, c1, -, -⟩ := (Box.new w (.bool true) (.slice a n cap) 24).alloc (.cells #[.bool false, .slice none 0 0] 24)
  clear hW hsz BR BO BE h hf
  obtain ⟨i0, hi, hz0, hz1, hz2⟩ := info_parts infoR
  go_enter Tryz.func45, Tryz.ntmps45
  go_wp2_with fail
  generalize hE : ((w.alloc (.cells #[.bool true, .slice a n cap] 24)).alloc (.cells #[.bool false, .slice none 0 0] 24)).alloc (.cells #[.bool true, .slice none 0 0] 24) = W at *
  clear hE c0 c1
  go_loopw [4] (fun i wr => ∃ (j : Nat) (v : Value), j ≤ n ∧ i = .int .i64 j ∧ Hid (wr.ownsRow (w.heap.size + 3) 53 2 v j (encF (tabG f j))) ∧ Hid (Box wr (w.heap.size + 1 + 1) (.bool true) v) ∧ Hid (Box wr w.heap.size (.bool true) (.slice a n cap)) ∧ Hid (Box wr (w.heap.size + 1) (.bool false) (.slice none 0 0)) ∧ Hid (Below w.heap.size w wr) ∧ Hid (w.heap.size + 3 ≤ wr.heap.size)) (fun i _ => n - (intOf i).toNat)
  case atStart => exact ⟨0, .slice none 0 0, Nat.zero_le _, rfl, World.ownsRow_nil _ _ _ _, HO, HE, HR, HW, by show _ ≤ _; rw [HZ.out]; exact Nat.le_refl _⟩
  case round =>
    clear HO HE HR HW HZ
    obtain ⟨j, v, hj, rfl, hown, hO, hE, hR, hBw, hsz⟩ := hrel
    obtain ⟨c0, c1, -, -⟩ := id hE.out
    by_cases hlt : j < n
    · have hji : (j : Int) < (n : Int) := by omega
      have q1 := Lib.hid (fun W (hb : Below wr.heap.size wr W) => HG.out j W (hBw.out.trans (hb.mono hBw.out.size)))
      obtain ⟨fj, hfj⟩ : ∃ u, f j = u := ⟨_, rfl⟩
      have henc : (encF (tabG f (j + 1))) = (encF (tabG f j)) ++ [.int .i64 fj.k, .int .i64 fj.c] := by rw [tabG_succ, hfj, encF_snoc]
      rw [hfj] at q1
      obtain ⟨x, y⟩ := fj
      unfold V.val at q1
      have HENC := Lib.hid henc
      have hsz' := hsz.out
      have h63 : j + 1 ≤ maxLen := by unfold maxLen; omega
      have hby : (j + 1) * 16 ≤ 140737488355328 := by omega
      have hS : Hid (∀ w', Below (w.heap.size + 3) wr w' → w'.cell? ⟨w.heap.size + 1 + 1, 1, none⟩ = some v ∧ w'.cell? ⟨w.heap.size, 0, none⟩ = some (.bool true) ∧ w'.cell? ⟨w.heap.size, 1, none⟩ = some (.slice a n cap)) := fun w' hb' =>
        ⟨(hO.out.below hb' (by omega)).c1, (hE.out.below hb' (by omega)).c0, (hE.out.below hb' (by omega)).c1⟩
      have HBN : Hid (Below wr.heap.size wr wr.drew) := (Below.refl _ _).drew
      clear henc hfj
      go_wp2_with fail
      clear c0 c1
      refine wp_region_late (fun w' => w'.cell? ⟨w.heap.size + 1 + 1, 1, none⟩ = some v ∧ w'.cell? ⟨w.heap.size, 0, none⟩ = some (.bool true) ∧ w'.cell? ⟨w.heap.size, 1, none⟩ = some (.slice a n cap)) 7 (by kernel_rfl) (hS.out _ (Below.refl _ _).drew) (fun hHeld => ?_)
      refine wpAnyE_take (i := 0) (v := ?v0) rfl (by kernel_rfl) (fun _ _ _ h => h) hHeld (by rfl) ?y0 ?_
      case y0 => (intro w' hSw; (try dsimp only at hSw); go_simp <;> with_reducible rfl)
      refine wpAnyE_take (i := 1) (v := ?v1) rfl (by kernel_rfl) (fun _ _ _ h => h) hHeld (by rfl) ?y1 ?_
      case y1 => (intro w' hSw; (try dsimp only at hSw); go_simp <;> with_reducible rfl)
      refine wpAnyE_take (i := 2) (v := ?v2) rfl (by kernel_rfl) (fun _ _ _ h => h) hHeld (by rfl) ?y2 ?_
      case y2 => (intro w' hSw; (try dsimp only at hSw); go_simp <;> with_reducible rfl)
      refine wpAnyE_take (i := 3) (v := ?v3) rfl (by kernel_rfl) (fun _ _ _ h => h) hHeld (by rfl) ?y3 ?_
      case y3 => (intro w' hSw; (try dsimp only at hSw); go_simp <;> with_reducible rfl)
      refine wpAnyE_one (i := 4) (by kernel_rfl) rfl (fun K hK => ?_)
      go_simp
      go_at_call 47
      refine (q1.out _ HBN.out).mono ?_
      rintro e wn ⟨rfl, hbn⟩
      have hbx := HBN.out.trans (hbn.mono HBN.out.size)
      clear HBN hbn
      have HBN := Lib.hid hbx
      clear hbx
      go_wp2_with fail
      refine hK.out _ _ ?_ (fun hHeld => ?_)
      · exact hS.out _ (HBN.out.mono hsz')
      clear hK K
      refine wpAnyE_one (i := 5) (by kernel_rfl) rfl (fun K hK => ?_)
      go_simp
      refine hK.out _ _ ?_ (fun hHeld => ?_)
      · exact hS.out _ ((HBN.out.mono hsz').alloc (Nat.le_trans hsz' HBN.out.size) _)
      clear hK K
      refine wpAnyE_one (i := 6) (by kernel_rfl) rfl (fun K hK => ?_)
      refine step_append_lies _ (by rfl) _ _ _ (by rfl) (w.heap.size + 3) 53 i0 _ 2 16 Tryz.underlying22 hi hz0 hz1 hz2 rfl (by omega) v j (encF (tabG f j)) (by rfl) (owns_below' (owns_below' hown.out HBN.out) ((Below.refl _ wn).alloc (Nat.le_refl _) _)) ⟨wn.heap.size, 0, none⟩ 1 1 [.int .i64 x, .int .i64 y] (by rfl) (by rfl) (World.news_of_block (cs := #[.int .i64 x, .int .i64 y]) (t := 53) (fr := (0, 0)) (heap_alloc_new wn _)) (by simp [Value.oneCell']) (by omega) h63 hby (by have := HBN.out.size; simp; omega) (wn.heap.size + 1) (by simp) ?_
      intro gg cp w1 hown1 hgrow hat hlt2
      have HB3 : Hid (Below (w.heap.size + 3) wr w1) := ((HBN.out.mono hsz').alloc (Nat.le_trans hsz' HBN.out.size) _).grown hgrow (by have := HBN.out.size; simp; omega) (fun k e => (hown.out.lt k e).1)
      have HOWN := Lib.hid hown1
      clear hown1 hgrow hat hlt2
      refine hK.out _ _ ?_ (fun hHeld => ?_)
      · exact hS.out _ HB3.out
      clear hK K
      refine wpAnyE_tail 7 (by decide) rfl (by kernel_rfl) ?_
      simp only [List.drop_succ_cons, List.drop_zero]
      have o3 := (hO.out.below HB3.out (by omega)).c1
      have f3 := (hO.out.below HB3.out (by omega)).f1
      go_wp2_with fail
      go_roundw
      case rel =>
        have hb := hBw.out.trans (HB3.out.mono (by omega))
        have hz := HB3.out.size
        refine ⟨j + 1, .slice (some ⟨gg, 0, none⟩) (j + 1) cp, by omega, by go_num, ?_, Lib.hid ((hO.out.below HB3.out (by omega)).put1 _), Lib.hid ((hE.out.below HB3.out (by omega)).far1 (by omega)), Lib.hid ((hR.out.below HB3.out (by omega)).far1 (by omega)), Lib.hid (hb.setCell (p := ⟨w.heap.size + 1 + 1, 1, none⟩) (by show w.heap.size ≤ w.heap.size + 1 + 1; omega) _), ?_⟩
        · show World.ownsRow _ _ _ _ _ _ _
          rw [HENC.out]
          exact owns_far HOWN.out (fun g h1 _ => heap_put1 _ _ _ _ _ (by omega))
        · show _ ≤ _
          rw [size_put1]; omega
      case measure => simp [intOf]; omega
    · obtain rfl : j = n := by omega
      obtain ⟨a', cap', rfl, hOwn⟩ := ownF_of hown.out (tabG_length f j)
      obtain ⟨o0, o1, -, -⟩ := id hO.out
      obtain ⟨r0, r1, f0, f1⟩ := id hR.out
      have HOwn := Lib.hid hOwn
      have hb2 := Lib.hid (below_put2 hBw.out (b := w.heap.size + 1) (by omega) (.bool true) (.slice a' j cap'))
      clear hOwn HG
      go_wp2_with fail
      refine bodyPost_ret (v := .agg #[.bool true, .slice a' j cap']) (by simp [results, Tryz.results45, go_sem, r0, r1]) rfl ⟨a', cap', rfl, ?_, hb2.out⟩
      exact HOwn.out.block (by omega) (fun g h1 _ => heap_put2 _ _ _ _ _ (by omega))

theorem rownF_any (on : Bool) (a : Option Addr) (n cap : Nat) (l : List V) (w : World) (h : FE w a n l) (hl : n ≤ 200) (m : Nat) (hm : szG on l = m) (l' : List V) (hl' : ownLF on l = l') :
    Calls Tryz.prog 45 #[.agg #[.bool on, .slice a n cap]] w fun e w' => ∃ a' cap', e = .returned (.agg #[.bool on, .slice a' m cap']) ∧ OwnF 53 w.heap.size w' a' l' ∧ Below w.heap.size w w' := by
  subst hm hl'
  cases on with
  | false =>
    refine (rownF_off a n cap w).mono ?_
    rintro e w' ⟨rfl, hb⟩
    exact ⟨none, 0, rfl, .inl rfl, hb⟩
  | true =>
    have hn := h.2
    refine (rownF_on a n cap l w h hl _ (fun _ => rfl)).mono ?_
    rintro e w' ⟨a', cap', rfl, hO, hb⟩
    refine ⟨a', cap', ?_, ?_, hb⟩
    · show _ = Ending.returned (.agg #[.bool true, .slice a' l.length cap'])
      rw [hn]
    · show OwnF _ _ _ _ (tabG _ l.length)
      rw [hn]; exact hO

theorem rownS_off (a : Option Addr) (n cap : Nat) (w : World) :
    Calls Tryz.prog 62 #[.agg #[.bool false, .slice a n cap]] w fun e w' => e = .returned (.agg #[.bool false, .slice none 0 0]) ∧ Below w.heap.size w w' := by
  have HW := Lib.hid (below2 w (.cells #[.bool false, .slice a n cap] 27) (.cells #[.bool false, .slice none 0 0] 27))
  go_enter Tryz.func62, Tryz.ntmps62
  go_wp2_with fail
  exact bodyPost_ret (v := .agg #[.bool false, .slice none 0 0]) (by simp [results, Tryz.results62, go_sem]) rfl ⟨rfl, HW.out⟩

set_option maxRecDepth 100000 in
set_option maxHeartbeats 8000000 in
theorem rownS_on (a : Option Addr) (n cap : Nat) (l : List Int) (w : World) (h : SE w a n l) (hl : n ≤ 200) (f : Nat → Int) (hf : ∀ j : Nat, ((sS (atG 0 true l (j : Int)) : Nat) : Int) = f j) :
    Calls Tryz.prog 62 #[.agg #[.bool true, .slice a n cap]] w fun e w' => ∃ a' cap', e = .returned (.agg #[.bool true, .slice a' n cap']) ∧ OwnS 3 w.heap.size w' a' (tabG f n) ∧ Below w.heap.size w w' := by
  have HG : Hid (∀ (j : Nat) W, Below w.heap.size w W → Calls Tryz.prog 63 #[.agg #[.bool true, .slice a n cap], .int .i64 (j : Int)] W fun e w' => e = .returned (.int .i64 (f j)) ∧ Below W.heap.size W w') := fun j W hW => by
    have := rGetS_any true a n cap l (j : Int) W (h.below hW)
    rw [← hf j]; exact this
  have BE := ((Box.new w (.bool true) (.slice a n cap) 27).alloc (.cells #[.bool false, .slice none 0 0] 27)).alloc (.cells #[.bool true, .slice none 0 0] 27)
  have BR := (Box.new (w.alloc (.cells #[.bool true, .slice a n cap] 27)) (.bool false) (.slice none 0 0) 27).alloc (.cells #[.bool true, .slice none 0 0] 27)
  have BO := Box.new ((w.alloc (.cells #[.bool true, .slice a n cap] 27)).alloc (.cells #[.bool false, .slice none 0 0] 27)) (.bool true) (.slice none 0 0) 27
  have hW := below3 w (.cells #[.bool true, .slice a n cap] 27) (.cells #[.bool false, .slice none 0 0] 27) (.cells #[.bool true, .slice none 0 0] 27)
  have hsz : (((w.alloc (.cells #[.bool true, .slice a n cap] 27)).alloc (.cells #[.bool false, .slice none 0 0] 27)).alloc (.cells #[.bool true, .slice none 0 0] 27)).heap.size = w.heap.size + 3 := by simp
  simp only [World.size_alloc] at BR BO
  have HW := Lib.hid hW
  have HZ := Lib.hid hsz
  have HE := Lib.hid BE
  have HR := Lib.hid BR
  have HO := Lib.hid BO
  obtain ⟨c0, c1, -, -⟩ := (Box.new w (.bool true) (.slice a n cap) 27).alloc (.cells #[.bool false, .slice none 0 0] 27)
  clear hW hsz BR BO BE h hf
  obtain ⟨i0, hi, hz0, hz1, hz2⟩ := info_parts info3
  go_enter Tryz.func62, Tryz.ntmps62
  go_wp2_with fail
  generalize hE : ((w.alloc (.cells #[.bool true, .slice a n cap] 27)).alloc (.cells #[.bool false, .slice none 0 0] 27)).alloc (.cells #[.bool true, .slice none 0 0] 27) = W at *
  clear hE c0 c1
  go_loopw [4] (fun i wr => ∃ (j : Nat) (v : Value), j ≤ n ∧ i = .int .i64 j ∧ Hid (wr.ownsRow (w.heap.size + 3) 3 1 v j ((tabG f j).map (Value.int .i64))) ∧ Hid (Box wr (w.heap.size + 1 + 1) (.bool true) v) ∧ Hid (Box wr w.heap.size (.bool true) (.slice a n cap)) ∧ Hid (Box wr (w.heap.size + 1) (.bool false) (.slice none 0 0)) ∧ Hid (Below w.heap.size w wr) ∧ Hid (w.heap.size + 3 ≤ wr.heap.size)) (fun i _ => n - (intOf i).toNat)
  case atStart => exact ⟨0, .slice none 0 0, Nat.zero_le _, rfl, World.ownsRow_nil _ _ _ _, HO, HE, HR, HW, by show _ ≤ _; rw [HZ.out]; exact Nat.le_refl _⟩
  case round =>
    clear HO HE HR HW HZ
    obtain ⟨j, v, hj, rfl, hown, hO, hE, hR, hBw, hsz⟩ := hrel
    obtain ⟨c0, c1, -, -⟩ := id hE.out
    by_cases hlt : j < n
    · have hji : (j : Int) < (n : Int) := by omega
      have q1 := Lib.hid (fun W (hb : Below wr.heap.size wr W) => HG.out j W (hBw.out.trans (hb.mono hBw.out.size)))
      obtain ⟨x, hfj⟩ : ∃ u, f j = u := ⟨_, rfl⟩
      have henc : ((tabG f (j + 1)).map (Value.int .i64)) = ((tabG f j).map (Value.int .i64)) ++ [.int .i64 x] := by rw [tabG_succ, hfj, encS_snoc]
      rw [hfj] at q1
      have hdes0 : True := trivial
      have hdes : True := trivial
      have HENC := Lib.hid henc
      have hsz' := hsz.out
      have h63 : j + 1 ≤ maxLen := by unfold maxLen; omega
      have hby : (j + 1) * 8 ≤ 140737488355328 := by omega
      have hS : Hid (∀ w', Below (w.heap.size + 3) wr w' → w'.cell? ⟨w.heap.size + 1 + 1, 1, none⟩ = some v ∧ w'.cell? ⟨w.heap.size, 0, none⟩ = some (.bool true) ∧ w'.cell? ⟨w.heap.size, 1, none⟩ = some (.slice a n cap)) := fun w' hb' =>
        ⟨(hO.out.below hb' (by omega)).c1, (hE.out.below hb' (by omega)).c0, (hE.out.below hb' (by omega)).c1⟩
      have HBN : Hid (Below wr.heap.size wr wr.drew) := (Below.refl _ _).drew
      clear henc hfj
      go_wp2_with fail
      clear c0 c1
      refine wp_region_late (fun w' => w'.cell? ⟨w.heap.size + 1 + 1, 1, none⟩ = some v ∧ w'.cell? ⟨w.heap.size, 0, none⟩ = some (.bool true) ∧ w'.cell? ⟨w.heap.size, 1, none⟩ = some (.slice a n cap)) 7 (by kernel_rfl) (hS.out _ (Below.refl _ _).drew) (fun hHeld => ?_)
      refine wpAnyE_take (i := 0) (v := ?v0) rfl (by kernel_rfl) (fun _ _ _ h => h) hHeld (by rfl) ?y0 ?_
      case y0 => (intro w' hSw; (try dsimp only at hSw); go_simp <;> with_reducible rfl)
      refine wpAnyE_take (i := 1) (v := ?v1) rfl (by kernel_rfl) (fun _ _ _ h => h) hHeld (by rfl) ?y1 ?_
      case y1 => (intro w' hSw; (try dsimp only at hSw); go_simp <;> with_reducible rfl)
      refine wpAnyE_take (i := 2) (v := ?v2) rfl (by kernel_rfl) (fun _ _ _ h => h) hHeld (by rfl) ?y2 ?_
      case y2 => (intro w' hSw; (try dsimp only at hSw); go_simp <;> with_reducible rfl)
      refine wpAnyE_take (i := 3) (v := ?v3) rfl (by kernel_rfl) (fun _ _ _ h => h) hHeld (by rfl) ?y3 ?_
      case y3 => (intro w' hSw; (try dsimp only at hSw); go_simp <;> with_reducible rfl)
      refine wpAnyE_one (i := 4) (by kernel_rfl) rfl (fun K hK => ?_)
      go_simp
      go_at_call 63
      refine (q1.out _ HBN.out).mono ?_
      rintro e wn ⟨rfl, hbn⟩
      have hbx := HBN.out.trans (hbn.mono HBN.out.size)
      clear HBN hbn
      have HBN := Lib.hid hbx
      clear hbx
      go_wp2_with fail
      refine hK.out _ _ ?_ (fun hHeld => ?_)
      · exact hS.out _ (HBN.out.mono hsz')
      clear hK K
      refine wpAnyE_one (i := 5) (by kernel_rfl) rfl (fun K hK => ?_)
      go_simp
      refine hK.out _ _ ?_ (fun hHeld => ?_)
      · exact hS.out _ ((HBN.out.mono hsz').alloc (Nat.le_trans hsz' HBN.out.size) _)
      clear hK K
      refine wpAnyE_one (i := 6) (by kernel_rfl) rfl (fun K hK => ?_)
      refine step_append_lies _ (by rfl) _ _ _ (by rfl) (w.heap.size + 3) 3 i0 _ 1 8 Tryz.underlying25 hi hz0 hz1 hz2 rfl (by omega) v j ((tabG f j).map (Value.int .i64)) (by rfl) (owns_below' (owns_below' hown.out HBN.out) ((Below.refl _ wn).alloc (Nat.le_refl _) _)) ⟨wn.heap.size, 0, none⟩ 1 1 [.int .i64 x] (by rfl) (by rfl) (World.news_of_block (cs := #[.int .i64 x]) (t := 3) (fr := (0, 0)) (heap_alloc_new wn _)) (by simp [Value.oneCell']) (by omega) h63 hby (by have := HBN.out.size; simp; omega) (wn.heap.size + 1) (by simp) ?_
      intro gg cp w1 hown1 hgrow hat hlt2
      have HB3 : Hid (Below (w.heap.size + 3) wr w1) := ((HBN.out.mono hsz').alloc (Nat.le_trans hsz' HBN.out.size) _).grown hgrow (by have := HBN.out.size; simp; omega) (fun k e => (hown.out.lt k e).1)
      have HOWN := Lib.hid hown1
      clear hown1 hgrow hat hlt2
      refine hK.out _ _ ?_ (fun hHeld => ?_)
      · exact hS.out _ HB3.out
      clear hK K
      refine wpAnyE_tail 7 (by decide) rfl (by kernel_rfl) ?_
      simp only [List.drop_succ_cons, List.drop_zero]
      have o3 := (hO.out.below HB3.out (by omega)).c1
      have f3 := (hO.out.below HB3.out (by omega)).f1
      go_wp2_with fail
      go_roundw
      case rel =>
        have hb := hBw.out.trans (HB3.out.mono (by omega))
        have hz := HB3.out.size
        refine ⟨j + 1, .slice (some ⟨gg, 0, none⟩) (j + 1) cp, by omega, by go_num, ?_, Lib.hid ((hO.out.below HB3.out (by omega)).put1 _), Lib.hid ((hE.out.below HB3.out (by omega)).far1 (by omega)), Lib.hid ((hR.out.below HB3.out (by omega)).far1 (by omega)), Lib.hid (hb.setCell (p := ⟨w.heap.size + 1 + 1, 1, none⟩) (by show w.heap.size ≤ w.heap.size + 1 + 1; omega) _), ?_⟩
        · show World.ownsRow _ _ _ _ _ _ _
          rw [HENC.out]
          exact owns_far HOWN.out (fun g h1 _ => heap_put1 _ _ _ _ _ (by omega))
        · show _ ≤ _
          rw [size_put1]; omega
      case measure => simp [intOf]; omega
    · obtain rfl : j = n := by omega
      obtain ⟨a', cap', rfl, hOwn⟩ := ownS_of hown.out (tabG_length f j)
      obtain ⟨o0, o1, -, -⟩ := id hO.out
      obtain ⟨r0, r1, f0, f1⟩ := id hR.out
      have HOwn := Lib.hid hOwn
      have hb2 := Lib.hid (below_put2 hBw.out (b := w.heap.size + 1) (by omega) (.bool true) (.slice a' j cap'))
      clear hOwn HG
      go_wp2_with fail
      refine bodyPost_ret (v := .agg #[.bool true, .slice a' j cap']) (by simp [results, Tryz.results62, go_sem, r0, r1]) rfl ⟨a', cap', rfl, ?_, hb2.out⟩
      exact HOwn.out.block (by omega) (fun g h1 _ => heap_put2 _ _ _ _ _ (by omega))

theorem rownS_any (on : Bool) (a : Option Addr) (n cap : Nat) (l : List Int) (w : World) (h : SE w a n l) (hl : n ≤ 200) (m : Nat) (hm : szG on l = m) (l' : List Int) (hl' : ownLS on l = l') :
    Calls Tryz.prog 62 #[.agg #[.bool on, .slice a n cap]] w fun e w' => ∃ a' cap', e = .returned (.agg #[.bool on, .slice a' m cap']) ∧ OwnS 3 w.heap.size w' a' l' ∧ Below w.heap.size w w' := by
  subst hm hl'
  cases on with
  | false =>
    refine (rownS_off a n cap w).mono ?_
    rintro e w' ⟨rfl, hb⟩
    exact ⟨none, 0, rfl, .inl rfl, hb⟩
  | true =>
    have hn := h.2
    refine (rownS_on a n cap l w h hl _ (fun _ => rfl)).mono ?_
    rintro e w' ⟨a', cap', rfl, hO, hb⟩
    refine ⟨a', cap', ?_, ?_, hb⟩
    · show _ = Ending.returned (.agg #[.bool true, .slice a' l.length cap'])
      rw [hn]
    · show OwnS _ _ _ _ (tabG _ l.length)
      rw [hn]; exact hO





end Go.Proofs.YtmcbedlmgffckaaGreatDoor

namespace Go.Proofs.YtmcbedlmgffckaaGreatDoor
open Go Go.RowKit Go.Sort

theorem joinF_offL (l1 : List V) (on2 : Bool) (l2 : List V) : joinF false l1 on2 l2 = ownLF on2 l2 := by
  cases on2 with
  | false => exact joinG_both_off _ _
  | true => exact tabG_congr (by simp [szG]) fun k => by rw [atG_off]; exact join_bot_left _
theorem joinF_offR (l1 l2 : List V) : joinF true l1 false l2 = ownLF true l1 :=
  tabG_congr (by simp [szG]) fun k => by rw [atG_off (l := l2)]; exact join_bot_right _
theorem joinS_offL (l1 : List Int) (on2 : Bool) (l2 : List Int) : joinS false l1 on2 l2 = ownLS on2 l2 := by
  cases on2 with
  | false => exact joinG_both_off _ _
  | true => exact tabG_congr (by simp [szG]) fun k => by dsimp only; rw [atG_off, sS_zero, Nat.zero_or]
theorem joinS_offR (l1 l2 : List Int) : joinS true l1 false l2 = ownLS true l1 :=
  tabG_congr (by simp [szG]) fun k => by dsimp only; rw [atG_off (l := l2), sS_zero, Nat.or_zero]
theorem setF_own (on : Bool) (l : List V) (i : Int) (v : V) : setF on l i v = putG (ownLF on l) i v.sn := by
  cases on with
  | true => rfl
  | false => simp [setF, ownLF, putG]
theorem setS_own (on : Bool) (l : List Int) (i v : Int) : setS on l i v = putG (ownLS on l) i ((sS v : Nat) : Int) := by
  cases on with
  | true => rfl
  | false => simp [setS, ownLS, putG]
theorem OwnF.below {t : TypeId} {n0 : Nat} {W W' : World} {a : Option Addr} {l : List V} (h : OwnF t n0 W a l) (hb : Below W.heap.size W W') : OwnF t n0 W' a l := h.block (Nat.le_refl _) fun g _ hl => hb.block g hl
theorem OwnS.below {t : TypeId} {n0 : Nat} {W W' : World} {a : Option Addr} {l : List Int} (h : OwnS t n0 W a l) (hb : Below W.heap.size W W') : OwnS t n0 W' a l := h.block (Nat.le_refl _) fun g _ hl => hb.block g hl

end Go.Proofs.YtmcbedlmgffckaaGreatDoor
