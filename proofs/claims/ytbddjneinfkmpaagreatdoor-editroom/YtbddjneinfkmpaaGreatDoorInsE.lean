/- Instructions: is a number in a list; each number once. -/
import Derived.Test.YtbddjneinfkmpaaGreatDoorInts
import Derived.Test.YtbddjneinfkmpaaGreatDoorInsD
namespace Go.Proofs.YtbddjneinfkmpaaGreatDoor.Bi
open Go Go.RowKit Go.Sort

theorem Tryd_info3 : (Tryz.prog.info? 3).map (fun i => (i.zero, i.size, i.bytes)) = some (some (.int .i64 0), 1, 8) := by kernel_rfl

set_option maxHeartbeats 4000000 in
theorem Index_any (a : Option Addr) (l : List Int) (cap : Nat) (x : Int) (w : World) (hIs : Is w.heap.size w a l) (L : Nat) (hL : l.length = L) (hl : L ≤ 1000) :
    Calls Tryz.prog 73 #[.slice a L cap, .int .i64 x] w fun e w' => (∃ z : Int, e = .returned (.int .i64 z) ∧ (0 ≤ z ↔ x ∈ l)) ∧ w' = w := by
  have HIs := Lib.hid hIs
  have HL := Lib.hid hL
  clear hIs hL
  go_enter Tryz.func73, Tryz.ntmps73
  go_wp2
  go_loop [8] (fun i => ∃ q : Nat, q ≤ L ∧ i = .int .i64 q ∧ Hid (∀ j : Nat, j < q → l[j]?.getD 0 ≠ x)) (fun i => L - (intOf i).toNat)
  case atStart => exact ⟨0, Nat.zero_le _, rfl, fun j hj => absurd hj (Nat.not_lt_zero _)⟩
  case round =>
    obtain ⟨q, hq, rfl, hne⟩ := hrel
    by_cases hlt : q < L
    · obtain ⟨b, o, rfl, hbl, hcell⟩ := HIs.out q (by rw [HL.out]; exact hlt)
      obtain ⟨y, hy⟩ : ∃ y, l[q]?.getD 0 = y := ⟨_, rfl⟩
      rw [hy] at hcell
      have HY := Lib.hid hy
      clear hy hbl
      have hqi : (q : Int) < (L : Int) := by omega
      by_cases hxy : x = y
      · subst hxy
        go_wp2
        go_ret
        refine ⟨⟨_, rfl, ?_⟩, rfl⟩
        constructor
        · intro _
          have hq2 : q < l.length := by rw [HL.out]; exact hlt
          have e := HY.out
          rw [List.getElem?_eq_getElem hq2] at e
          simp at e
          exact e ▸ List.getElem_mem hq2
        · intro _; omega
      · have hxy' : ¬ (x = y) := hxy
        go_wp2
        refine ⟨⟨q + 1, by omega, by go_num, fun j hj => ?_⟩, by simp [intOf]; omega⟩
        rcases Nat.lt_succ_iff_lt_or_eq.1 hj with h | rfl
        · exact hne.out j h
        · rw [HY.out]; exact fun e => hxy' e.symm
    · obtain rfl : q = L := by omega
      go_wp2
      go_ret
      refine ⟨⟨_, rfl, ?_⟩, rfl⟩
      constructor
      · intro h; omega
      · intro h
        obtain ⟨j, hj, e⟩ := List.getElem_of_mem h
        exact absurd (by rw [List.getElem?_eq_getElem hj]; simpa using e) (hne.out j (by rw [← HL.out]; exact hj))

set_option maxHeartbeats 4000000 in
theorem Contains_any (a : Option Addr) (l : List Int) (cap : Nat) (x : Int) (w : World) (hIs : Is w.heap.size w a l) (L : Nat) (hL : l.length = L) (hl : L ≤ 1000) (r : Bool) (hr : decide (x ∈ l) = r) :
    Calls Tryz.prog 66 #[.slice a L cap, .int .i64 x] w fun e w' => e = .returned (.bool r) ∧ w' = w := by
  have HC := Lib.hid (Index_any a l cap x w hIs L hL hl)
  have HR := Lib.hid hr
  clear hIs hL hr
  go_enter Tryz.func66, Tryz.ntmps66
  go_wp2_with (go_at_call 73; refine HC.out.mono ?_; rintro e w' ⟨⟨z, rfl, hz⟩, rfl⟩; have HZ := Lib.hid hz; clear hz)
  go_ret
  refine ⟨ret_bool ?_, rfl⟩
  rw [← HR.out, Bool.eq_iff_iff, decide_eq_true_eq, decide_eq_true_eq]
  exact HZ.out

def onceTo (l : List Int) (q : Nat) : List Int := (l.take q).foldl addL []
theorem onceTo_succ (l : List Int) (q : Nat) (h : q < l.length) (x : Int) (hx : l[q]?.getD 0 = x) : onceTo l (q + 1) = addL (onceTo l q) x := by
  unfold onceTo
  rw [List.take_succ_eq_append_getElem h, List.foldl_append]
  rw [List.getElem?_eq_getElem h] at hx
  simp at hx
  simp [hx]
theorem onceTo_le (l : List Int) : ∀ q, (onceTo l q).length ≤ q := by
  intro q
  induction q with
  | zero => simp [onceTo]
  | succ q ih =>
    by_cases h : q < l.length
    · rw [onceTo_succ l q h _ rfl]
      have := addL_length (onceTo l q) (l[q]?.getD 0)
      omega
    · have : onceTo l (q + 1) = onceTo l q := by unfold onceTo; rw [List.take_of_length_le (by omega), List.take_of_length_le (by omega)]
      rw [this]; omega
theorem onceTo_all {l : List Int} {L : Nat} (h : l.length = L) : onceTo l L = l.foldl addL [] := by unfold onceTo; rw [List.take_of_length_le (by omega)]

set_option maxHeartbeats 4000000 in
theorem once_any (a : Option Addr) (l : List Int) (cap : Nat) (w : World) (hIs : Is w.heap.size w a l) (L : Nat) (hL : l.length = L) (hl : L ≤ 100) :
    Calls Tryz.prog 179 #[.slice a L cap] w fun e w' => ∃ u, e = .returned u ∧ w'.ownsRow w.heap.size 3 1 u (l.foldl addL []).length ((l.foldl addL []).map (Value.int .i64)) ∧ Below w.heap.size w w' := by
  rw [← onceTo_all hL]
  have HIs := Lib.hid hIs
  have HL := Lib.hid hL
  clear hIs hL
  obtain ⟨i0, hi, hz0, hz1, hz2⟩ := info_parts Tryd_info3
  go_enter Tryz.func179, Tryz.ntmps179
  go_wp2
  go_loopw [3, 8] (fun v x wr => ∃ q : Nat, q ≤ L ∧ x = .int .i64 q ∧ Hid (wr.ownsRow w.heap.size 3 1 v (onceTo l q).length ((onceTo l q).map (Value.int .i64))) ∧ Hid (Below w.heap.size w wr)) (fun _ x _ => L - (intOf x).toNat)
  case atStart => exact ⟨0, Nat.zero_le _, rfl, World.ownsRow_nil _ _ _ _, Below.refl _ _⟩
  case round =>
    obtain ⟨q, hq, rfl, hown, hBw⟩ := hrel
    by_cases hlt : q < L
    · obtain ⟨b, o, rfl, hbl, hcell⟩ := HIs.out q (by rw [HL.out]; exact hlt)
      have hcx := (hBw.out.cell (p := ⟨b, o + q, none⟩) hbl).trans hcell
      obtain ⟨x, hx⟩ : ∃ x, l[q]?.getD 0 = x := ⟨_, rfl⟩
      have hks := onceTo_succ l q (by rw [HL.out]; exact hlt) x hx
      rw [hx] at hcx
      have hkl := onceTo_le l q
      have h63 : (onceTo l q).length + 1 ≤ maxLen := by unfold maxLen; omega
      have hby : ((onceTo l q).length + 1) * 8 ≤ 140737488355328 := by omega
      have hqi : (q : Int) < (L : Int) := by omega
      clear hcell hx
      obtain ⟨av, cv, rfl, hlv, hIv⟩ := is_of_ints hown.out
      by_cases hxi : x ∈ onceTo l q
      · have HC := Lib.hid (Contains_any av (onceTo l q) cv x _ hIv _ hlv (by omega) true (by simp [hxi]))
        unfold addL at hks
        rw [if_pos hxi] at hks
        have HKS := Lib.hid hks
        clear hks hxi hIv hlv
        go_wp2_with (go_at_call 66; refine HC.out.mono ?_; rintro e w' ⟨rfl, rfl⟩)
        go_roundw
        case rel => exact ⟨q + 1, by omega, by go_num, by rw [HKS.out]; exact hown, hBw⟩
        case measure => simp [intOf]; omega
      · have HC := Lib.hid (Contains_any av (onceTo l q) cv x _ hIv _ hlv (by omega) false (by simp [hxi]))
        unfold addL at hks
        rw [if_neg hxi] at hks
        have HKS := Lib.hid hks
        clear hks hxi hIv hlv
        go_wp2_with (first | (go_at_call 66; refine HC.out.mono ?_; rintro e w' ⟨rfl, rfl⟩) | (at_builtin; refine wpList_append_own _ rfl _ _ 33 rfl w.heap.size 3 i0 (.int .i64 0) 1 8 Tryz.underlying33 hi hz0 hz1 hz2 rfl (by decide) _ _ _ rfl (hown.out.alloc _) ⟨_, 0, none⟩ 1 1 [.int .i64 x] rfl rfl (cell_one_new _ _ _) (by simp [Value.oneCell']) h63 hby (by have := hBw.out.size; simp; omega) ?_; intro v' w4 hown' hgrow _; have HB4 := Lib.hid (owns_grown (hBw.out.alloc hBw.out.size _) (hown.out.alloc _) hgrow (by have := hBw.out.size; simp; omega)); have HO4 := Lib.hid hown'; clear hown' hgrow))
        go_roundw
        case rel =>
          refine ⟨q + 1, by omega, by go_num, ?_, HB4⟩
          rw [HKS.out]
          show w4.ownsRow w.heap.size 3 1 _ (onceTo l q ++ [x]).length ((onceTo l q ++ [x]).map (Value.int .i64))
          simpa using HO4.out
        case measure => simp [intOf]; omega
    · obtain rfl : q = L := by omega
      go_wp2_with fail
      go_ret
      exact ⟨_, rfl, hown.out, hBw.out⟩
end Go.Proofs.YtbddjneinfkmpaaGreatDoor.Bi
