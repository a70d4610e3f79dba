import Derived.Laws.AppendOwn
import Derived.Test.YtjlofjoekpoepaaDoorRb
import Derived.Test.YtjlofjoekpoepaaDoorS
namespace Go.Proofs.YtjlofjoekpoepaaDoor
open Go Go.RowKit Go.Sort

theorem range_cut {n : Nat} {ws : List Nat} (h : Ok n ws) {M : Nat} (hM : n ≤ M) : (List.range M).filter (fun i => bitAt ws i) = (List.range n).filter (fun i => bitAt ws i) := by
  have e : List.range M = List.range n ++ (List.range (M - n)).map (n + ·) := by
    rw [← List.range_add]; congr 1; omega
  rw [e, List.filter_append]
  have f : ((List.range (M - n)).map (n + ·)).filter (fun i => bitAt ws i) = [] := by
    rw [List.filter_eq_nil_iff]
    intro i hi
    obtain ⟨j, _, rfl⟩ := List.mem_map.1 hi
    rw [h.clear (by omega)]
    simp
  rw [f, List.append_nil]

theorem nums_upto {n : Nat} {ws : List Nat} (h : Ok n ws) : nums ws = (List.range n).filter (fun i => bitAt ws i) := by
  rw [nums_eq, range_cut h (by rw [h.len]; unfold wcount; omega)]

theorem owns_base {W : World} {b b' : Nat} {e : TypeId} {size n : Nat} {v : Value} {xs : List Value} (h : W.ownsRow b e size v n xs) (hb : b' ≤ b) : W.ownsRow b' e size v n xs :=
  ⟨h.1, h.2.imp id fun ⟨g, cap, cur, a, hg, r⟩ => ⟨g, cap, cur, a, Nat.le_trans hb hg, r⟩⟩

theorem owns_grown {w0 W W' : World} {b : Nat} {e : TypeId} {size n : Nat} {v : Value} {xs : List Value} (hB : Below b w0 W) (h : W.ownsRow b e size v n xs) (hg : W.grownBy W' v.ownBlock) (hb : b ≤ W.heap.size) : Below b w0 W' :=
  hB.grown hg hb (fun k e => (h.lt k e).1)

/-- The numbers below q that are told. -/
def told (p : Nat → Bool) (q : Nat) : List Nat := (List.range q).filter p
theorem told_succ (p : Nat → Bool) (q : Nat) : told p (q + 1) = told p q ++ (if p q then [q] else []) := by
  unfold told
  rw [List.range_succ, List.filter_append]
  congr 1
  cases h : p q <;> simp [h]
theorem told_le (p : Nat → Bool) (q : Nat) : (told p q).length ≤ q := by
  unfold told
  have := List.length_filter_le p (List.range q)
  simpa using this

set_option maxRecDepth 100000 in
set_option maxHeartbeats 2000000 in
/-- List, of the document's answer. -/
theorem List_ref (n : Int) (a : Option Addr) (ws : List Nat) (cap : Nat) (w : World) (hWd : Wd w.heap.size w a ws) (hB : WB ws) (hl : ws.length ≤ 30) :
    Calls Tryd.prog 13 #[.agg #[.int .i64 n, .slice a ws.length cap]] w fun e w' => ∃ u, e = .returned u ∧ w'.ownsRow w.heap.size 3 1 u (nums (nrmW n ws)).length ((nums (nrmW n ws)).map encI) ∧ Below w.heap.size w w' := by
  have hW1 : Below w.heap.size w (w.alloc (.cells #[.int .i64 n, .slice a ws.length cap] 24)) := (Below.refl _ _).alloc (Nat.le_refl _) _
  have B1 := Box.new w (.int .i64 n) (.slice a ws.length cap) 24
  have HS := Lib.hid (size_ref n a ws cap _ ((hWd.below hW1).mono hW1.size) hB hl)
  have hok := nrm_ok (n := n) hB
  have hsame : 0 < nrm n ws → nrmW n ws = ws := by unfold nrm nrmW; split <;> simp
  have hnl : 0 < nrm n ws → nrm n ws ≤ 64 * ws.length := by
    intro h
    have e1 := hok.len
    rw [hsame h] at e1
    rw [e1]; unfold wcount; omega
  have cB : Hid (∀ (W : World) (j : Nat), Wd w.heap.size W a ws → j < nrm n ws → Calls Tryd.prog 42 #[.slice a ws.length cap, .int .i64 (j : Int)] W fun e w' => e = .returned (.bool (bitAt (nrmW n ws) j)) ∧ w' = W) := fun W j hw hj => by
    have h0 : 0 < nrm n ws := by omega
    rw [hsame h0]
    exact bit_ref a ws cap j W hw hB hl (by have := hnl h0; omega)
  obtain ⟨L, hL⟩ : ∃ L, ws.length = L := ⟨_, rfl⟩
  rw [hL] at hW1 B1 HS cB ⊢
  generalize nrm n ws = N at *
  generalize nrmW n ws = us at *
  have hN := hok.le
  rw [nums_upto hok]
  change Calls Tryd.prog 13 _ w fun e w' => ∃ u, e = .returned u ∧ w'.ownsRow w.heap.size 3 1 u (told (fun i => bitAt us i) N).length ((told (fun i => bitAt us i) N).map encI) ∧ Below w.heap.size w w'
  obtain ⟨p, hp⟩ : ∃ p, (fun i => bitAt us i) = p := ⟨_, rfl⟩
  rw [hp]
  have cP : Hid (∀ (W : World) (j : Nat), Wd w.heap.size W a ws → j < N → Calls Tryd.prog 42 #[.slice a L cap, .int .i64 (j : Int)] W fun e w' => e = .returned (.bool (p j)) ∧ w' = W) := by
    rw [← hp]; exact cB
  have HWd := Lib.hid hWd
  clear hp cB hok hsame hnl hL hWd hB hl
  obtain ⟨i0, hi, hz0, hz1, hz2⟩ := info_parts Tryd_info3
  generalize hW : w.alloc (.cells #[.int .i64 n, .slice a L cap] 24) = W1 at *
  have HW1 := Lib.hid hW1
  have HB1 := Lib.hid B1
  obtain ⟨c0, c1, -, -⟩ := B1
  clear hW1
  go_enter Tryd.func13, Tryd.ntmps13
  go_wp2_with fail
  refine HS.out.mono ?_
  clear HS c0 c1 hW
  rintro e w1 ⟨rfl, hb⟩
  have HB2 := Lib.hid (HB1.out.below hb HB1.out.lt)
  have HW2 := Lib.hid (HW1.out.trans (hb.mono HW1.out.size))
  clear HB1 HW1 hb
  go_wp2_with fail
  go_loopw [3, 5] (fun v i wr => ∃ q : Nat, q ≤ N ∧ i = .int .i64 q ∧ Hid (wr.ownsRow w1.heap.size 3 1 v (told p q).length ((told p q).map encI)) ∧ Hid (Below w1.heap.size w1 wr)) (fun _ i _ => N - (intOf i).toNat)
  case atStart => exact ⟨0, Nat.zero_le _, rfl, World.ownsRow_nil _ _ _ _, Below.refl _ _⟩
  case round =>
    obtain ⟨q, hq, rfl, hown, hBw⟩ := hrel
    obtain ⟨x0, x1, -, -⟩ := HB2.out.below hBw.out HB2.out.lt
    by_cases hlt : q < N
    · have hqi : (q : Int) < (N : Int) := by omega
      have cj := Lib.hid (cP.out wr q (HWd.out.below (HW2.out.trans (hBw.out.mono HW2.out.size))) hlt)
      have hts := told_succ p q
      have htl := told_le p q
      obtain ⟨pq, hpq⟩ : ∃ pq, p q = pq := ⟨_, rfl⟩
      rw [hpq] at cj hts
      have HTS := Lib.hid hts
      clear hpq hts
      cases pq with
      | true =>
        have h63 : (told p q).length + 1 ≤ maxLen := by unfold maxLen; omega
        have hby : ((told p q).length + 1) * 8 ≤ 140737488355328 := by omega
        go_wp2_with (first
          | (go_at_call 42; refine cj.out.mono ?_; rintro e w3 ⟨rfl, rfl⟩)
          | (at_builtin; refine wpList_append_own _ rfl _ _ 25 rfl w1.heap.size 3 i0 (.int .i64 0) 1 8 Tryd.underlying25 hi hz0 hz1 hz2 rfl (by decide) _ _ _ rfl (hown.out.alloc _) ⟨_, 0, none⟩ 1 1 [.int .i64 (q : Int)] rfl rfl (cell_one_new _ _ _) (by simp [Value.oneCell']) h63 hby (by have := hBw.out.size; simp; omega) ?_; intro v' w4 hown' hgrow _; have HO := Lib.hid hown'; have HG := Lib.hid hgrow; clear hown' hgrow))
        go_roundw
        case rel =>
          have e : told p (q + 1) = told p q ++ [q] := HTS.out
          refine ⟨q + 1, by omega, by go_num, ?_, ?_⟩
          · show w4.ownsRow _ 3 1 _ (told p (q + 1)).length ((told p (q + 1)).map encI)
            rw [e]
            simpa [encI] using HO.out
          · exact owns_grown (hBw.out.alloc hBw.out.size _) (hown.out.alloc _) HG.out (by have := hBw.out.size; simp; omega)
        case measure => simp [intOf]; omega
      | false =>
        go_wp2_with (go_at_call 42; refine cj.out.mono ?_; rintro e w3 ⟨rfl, rfl⟩)
        go_roundw
        case rel =>
          have e : told p (q + 1) = told p q ++ [] := HTS.out
          rw [List.append_nil] at e
          exact ⟨q + 1, by omega, by go_num, by rw [e]; exact hown, hBw⟩
        case measure => simp [intOf]; omega
    · obtain rfl : q = N := by omega
      go_wp2
      go_ret
      exact ⟨_, rfl, owns_base hown.out HW2.out.size, HW2.out.trans (hBw.out.mono HW2.out.size)⟩
end Go.Proofs.YtjlofjoekpoepaaDoor
