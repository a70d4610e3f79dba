import Derived.Test.YtkcgbdggipijlaaDoorSigA
import Derived.Test.YtkcgbdggipijlaaDoorInts
namespace Go.Proofs.YtkcgbdggipijlaaDoor
open Go Go.RowKit Go.Sort

theorem owns_below {W W' : World} {b : Nat} {e : TypeId} {size n : Nat} {v : Value} {xs : List Value} (h : W.ownsRow b e size v n xs) (hb : Below W.heap.size W W') : W'.ownsRow b e size v n xs :=
  ⟨h.1, h.2.imp id fun ⟨g, cap, cur, a, hg, hc, r⟩ => ⟨g, cap, cur, a, hg, (hb.block g (Array.getElem?_eq_some_iff.1 hc).1).trans hc, r⟩⟩

set_option maxRecDepth 100000 in
set_option maxHeartbeats 2000000 in
theorem hList_any (s : Int) (w : World) :
    Calls Tryd.prog 20 #[.int .i64 s] w fun e w' => ∃ u, e = .returned u ∧ w'.ownsRow w.heap.size 3 1 u (tol (hasN (sS s)) (-1) 3).length ((tol (hasN (sS s)) (-1) 3).map (Value.int .i64)) ∧ Below w.heap.size w w' := by
  obtain ⟨p, hp⟩ : ∃ p, hasN (sS s) = p := ⟨_, rfl⟩
  rw [hp]
  have cP : Hid (∀ (z : Int) (W : World), Calls Tryd.prog 40 #[.int .i64 s, .int .i64 z] W fun e w' => e = .returned (.bool (p z)) ∧ Below W.heap.size W w') := fun z W => by
    rw [← hp]; exact has_any s z W
  clear hp
  obtain ⟨i0, hi, hz0, hz1, hz2⟩ := info_parts info3
  go_enter Tryd.func20, Tryd.ntmps20
  go_wp2_with fail
  go_loopw [3, 4] (fun v i wr => ∃ z : Int, -1 ≤ z ∧ z ≤ 2 ∧ i = .int .i64 z ∧ Hid (wr.ownsRow w.heap.size 3 1 v (tol p (-1) (z - (-1)).toNat).length ((tol p (-1) (z - (-1)).toNat).map (Value.int .i64))) ∧ Hid (Below w.heap.size w wr)) (fun _ i _ => (2 - intOf i).toNat)
  case atStart => exact ⟨-1, by decide, by decide, rfl, World.ownsRow_nil _ _ _ _, Below.refl _ _⟩
  case round =>
    obtain ⟨z, hz1', hz2', rfl, hown, hBw⟩ := hrel
    by_cases hlt : z < 2
    · have cj := Lib.hid (cP.out z)
      obtain ⟨q, hq⟩ : ∃ q : Nat, (z - (-1)).toNat = q := ⟨_, rfl⟩
      have hqs : (z + 1 - (-1)).toNat = q + 1 := by omega
      have hts := tol_succ p (-1) q
      rw [show (-1 : Int) + (q : Int) = z by omega] at hts
      have htl := tol_le p (-1) q
      have hq3 : q ≤ 3 := by omega
      rw [hq] at hown
      have HQS := Lib.hid hqs
      clear hqs
      obtain ⟨pz, hpz⟩ : ∃ pz, p z = pz := ⟨_, rfl⟩
      rw [hpz] at cj hts
      have HTS := Lib.hid hts
      clear hpz hts hq

      cases pz with
      | true =>
        have h63 : (tol p (-1) q).length + 1 ≤ maxLen := by unfold maxLen; omega
        have hby : ((tol p (-1) q).length + 1) * 8 ≤ 140737488355328 := by omega
        go_wp2_with (first
          | (go_at_call 40; refine (cj.out _).mono ?_; rintro e wn ⟨rfl, hbn⟩; have hbx := hBw.out.trans (hbn.mono hBw.out.size); have HWN := Lib.hid hbx; have HSZ := Lib.hid hbn; clear hbn hbx)
          | (at_builtin; refine wpList_append_own _ rfl _ _ 30 rfl w.heap.size 3 i0 (.int .i64 0) 1 8 Tryd.underlying30 hi hz0 hz1 hz2 rfl (by decide) _ _ _ rfl ((owns_below hown.out HSZ.out).alloc _) ⟨_, 0, none⟩ 1 1 [.int .i64 z] rfl rfl (cell_one_new _ _ _) (by simp [Value.oneCell']) h63 hby (by have := HWN.out.size; simp; omega) ?_; intro v' w4 hown' hgrow _; have HO := Lib.hid hown'; have HG := Lib.hid hgrow; clear hown' hgrow))
        go_roundw
        case rel =>
          have e : tol p (-1) (q + 1) = tol p (-1) q ++ [z] := HTS.out
          refine ⟨z + 1, by omega, by omega, rfl, ?_, ?_⟩
          · show w4.ownsRow _ 3 1 _ (tol p (-1) (z + 1 - (-1)).toNat).length ((tol p (-1) (z + 1 - (-1)).toNat).map _)
            rw [HQS.out, e]
            simpa using HO.out
          · exact owns_grown (HWN.out.alloc HWN.out.size _) ((owns_below hown.out HSZ.out).alloc _) HG.out (by have := HWN.out.size; simp; omega)
        case measure => simp [intOf]; omega
      | false =>
        go_wp2_with (go_at_call 40; refine (cj.out _).mono ?_; rintro e wn ⟨rfl, hbn⟩; have hbx := hBw.out.trans (hbn.mono hBw.out.size); have HWN := Lib.hid hbx; have HSZ := Lib.hid hbn; clear hbn hbx)
        go_roundw
        case rel =>
          have e : tol p (-1) (q + 1) = tol p (-1) q ++ [] := HTS.out
          rw [List.append_nil] at e
          refine ⟨z + 1, by omega, by omega, rfl, ?_, HWN⟩
          show wn.ownsRow _ 3 1 _ (tol p (-1) (z + 1 - (-1)).toNat).length ((tol p (-1) (z + 1 - (-1)).toNat).map _)
          rw [HQS.out, e]; exact owns_below hown.out HSZ.out
        case measure => simp [intOf]; omega
    · obtain rfl : z = 2 := by omega
      go_wp2
      go_ret
      exact ⟨_, rfl, hown.out, hBw.out⟩

set_option maxRecDepth 100000 in
set_option maxHeartbeats 2000000 in
theorem some_any (s : Int) (w : World) :
    Calls Tryd.prog 53 #[.int .i64 s] w fun e w' => ∃ u, e = .returned u ∧ w'.ownsRow w.heap.size 3 1 u (tol (hasN (sS s)) (-2) 5).length ((tol (hasN (sS s)) (-2) 5).map (Value.int .i64)) ∧ Below w.heap.size w w' := by
  obtain ⟨p, hp⟩ : ∃ p, hasN (sS s) = p := ⟨_, rfl⟩
  rw [hp]
  have cP : Hid (∀ (z : Int) (W : World), Calls Tryd.prog 40 #[.int .i64 s, .int .i64 z] W fun e w' => e = .returned (.bool (p z)) ∧ Below W.heap.size W w') := fun z W => by
    rw [← hp]; exact has_any s z W
  clear hp
  obtain ⟨i0, hi, hz0, hz1, hz2⟩ := info_parts info3
  go_enter Tryd.func53, Tryd.ntmps53
  go_wp2_with fail
  go_loopw [3, 4] (fun v i wr => ∃ z : Int, -2 ≤ z ∧ z ≤ 3 ∧ i = .int .i64 z ∧ Hid (wr.ownsRow w.heap.size 3 1 v (tol p (-2) (z - (-2)).toNat).length ((tol p (-2) (z - (-2)).toNat).map (Value.int .i64))) ∧ Hid (Below w.heap.size w wr)) (fun _ i _ => (3 - intOf i).toNat)
  case atStart => exact ⟨-2, by decide, by decide, rfl, World.ownsRow_nil _ _ _ _, Below.refl _ _⟩
  case round =>
    obtain ⟨z, hz1', hz2', rfl, hown, hBw⟩ := hrel
    by_cases hlt : z < 3
    · have cj := Lib.hid (cP.out z)
      obtain ⟨q, hq⟩ : ∃ q : Nat, (z - (-2)).toNat = q := ⟨_, rfl⟩
      have hqs : (z + 1 - (-2)).toNat = q + 1 := by omega
      have hts := tol_succ p (-2) q
      rw [show (-2 : Int) + (q : Int) = z by omega] at hts
      have htl := tol_le p (-2) q
      have hq3 : q ≤ 5 := by omega
      rw [hq] at hown
      have HQS := Lib.hid hqs
      clear hqs
      obtain ⟨pz, hpz⟩ : ∃ pz, p z = pz := ⟨_, rfl⟩
      rw [hpz] at cj hts
      have HTS := Lib.hid hts
      clear hpz hts hq

      cases pz with
      | true =>
        have h63 : (tol p (-2) q).length + 1 ≤ maxLen := by unfold maxLen; omega
        have hby : ((tol p (-2) q).length + 1) * 8 ≤ 140737488355328 := by omega
        go_wp2_with (first
          | (go_at_call 40; refine (cj.out _).mono ?_; rintro e wn ⟨rfl, hbn⟩; have hbx := hBw.out.trans (hbn.mono hBw.out.size); have HWN := Lib.hid hbx; have HSZ := Lib.hid hbn; clear hbn hbx)
          | (at_builtin; refine wpList_append_own _ rfl _ _ 30 rfl w.heap.size 3 i0 (.int .i64 0) 1 8 Tryd.underlying30 hi hz0 hz1 hz2 rfl (by decide) _ _ _ rfl ((owns_below hown.out HSZ.out).alloc _) ⟨_, 0, none⟩ 1 1 [.int .i64 z] rfl rfl (cell_one_new _ _ _) (by simp [Value.oneCell']) h63 hby (by have := HWN.out.size; simp; omega) ?_; intro v' w4 hown' hgrow _; have HO := Lib.hid hown'; have HG := Lib.hid hgrow; clear hown' hgrow))
        go_roundw
        case rel =>
          have e : tol p (-2) (q + 1) = tol p (-2) q ++ [z] := HTS.out
          refine ⟨z + 1, by omega, by omega, rfl, ?_, ?_⟩
          · show w4.ownsRow _ 3 1 _ (tol p (-2) (z + 1 - (-2)).toNat).length ((tol p (-2) (z + 1 - (-2)).toNat).map _)
            rw [HQS.out, e]
            simpa using HO.out
          · exact owns_grown (HWN.out.alloc HWN.out.size _) ((owns_below hown.out HSZ.out).alloc _) HG.out (by have := HWN.out.size; simp; omega)
        case measure => simp [intOf]; omega
      | false =>
        go_wp2_with (go_at_call 40; refine (cj.out _).mono ?_; rintro e wn ⟨rfl, hbn⟩; have hbx := hBw.out.trans (hbn.mono hBw.out.size); have HWN := Lib.hid hbx; have HSZ := Lib.hid hbn; clear hbn hbx)
        go_roundw
        case rel =>
          have e : tol p (-2) (q + 1) = tol p (-2) q ++ [] := HTS.out
          rw [List.append_nil] at e
          refine ⟨z + 1, by omega, by omega, rfl, ?_, HWN⟩
          show wn.ownsRow _ 3 1 _ (tol p (-2) (z + 1 - (-2)).toNat).length ((tol p (-2) (z + 1 - (-2)).toNat).map _)
          rw [HQS.out, e]; exact owns_below hown.out HSZ.out
        case measure => simp [intOf]; omega
    · obtain rfl : z = 3 := by omega
      go_wp2
      go_ret
      exact ⟨_, rfl, hown.out, hBw.out⟩

set_option maxRecDepth 100000 in
set_option maxHeartbeats 2000000 in
theorem gList_any (s : Int) (w : World) :
    Calls Tryd.prog 19 #[.int .i64 s] w fun e w' => ∃ u, e = .returned u ∧ w'.ownsRow w.heap.size 3 1 u (tol (hasN (sS s)) (-1) 3).length ((tol (hasN (sS s)) (-1) 3).map (Value.int .i64)) ∧ Below w.heap.size w w' := by
  have HS := Lib.hid (fun W => gsn_any s W)
  have hx := sS_lt s
  generalize sS s = x at *
  obtain ⟨p, hp⟩ : ∃ p, hasN x = p := ⟨_, rfl⟩
  rw [hp]
  have hpz : ∀ z, p z = (bits .and .i64 ((sg z : Nat) : Int) (x : Int) != 0) := fun z => by rw [bits_dna (sg_lt z) hx, ← hp]; rfl
  have HP := Lib.hid hpz
  have cP : Hid (∀ (z : Int) (W : World), Calls Tryd.prog 12 #[.int .i64 z] W fun e w' => e = .returned (.int .i64 (sg z : Nat)) ∧ Below W.heap.size W w') := fun z W => gOf_any z W
  clear hp hpz hx
  obtain ⟨i0, hi, hz0, hz1, hz2⟩ := info_parts info3
  go_enter Tryd.func19, Tryd.ntmps19
  go_wp2_with fail
  refine (HS.out _).mono ?_
  clear HS
  rintro e w1 ⟨rfl, hb⟩
  have HB1 := Lib.hid hb
  clear hb
  go_wp2_with fail
  go_loopw [3, 4] (fun v i wr => ∃ z : Int, -1 ≤ z ∧ z ≤ 2 ∧ i = .int .i64 z ∧ Hid (wr.ownsRow w.heap.size 3 1 v (tol p (-1) (z - (-1)).toNat).length ((tol p (-1) (z - (-1)).toNat).map (Value.int .i64))) ∧ Hid (Below w.heap.size w wr)) (fun _ i _ => (2 - intOf i).toNat)
  case atStart => exact ⟨-1, by decide, by decide, rfl, World.ownsRow_made _ _ _ HB1.out.size (by decide) rfl, HB1.out.alloc HB1.out.size _⟩
  case round =>
    obtain ⟨z, hz1', hz2', rfl, hown, hBw⟩ := hrel
    by_cases hlt : z < 2
    · have cj := Lib.hid (cP.out z)
      obtain ⟨q, hq⟩ : ∃ q : Nat, (z - (-1)).toNat = q := ⟨_, rfl⟩
      have hqs : (z + 1 - (-1)).toNat = q + 1 := by omega
      have hts := tol_succ p (-1) q
      rw [show (-1 : Int) + (q : Int) = z by omega] at hts
      have htl := tol_le p (-1) q
      have hq3 : q ≤ 3 := by omega
      rw [hq] at hown
      have HQS := Lib.hid hqs
      clear hqs
      obtain ⟨pz, hpz⟩ : ∃ pz, p z = pz := ⟨_, rfl⟩
      have hbit := HP.out z
      rw [hpz] at hts hbit
      replace hbit := hbit.symm
      have HTS := Lib.hid hts
      clear hpz hts hq
      generalize sg z = g at *
      cases pz with
      | true =>
        have h63 : (tol p (-1) q).length + 1 ≤ maxLen := by unfold maxLen; omega
        have hby : ((tol p (-1) q).length + 1) * 8 ≤ 140737488355328 := by omega
        go_wp2_with (first
          | (go_at_call 12; refine (cj.out _).mono ?_; rintro e wn ⟨rfl, hbn⟩; have hbx := hBw.out.trans (hbn.mono hBw.out.size); have HWN := Lib.hid hbx; have HSZ := Lib.hid hbn; clear hbn hbx)
          | (at_builtin; refine wpList_append_own _ rfl _ _ 30 rfl w.heap.size 3 i0 (.int .i64 0) 1 8 Tryd.underlying30 hi hz0 hz1 hz2 rfl (by decide) _ _ _ rfl ((owns_below hown.out HSZ.out).alloc _) ⟨_, 0, none⟩ 1 1 [.int .i64 z] rfl rfl (cell_one_new _ _ _) (by simp [Value.oneCell']) h63 hby (by have := HWN.out.size; simp; omega) ?_; intro v' w4 hown' hgrow _; have HO := Lib.hid hown'; have HG := Lib.hid hgrow; clear hown' hgrow))
        go_roundw
        case rel =>
          have e : tol p (-1) (q + 1) = tol p (-1) q ++ [z] := HTS.out
          refine ⟨z + 1, by omega, by omega, rfl, ?_, ?_⟩
          · show w4.ownsRow _ 3 1 _ (tol p (-1) (z + 1 - (-1)).toNat).length ((tol p (-1) (z + 1 - (-1)).toNat).map _)
            rw [HQS.out, e]
            simpa using HO.out
          · exact owns_grown (HWN.out.alloc HWN.out.size _) ((owns_below hown.out HSZ.out).alloc _) HG.out (by have := HWN.out.size; simp; omega)
        case measure => simp [intOf]; omega
      | false =>
        go_wp2_with (go_at_call 12; refine (cj.out _).mono ?_; rintro e wn ⟨rfl, hbn⟩; have hbx := hBw.out.trans (hbn.mono hBw.out.size); have HWN := Lib.hid hbx; have HSZ := Lib.hid hbn; clear hbn hbx)
        go_roundw
        case rel =>
          have e : tol p (-1) (q + 1) = tol p (-1) q ++ [] := HTS.out
          rw [List.append_nil] at e
          refine ⟨z + 1, by omega, by omega, rfl, ?_, HWN⟩
          show wn.ownsRow _ 3 1 _ (tol p (-1) (z + 1 - (-1)).toNat).length ((tol p (-1) (z + 1 - (-1)).toNat).map _)
          rw [HQS.out, e]; exact owns_below hown.out HSZ.out
        case measure => simp [intOf]; omega
    · obtain rfl : z = 2 := by omega
      go_wp2
      go_ret
      exact ⟨_, rfl, hown.out, hBw.out⟩
end Go.Proofs.YtkcgbdggipijlaaDoor
