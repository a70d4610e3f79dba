/- The document's answer for layer 5: Def, add, Uses. -/
import Derived.Test.YtmcbedlmgffckaaDoorRfB
import Derived.Test.YtmcbedlmgffckaaDoorInsG
namespace Go.Proofs.YtmcbedlmgffckaaDoor.Bi
open Go Go.RowKit Go.Sort

set_option maxRecDepth 100000 in
set_option maxHeartbeats 8000000 in
theorem rDef_any (i : Ins) (w : World) (d : Int) (hd : i.defn = d) :
    Calls Tryd.prog 13 #[i.val] w fun e w' => e = .returned (.int .i64 d) ∧ Below w.heap.size w w' := by
  have HW := Lib.hid (below1 w (.cells i.cells.toArray 24))
  have HB := Lib.hid (BoxL.new w i.cells 24)
  have HF := Lib.hid (fun W r h => rForm_any i W r h)
  have HH := Lib.hid (fun W => rhasDst_any i.kind W)
  have HDD : Hid (d = if decide i.form = true ∧ Go.Proofs.YtmcbedlmgffckaaDoor.hasDst i.kind = true then i.dst else -1) := by
    show _ = _
    rw [← hd]
    unfold Ins.defn
    simp only [decide_eq_true_eq]
  clear hd
  obtain ⟨fb, hfb⟩ : ∃ fb, decide i.form = fb := ⟨_, rfl⟩
  rw [hfb] at HDD
  have HFb := Lib.hid (fun W => HF.out W fb hfb)
  clear hfb HF
  generalize Go.Proofs.YtmcbedlmgffckaaDoor.hasDst i.kind = hb at *
  obtain ⟨id, kind, dst, a, b, c, f, n, x0, x1, x2⟩ := i
  unfold Ins.val at *
  unfold Ins.cells at HB HW
  dsimp only at *
  generalize hE : w.alloc (.cells (List.toArray [.int .i64 id, .int .i64 kind, .int .i64 dst, .int .i64 a, .int .i64 b, .int .i64 c, .int .i64 f, .int .i64 n, .int .i64 x0, .int .i64 x1, .int .i64 x2]) 24) = W at HB HW
  have hE' : w.alloc (.cells #[.int .i64 id, .int .i64 kind, .int .i64 dst, .int .i64 a, .int .i64 b, .int .i64 c, .int .i64 f, .int .i64 n, .int .i64 x0, .int .i64 x1, .int .i64 x2] 24) = W := hE
  clear hE
  obtain ⟨g, hg⟩ : ∃ g, w.heap.size = g := ⟨_, rfl⟩
  rw [hg] at HB
  have HG := Lib.hid (HB.out.lt (Nat.zero_lt_succ _))
  have k0 := (HB.out 0 _ rfl).1
  have k1 := (HB.out 1 _ rfl).1
  have k2 := (HB.out 2 _ rfl).1
  have k3 := (HB.out 3 _ rfl).1
  have k4 := (HB.out 4 _ rfl).1
  have k5 := (HB.out 5 _ rfl).1
  have k6 := (HB.out 6 _ rfl).1
  have k7 := (HB.out 7 _ rfl).1
  have k8 := (HB.out 8 _ rfl).1
  have k9 := (HB.out 9 _ rfl).1
  have k10 := (HB.out 10 _ rfl).1
  cases fb with
  | false =>
    go_enter Tryd.func13, Tryd.ntmps13
    go_wp2_with (first | (go_at_call 11; refine (HFb.out _).mono ?_; rintro e wa ⟨rfl, hba⟩; have HB2 := Lib.hid (HB.out.below hba HG.out); have HW2 := Lib.hid (HW.out.trans (hba.mono HW.out.size)); clear HB HW HG hba k0 k1 k2 k3 k4 k5 k6 k7 k8 k9 k10; have k0 := (HB2.out 0 _ rfl).1; have k1 := (HB2.out 1 _ rfl).1; have k2 := (HB2.out 2 _ rfl).1; have k3 := (HB2.out 3 _ rfl).1; have k4 := (HB2.out 4 _ rfl).1; have k5 := (HB2.out 5 _ rfl).1; have k6 := (HB2.out 6 _ rfl).1; have k7 := (HB2.out 7 _ rfl).1; have k8 := (HB2.out 8 _ rfl).1; have k9 := (HB2.out 9 _ rfl).1; have k10 := (HB2.out 10 _ rfl).1))
    go_ret
    exact ⟨ret_int (by rw [HDD.out]; simp), HW2.out⟩
  | true =>
    cases hb with
    | false =>
      go_enter Tryd.func13, Tryd.ntmps13
      go_wp2_with (first | (go_at_call 11; refine (HFb.out _).mono ?_; rintro e wa ⟨rfl, hba⟩; have HB2 := Lib.hid (HB.out.below hba HG.out); have HW2 := Lib.hid (HW.out.trans (hba.mono HW.out.size)); clear HB HW HG hba k0 k1 k2 k3 k4 k5 k6 k7 k8 k9 k10; have k0 := (HB2.out 0 _ rfl).1; have k1 := (HB2.out 1 _ rfl).1; have k2 := (HB2.out 2 _ rfl).1; have k3 := (HB2.out 3 _ rfl).1; have k4 := (HB2.out 4 _ rfl).1; have k5 := (HB2.out 5 _ rfl).1; have k6 := (HB2.out 6 _ rfl).1; have k7 := (HB2.out 7 _ rfl).1; have k8 := (HB2.out 8 _ rfl).1; have k9 := (HB2.out 9 _ rfl).1; have k10 := (HB2.out 10 _ rfl).1) | (go_at_call 48; refine (HH.out _).mono ?_; rintro e wb ⟨rfl, hbb⟩; have HB3 := Lib.hid (HB2.out.below hbb (HB2.out.lt (Nat.zero_lt_succ _))); have HW3 := Lib.hid (HW2.out.trans (hbb.mono HW2.out.size)); clear HB2 HW2 hbb k0 k1 k2 k3 k4 k5 k6 k7 k8 k9 k10; have k0 := (HB3.out 0 _ rfl).1; have k1 := (HB3.out 1 _ rfl).1; have k2 := (HB3.out 2 _ rfl).1; have k3 := (HB3.out 3 _ rfl).1; have k4 := (HB3.out 4 _ rfl).1; have k5 := (HB3.out 5 _ rfl).1; have k6 := (HB3.out 6 _ rfl).1; have k7 := (HB3.out 7 _ rfl).1; have k8 := (HB3.out 8 _ rfl).1; have k9 := (HB3.out 9 _ rfl).1; have k10 := (HB3.out 10 _ rfl).1))
      go_ret
      exact ⟨ret_int (by rw [HDD.out]; simp), HW3.out⟩
    | true =>
      go_enter Tryd.func13, Tryd.ntmps13
      go_wp2_with (first | (go_at_call 11; refine (HFb.out _).mono ?_; rintro e wa ⟨rfl, hba⟩; have HB2 := Lib.hid (HB.out.below hba HG.out); have HW2 := Lib.hid (HW.out.trans (hba.mono HW.out.size)); clear HB HW HG hba k0 k1 k2 k3 k4 k5 k6 k7 k8 k9 k10; have k0 := (HB2.out 0 _ rfl).1; have k1 := (HB2.out 1 _ rfl).1; have k2 := (HB2.out 2 _ rfl).1; have k3 := (HB2.out 3 _ rfl).1; have k4 := (HB2.out 4 _ rfl).1; have k5 := (HB2.out 5 _ rfl).1; have k6 := (HB2.out 6 _ rfl).1; have k7 := (HB2.out 7 _ rfl).1; have k8 := (HB2.out 8 _ rfl).1; have k9 := (HB2.out 9 _ rfl).1; have k10 := (HB2.out 10 _ rfl).1) | (go_at_call 48; refine (HH.out _).mono ?_; rintro e wb ⟨rfl, hbb⟩; have HB3 := Lib.hid (HB2.out.below hbb (HB2.out.lt (Nat.zero_lt_succ _))); have HW3 := Lib.hid (HW2.out.trans (hbb.mono HW2.out.size)); clear HB2 HW2 hbb k0 k1 k2 k3 k4 k5 k6 k7 k8 k9 k10; have k0 := (HB3.out 0 _ rfl).1; have k1 := (HB3.out 1 _ rfl).1; have k2 := (HB3.out 2 _ rfl).1; have k3 := (HB3.out 3 _ rfl).1; have k4 := (HB3.out 4 _ rfl).1; have k5 := (HB3.out 5 _ rfl).1; have k6 := (HB3.out 6 _ rfl).1; have k7 := (HB3.out 7 _ rfl).1; have k8 := (HB3.out 8 _ rfl).1; have k9 := (HB3.out 9 _ rfl).1; have k10 := (HB3.out 10 _ rfl).1))
      go_ret
      exact ⟨ret_int (by rw [HDD.out]; simp), HW3.out⟩

set_option maxRecDepth 100000 in
set_option maxHeartbeats 4000000 in
theorem radd_any (B : Nat) (v : Value) (l : List Int) (x : Int) (w : World) (T : Nat) (hown : w.ownsRow B 3 1 v T (l.map (Value.int .i64))) (hB : B ≤ w.heap.size) (hl : T ≤ 100) (l' : List Int) (hl' : addL l x = l') :
    Calls Tryd.prog 52 #[v, .int .i64 x] w fun e w' => ∃ v', e = .returned v' ∧ w'.ownsRow B 3 1 v' l'.length (l'.map (Value.int .i64)) ∧ Below B w w' := by
  obtain ⟨a, cap, rfl, hlen, hIs⟩ := is_of_ints hown
  have HIs := Lib.hid hIs
  have HL := Lib.hid hlen
  have HO := Lib.hid hown
  have HL' := Lib.hid hl'
  obtain ⟨i0, hi, hz0, hz1, hz2⟩ := info_parts Tryd_info3
  clear hown hIs hlen hl'
  go_enter Tryd.func52, Tryd.ntmps52
  go_wp2
  go_loop [5] (fun ix => ∃ q : Nat, q ≤ T ∧ ix = .int .i64 q ∧ Hid (∀ j : Nat, j < q → l[j]?.getD 0 ≠ x)) (fun ix => T - (intOf ix).toNat)
  case atStart => exact ⟨0, Nat.zero_le _, rfl, fun j hj => absurd hj (Nat.not_lt_zero _)⟩
  case round =>
    obtain ⟨q, hq, rfl, hne⟩ := hrel
    by_cases hlt : q < T
    · obtain ⟨b, of, rfl, hbl, hcell⟩ := HIs.out q (by rw [HL.out]; exact hlt)
      obtain ⟨y, hy⟩ : ∃ y, l[q]?.getD 0 = y := ⟨_, rfl⟩
      rw [hy] at hcell
      have HY := Lib.hid hy
      clear hy hbl
      have hqi : (q : Int) < (T : Int) := by omega
      by_cases hxy : y = x
      · subst hxy
        go_wp2
        go_ret
        have hmem : y ∈ l := by
          have hq2 : q < l.length := by rw [HL.out]; exact hlt
          have e := HY.out
          rw [List.getElem?_eq_getElem hq2] at e
          simp at e
          exact e ▸ List.getElem_mem hq2
        have he : l' = l := by rw [← HL'.out]; unfold addL; rw [if_pos hmem]
        refine ⟨_, rfl, ?_, Below.refl _ _⟩
        rw [he, HL.out]
        exact HO.out
      · have hxy' : ¬ (y = x) := hxy
        go_wp2
        refine ⟨⟨q + 1, by omega, by go_num, fun j hj => ?_⟩, by simp [intOf]; omega⟩
        rcases Nat.lt_succ_iff_lt_or_eq.1 hj with h | rfl
        · exact hne.out j h
        · rw [HY.out]; exact hxy'
    · obtain rfl : q = T := by omega
      have hmem : x ∉ l := fun h => by
        obtain ⟨j, hj, e⟩ := List.getElem_of_mem h
        exact absurd (by rw [List.getElem?_eq_getElem hj]; simpa using e) (hne.out j (by rw [← HL.out]; exact hj))
      have HE : Hid (l' = l ++ [x]) := by show _ = _; rw [← HL'.out]; unfold addL; rw [if_neg hmem]
      have h63 : q + 1 ≤ maxLen := by unfold maxLen; omega
      have hby : (q + 1) * 8 ≤ 140737488355328 := by omega
      clear hmem hne
      go_wp2_with (at_builtin; refine wpList_append_own _ rfl _ _ 29 rfl B 3 i0 (.int .i64 0) 1 8 Tryd.underlying29 hi hz0 hz1 hz2 rfl (by decide) _ _ _ rfl (HO.out.alloc _) ⟨_, 0, none⟩ 1 1 [.int .i64 x] rfl rfl (cell_one_new _ _ _) (by simp [Value.oneCell']) h63 hby (by simp only [World.size_alloc]; omega) ?_; intro v' w4 hown' hgrow _; have HB4 := Lib.hid (owns_grown ((Below.refl B w).alloc hB _) (HO.out.alloc _) hgrow (by simp only [World.size_alloc]; omega)); have HO4 := Lib.hid hown'; clear hown' hgrow)
      go_ret
      refine ⟨_, rfl, ?_, HB4.out⟩
      rw [HE.out]
      have h := HO4.out
      rw [← HL.out] at h
      simpa using h
end Go.Proofs.YtmcbedlmgffckaaDoor.Bi
