/- Instructions: Vars, of the code. -/
import Derived.Shelf.Slices.In.SortNone
import Derived.Test.YtbddjneinfkmpaaGreatDoorVarX
namespace Go.Proofs.YtbddjneinfkmpaaGreatDoor.Bi
open Go Go.RowKit Go.Sort

theorem vars_all (i : Ins) : i.vars = sortL (if i.defn = -1 then i.uses else i.uses ++ [i.defn]) := by
  unfold Ins.vars
  by_cases h : i.defn = -1
  · rw [if_neg (by omega), if_pos h]
  · have h0 : 0 ≤ i.defn := by
      rcases Int.lt_or_le i.defn 0 with g | g
      · exact absurd ((defn_none i).1 g) h
      · exact g
    rw [if_pos h0, if_neg h]
    refine rising_ext (sortL_rising _) (sortL_rising _) fun x => ?_
    rw [mem_sortL, mem_sortL, mem_addL, List.mem_append, List.mem_singleton]

set_option maxRecDepth 100000 in
set_option maxHeartbeats 16000000 in
theorem Vars_any (i : Ins) (w : World) (hT : KTab w) (vs : List Int) (hv : i.vars = vs) :
    Calls Tryz.prog 174 #[i.val] w fun e w' => ∃ u, e = .returned u ∧ w'.ownsRow w.heap.size 3 1 u vs.length (vs.map (Value.int .i64)) ∧ Below w.heap.size w w' := by
  have HV : Hid (sortL (if i.defn = -1 then i.uses else i.uses ++ [i.defn]) = vs) := (vars_all i).symm.trans hv
  clear hv
  have HW := Lib.hid (below1 w (.cells i.cells.toArray 40))
  have HT := Lib.hid (hT.on HW.out)
  clear hT
  have HB := Lib.hid (BoxL.new w i.cells 40)
  have HU := Lib.hid (fun W (h : KTab W) => Uses_any i W h)
  have HD := Lib.hid (fun W (h : KTab W) => Def_any i W h _ rfl)
  have HUL := Lib.hid (uses_le i)
  generalize i.defn = d at *
  generalize i.uses = us at *
  obtain ⟨i0, hi, hz0, hz1, hz2⟩ := info_parts Tryd_info3
  obtain ⟨id, kind, dst, a, b, c, f, n, x0, x1, x2⟩ := i
  unfold Ins.val at *
  unfold Ins.cells at HB HW HT
  dsimp only at *
  generalize hE : w.alloc (.cells (List.toArray [.int .i64 id, .int .i64 kind, .int .i64 dst, .int .i64 a, .int .i64 b, .int .i64 c, .int .i64 f, .int .i64 n, .int .i64 x0, .int .i64 x1, .int .i64 x2]) 40) = W at HB HW HT
  have hE' : w.alloc (.cells #[.int .i64 id, .int .i64 kind, .int .i64 dst, .int .i64 a, .int .i64 b, .int .i64 c, .int .i64 f, .int .i64 n, .int .i64 x0, .int .i64 x1, .int .i64 x2] 40) = W := hE
  clear hE
  obtain ⟨g, hg⟩ : ∃ g, w.heap.size = g := ⟨_, rfl⟩
  rw [hg] at HB
  have HG := Lib.hid (HB.out.lt (Nat.zero_lt_succ _))
  have k0 := (HB.out 0 _ rfl).1
  have k1 := (HB.out 1 _ rfl).1
  have k2 := (HB.out 2 _ rfl).1
  have k3 := (HB.out 3 _ rfl).1
  have k4 := (HB.out 4 _ rfl).1
  have k5 := (HB.out 5 _ rfl).1
  have k6 := (HB.out 6 _ rfl).1
  have k7 := (HB.out 7 _ rfl).1
  have k8 := (HB.out 8 _ rfl).1
  have k9 := (HB.out 9 _ rfl).1
  have k10 := (HB.out 10 _ rfl).1
  obtain ⟨m, hm⟩ : ∃ m, us.length = m := ⟨_, rfl⟩
  rw [hm] at HUL HU
  have HM := Lib.hid hm
  clear hm
  have hm5 := HUL.out
  by_cases hd : d = -1
  · subst hd
    have HV2 : Hid (sortL us = vs) := HV.out
    clear HV
    go_enter Tryz.func174, Tryz.ntmps174
    go_wp2_with (first | (go_at_call 177; refine (HU.out _ HT.out).mono ?_; rintro e wa ⟨u, rfl, hou, hba⟩; have HOU := Lib.hid hou; have HB2 := Lib.hid (HB.out.below hba HG.out); have HBa := Lib.hid hba; have HT2 := Lib.hid (HT.out.on hba); clear hou HB HG HT hba k0 k1 k2 k3 k4 k5 k6 k7 k8 k9 k10; have k0 := (HB2.out 0 _ rfl).1; have k1 := (HB2.out 1 _ rfl).1; have k2 := (HB2.out 2 _ rfl).1; have k3 := (HB2.out 3 _ rfl).1; have k4 := (HB2.out 4 _ rfl).1; have k5 := (HB2.out 5 _ rfl).1; have k6 := (HB2.out 6 _ rfl).1; have k7 := (HB2.out 7 _ rfl).1; have k8 := (HB2.out 8 _ rfl).1; have k9 := (HB2.out 9 _ rfl).1; have k10 := (HB2.out 10 _ rfl).1) | (go_at_call 69; refine (HD.out _ HT2.out).mono ?_; rintro e wb ⟨rfl, hbb⟩; have HO2 := Lib.hid (owns_keep HOU.out hbb); have HBb := Lib.hid (HBa.out.trans (hbb.mono HBa.out.size)); clear HOU HBa hbb k0 k1 k2 k3 k4 k5 k6 k7 k8 k9 k10))
    obtain ⟨hlen, ⟨hv, h0⟩ | ⟨g', cap', cur, hv, -, -, -, -, -, -⟩⟩ := HO2.out
    · subst hv
      subst h0
      have hus : us = [] := by simpa using hlen
      have hvs : vs = [] := by rw [← HV2.out, hus]; rfl
      refine (Any.slices_Sort_int_none Tryz.lays189 none 0 _).mono ?_
      rintro e w5 ⟨rfl, rfl⟩
      go_wp2_with fail
      refine (Any.slices_Compact_int_empty Tryz.laysNm220 none 0 _).mono ?_
      rintro e w6 ⟨rfl, rfl⟩
      go_wp2_with fail
      go_ret
      rw [hvs]
      exact ⟨_, rfl, World.ownsRow_nil _ _ _ _, HW.out.trans (HBb.out.mono HW.out.size)⟩
    · subst hv
      refine (SortO HO2.out HBb.out.size (by omega)).mono ?_
      rintro e w5 ⟨rfl, ho5, hb5⟩
      have HO5 := Lib.hid ho5
      have HB5 := Lib.hid (HBb.out.trans hb5)
      clear ho5 hb5
      go_wp2_with fail
      refine (CompactO HO5.out HB5.out.size (by omega)).mono ?_
      rintro e w6 ⟨v6, rfl, ho6, hb6⟩
      have HO6 := Lib.hid ho6
      have HB6 := Lib.hid (HB5.out.trans hb6)
      clear ho6 hb6
      go_wp2_with fail
      go_ret
      have h := HO6.out
      rw [compact_sorted, HV2.out] at h
      exact ⟨_, rfl, owns_base h HW.out.size, HW.out.trans (HB6.out.mono HW.out.size)⟩
  · have HV2 : Hid (sortL (us ++ [d]) = vs) := by have h := HV.out; rw [if_neg hd] at h; exact h
    have hdb : (d == -1) = false := by simpa using hd
    clear HV
    have h63 : m + 1 ≤ maxLen := by unfold maxLen; omega
    have hby : (m + 1) * 8 ≤ 140737488355328 := by omega
    go_enter Tryz.func174, Tryz.ntmps174
    go_wp2_with (first | (go_at_call 177; refine (HU.out _ HT.out).mono ?_; rintro e wa ⟨u, rfl, hou, hba⟩; have HOU := Lib.hid hou; have HB2 := Lib.hid (HB.out.below hba HG.out); have HBa := Lib.hid hba; have HT2 := Lib.hid (HT.out.on hba); clear hou HB HG HT hba k0 k1 k2 k3 k4 k5 k6 k7 k8 k9 k10; have k0 := (HB2.out 0 _ rfl).1; have k1 := (HB2.out 1 _ rfl).1; have k2 := (HB2.out 2 _ rfl).1; have k3 := (HB2.out 3 _ rfl).1; have k4 := (HB2.out 4 _ rfl).1; have k5 := (HB2.out 5 _ rfl).1; have k6 := (HB2.out 6 _ rfl).1; have k7 := (HB2.out 7 _ rfl).1; have k8 := (HB2.out 8 _ rfl).1; have k9 := (HB2.out 9 _ rfl).1; have k10 := (HB2.out 10 _ rfl).1) | (go_at_call 69; refine (HD.out _ HT2.out).mono ?_; rintro e wb ⟨rfl, hbb⟩; have HO2 := Lib.hid (owns_keep HOU.out hbb); have HBb := Lib.hid (HBa.out.trans (hbb.mono HBa.out.size)); clear HOU HBa hbb k0 k1 k2 k3 k4 k5 k6 k7 k8 k9 k10) | (at_builtin; refine wpList_append_own _ rfl _ _ 33 rfl W.heap.size 3 i0 (.int .i64 0) 1 8 Tryz.underlying33 hi hz0 hz1 hz2 rfl (by decide) _ _ _ rfl (HO2.out.alloc _) ⟨_, 0, none⟩ 1 1 [.int .i64 d] rfl rfl (cell_one_new _ _ _) (by simp [Value.oneCell']) h63 hby (by have := HBb.out.size; simp only [World.size_alloc]; omega) ?_; intro v' w4 hown' hgrow _; have HB4 := Lib.hid (owns_grown (HBb.out.alloc HBb.out.size _) (HO2.out.alloc _) hgrow (by have := HBb.out.size; simp only [World.size_alloc]; omega)); have HO4 := Lib.hid hown'; clear hown' hgrow))
    have ho4 : w4.ownsRow W.heap.size 3 1 v' (m + 1) ((us ++ [d]).map (Value.int .i64)) := by simpa using HO4.out
    obtain ⟨hlen, ⟨hv, h0⟩ | ⟨g', cap', cur, hv, -, -, -, -, -, -⟩⟩ := (show w4.ownsRow W.heap.size 3 1 v' (m + 1) ((us ++ [d]).map (Value.int .i64)) from ho4)
    · omega
    · subst hv
      refine (SortO ho4 HB4.out.size (by omega)).mono ?_
      rintro e w5 ⟨rfl, ho5, hb5⟩
      have HO5 := Lib.hid ho5
      have HB5 := Lib.hid (HB4.out.trans hb5)
      clear ho5 hb5
      go_wp2_with fail
      refine (CompactO HO5.out HB5.out.size (by omega)).mono ?_
      rintro e w6 ⟨v6, rfl, ho6, hb6⟩
      have HO6 := Lib.hid ho6
      have HB6 := Lib.hid (HB5.out.trans hb6)
      clear ho6 hb6
      go_wp2_with fail
      go_ret
      have h := HO6.out
      rw [compact_sorted, HV2.out] at h
      exact ⟨_, rfl, owns_base h HW.out.size, HW.out.trans (HB6.out.mono HW.out.size)⟩
end Go.Proofs.YtbddjneinfkmpaaGreatDoor.Bi
