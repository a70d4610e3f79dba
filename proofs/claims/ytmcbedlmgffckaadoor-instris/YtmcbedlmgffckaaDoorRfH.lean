/- The document's answer for layer 5: Vars. -/
import Derived.Test.YtmcbedlmgffckaaDoorVarD
import Derived.Test.YtmcbedlmgffckaaDoorRfD
namespace Go.Proofs.YtmcbedlmgffckaaDoor.Bi
open Go Go.RowKit Go.Sort

set_option maxRecDepth 100000 in
set_option maxHeartbeats 16000000 in
theorem rVars_any (i : Ins) (w : World) (vs : List Int) (hv : i.vars = vs) :
    Calls Tryd.prog 18 #[i.val] w fun e w' => ∃ u, e = .returned u ∧ w'.ownsRow w.heap.size 3 1 u vs.length (vs.map (Value.int .i64)) ∧ Below w.heap.size w w' := by
  have HV : Hid (sortL (if 0 ≤ i.defn then addL i.uses i.defn else i.uses) = vs) := hv
  have HND : Hid ((if 0 ≤ i.defn then addL i.uses i.defn else i.uses).Nodup) := by show List.Nodup _; split; exact addL_nodup (uses_nodup i) _; exact uses_nodup i
  have HNN : Hid (∀ x ∈ (if 0 ≤ i.defn then addL i.uses i.defn else i.uses), 0 ≤ x) := by
    intro x hx
    split at hx
    · rcases (mem_addL _ _ _).1 hx with h | h
      · exact uses_nonneg i x h
      · omega
    · exact uses_nonneg i x hx
  clear hv
  have HW := Lib.hid (below1 w (.cells i.cells.toArray 24))
  have HB := Lib.hid (BoxL.new w i.cells 24)
  have HU := Lib.hid (fun W => rUses_any i W)
  have HD := Lib.hid (fun W => rDef_any i W _ rfl)
  have HUL := Lib.hid (uses_le i)
  generalize i.defn = d at *
  generalize i.uses = us at *
  obtain ⟨i0, hi, hz0, hz1, hz2⟩ := info_parts Tryd_info3
  obtain ⟨id, kind, dst, a, b, c, f, n, x0, x1, x2⟩ := i
  unfold Ins.val at *
  unfold Ins.cells at HB HW
  dsimp only at *
  generalize hE : w.alloc (.cells (List.toArray [.int .i64 id, .int .i64 kind, .int .i64 dst, .int .i64 a, .int .i64 b, .int .i64 c, .int .i64 f, .int .i64 n, .int .i64 x0, .int .i64 x1, .int .i64 x2]) 24) = W at HB HW
  have hE' : w.alloc (.cells #[.int .i64 id, .int .i64 kind, .int .i64 dst, .int .i64 a, .int .i64 b, .int .i64 c, .int .i64 f, .int .i64 n, .int .i64 x0, .int .i64 x1, .int .i64 x2] 24) = W := hE
  clear hE
  obtain ⟨g, hg⟩ : ∃ g, w.heap.size = g := ⟨_, rfl⟩
  rw [hg] at HB
  have HG := Lib.hid (HB.out.lt (Nat.zero_lt_succ _))
  have k0 := (HB.out 0 _ rfl).1
  have k1 := (HB.out 1 _ rfl).1
  have k2 := (HB.out 2 _ rfl).1
  have k3 := (HB.out 3 _ rfl).1
  have k4 := (HB.out 4 _ rfl).1
  have k5 := (HB.out 5 _ rfl).1
  have k6 := (HB.out 6 _ rfl).1
  have k7 := (HB.out 7 _ rfl).1
  have k8 := (HB.out 8 _ rfl).1
  have k9 := (HB.out 9 _ rfl).1
  have k10 := (HB.out 10 _ rfl).1
  obtain ⟨L, hL⟩ : ∃ L, (if 0 ≤ d then addL us d else us) = L := ⟨_, rfl⟩
  rw [hL] at HV HND HNN
  have HLL : Hid (L.length ≤ 6) := by show _ ≤ _; rw [← hL]; have := addL_length us d; have := HUL.out; split <;> omega
  have HL := Lib.hid hL
  clear hL
  by_cases hd : 0 ≤ d
  · have HLd : Hid (addL us d = L) := by have h := HL.out; rw [if_pos hd] at h; exact h
    go_enter Tryd.func18, Tryd.ntmps18
    go_wp2_with (first | (go_at_call 16; refine (HU.out _).mono ?_; rintro e wa ⟨u, rfl, hou, hba⟩; have HO := Lib.hid hou; have HB2 := Lib.hid (HB.out.below hba HG.out); have HBw := Lib.hid hba; clear hou HB HG hba k0 k1 k2 k3 k4 k5 k6 k7 k8 k9 k10; have k0 := (HB2.out 0 _ rfl).1; have k1 := (HB2.out 1 _ rfl).1; have k2 := (HB2.out 2 _ rfl).1; have k3 := (HB2.out 3 _ rfl).1; have k4 := (HB2.out 4 _ rfl).1; have k5 := (HB2.out 5 _ rfl).1; have k6 := (HB2.out 6 _ rfl).1; have k7 := (HB2.out 7 _ rfl).1; have k8 := (HB2.out 8 _ rfl).1; have k9 := (HB2.out 9 _ rfl).1; have k10 := (HB2.out 10 _ rfl).1) | (go_at_call 13; refine (HD.out _).mono ?_; rintro e wb ⟨rfl, hbb⟩; have HO' := Lib.hid (owns_keep HO.out hbb); have HBx := Lib.hid (HBw.out.trans (hbb.mono HBw.out.size)); have HB3 := Lib.hid (HB2.out.below hbb (HB2.out.lt (Nat.zero_lt_succ _))); clear HO HBw HB2 hbb k0 k1 k2 k3 k4 k5 k6 k7 k8 k9 k10; have HO := HO'; have HBw := HBx; have HB2 := HB3; clear HO' HBx HB3; have k0 := (HB2.out 0 _ rfl).1; have k1 := (HB2.out 1 _ rfl).1; have k2 := (HB2.out 2 _ rfl).1; have k3 := (HB2.out 3 _ rfl).1; have k4 := (HB2.out 4 _ rfl).1; have k5 := (HB2.out 5 _ rfl).1; have k6 := (HB2.out 6 _ rfl).1; have k7 := (HB2.out 7 _ rfl).1; have k8 := (HB2.out 8 _ rfl).1; have k9 := (HB2.out 9 _ rfl).1; have k10 := (HB2.out 10 _ rfl).1) | (go_at_call 52; refine (radd_any W.heap.size _ us d _ _ HO.out HBw.out.size (Nat.le_trans HUL.out (by decide)) _ rfl).mono ?_; rintro e wb ⟨v1, rfl, hov, hbb⟩; have HBx := Lib.hid (HBw.out.trans hbb); clear HO HBw hbb k0 k1 k2 k3 k4 k5 k6 k7 k8 k9 k10; have HO := Lib.hid hov; have HBw := HBx; clear hov HBx))
    rw [HLd.out] at HO
    obtain ⟨T, hTT⟩ : ∃ T, L.length = T := ⟨_, rfl⟩
    rw [hTT] at HO
    have HT := Lib.hid hTT
    have hT6 : T ≤ 6 := by rw [← hTT]; exact HLL.out
    clear hTT
    obtain ⟨al, cl, rfl, -, hIl⟩ := is_of_ints HO.out
    have HIl := Lib.hid hIl
    have HSL : Hid ((sortL L).length = T) := (sortL_length HND.out).trans HT.out
    clear hIl HO
    go_loopw [4] (fun v wr => ∃ j : Nat, j ≤ T ∧ Hid (wr.ownsRow wb.heap.size 3 1 v j (((sortL L).take j).map (Value.int .i64))) ∧ Hid (Below wb.heap.size wb wr)) (fun v _ => T - (match v with | .slice _ q _ => q | _ => 0))
    case atStart => exact ⟨0, Nat.zero_le _, World.ownsRow_nil _ _ _ _, Below.refl _ _⟩
    case round =>
      obtain ⟨j, hj, hown, hbr⟩ := hrel
      obtain ⟨av, cv, rfl, hlv, hIv⟩ := is_of_ints hown.out
      have HIv := Lib.hid hIv
      clear hIv hlv
      by_cases hlt : j < T
      rotate_left
      · obtain rfl : j = T := by omega
        have hji : ¬ ((j : Int) < (j : Int)) := by omega
        go_wp2_with fail
        go_ret
        have h := hown.out
        rw [List.take_of_length_le (by rw [HSL.out]; exact Nat.le_refl _), HV.out] at h
        have hvl : vs.length = j := by rw [← HV.out]; exact HSL.out
        rw [hvl]
        have hgs : g ≤ W.heap.size := by rw [← hg]; exact HW.out.size
        rw [hg] at HW
        exact ⟨_, rfl, owns_base h (Nat.le_trans hgs HBw.out.size), HW.out.trans ((HBw.out.trans (hbr.out.mono HBw.out.size)).mono hgs)⟩
      · have hji : (j : Int) < (T : Int) := by omega
        obtain ⟨lo, hlo⟩ : ∃ lo, (if j = 0 then none else (sortL L)[j - 1]?) = lo := ⟨_, rfl⟩
        have HNX : Hid (bst lo L = ((sortL L)[j]?).getD 0) := by
          have h := bst_next HNN.out (j := j) (by rw [HSL.out]; exact hlt)
          rw [hlo] at h
          show _ = _
          rw [h, List.getElem?_eq_getElem (by rw [HSL.out]; exact hlt)]; rfl
        have HLO := Lib.hid hlo
        clear hlo
        obtain ⟨wo, hwo⟩ : ∃ wo : World, wo = wr := ⟨_, rfl⟩
        subst hwo
        go_wp2_with fail
        go_loopw [5, 6] (fun bx kx wr' => ∃ q : Nat, q ≤ T ∧ kx = .int .i64 q ∧ bx = .int .i64 (bst lo (L.take q)) ∧ Hid (Below wo.heap.size wo wr')) (fun _ kx _ => T - (intOf kx).toNat)
        case atStart => exact ⟨0, Nat.zero_le _, rfl, rfl, Below.refl _ _⟩
        case round =>
          obtain ⟨q, hq, rfl, rfl, hbi⟩ := hrel
          by_cases hqlt : q < T
          rotate_left
          · obtain rfl : q = T := by omega
            have hqi : ¬ ((q : Int) < (q : Int)) := by omega
            have hnx : bst lo (L.take q) = ((sortL L)[j]?).getD 0 := by rw [List.take_of_length_le (by rw [HT.out]; exact Nat.le_refl _)]; exact HNX.out
            rw [hnx]
            obtain ⟨nx, hnxx⟩ : ∃ nx, ((sortL L)[j]?).getD 0 = nx := ⟨_, rfl⟩
            rw [hnxx]
            have HNY : Hid ((sortL L).take (j + 1) = (sortL L).take j ++ [nx]) := by
              have hjs : j < (sortL L).length := by rw [HSL.out]; exact hlt
              show _ = _
              rw [List.take_succ_eq_append_getElem hjs, ← hnxx, List.getElem?_eq_getElem hjs]; rfl
            have HO2 := Lib.hid (owns_keep hown.out hbi.out)
            have HBI := Lib.hid (hbr.out.trans (hbi.out.mono hbr.out.size))
            have h63 : j + 1 ≤ maxLen := by unfold maxLen; omega
            have hby : (j + 1) * 8 ≤ 140737488355328 := by omega
            have hsz : wb.heap.size ≤ wr.heap.size := HBI.out.size
            clear hnx hnxx
            go_wp2_with (at_builtin; refine wpList_append_own _ rfl _ _ 29 rfl wb.heap.size 3 i0 (.int .i64 0) 1 8 Tryd.underlying29 hi hz0 hz1 hz2 rfl (by decide) _ _ _ rfl (HO2.out.alloc _) ⟨_, 0, none⟩ 1 1 [.int .i64 nx] rfl rfl (cell_one_new _ _ _) (by simp [Value.oneCell']) h63 hby (by simp only [World.size_alloc]; omega) ?_; intro v' w4 hown' hgrow _; have HB4 := Lib.hid (owns_grown (HBI.out.alloc hsz _) (HO2.out.alloc _) hgrow (by simp only [World.size_alloc]; omega)); have HO4 := Lib.hid hown'; clear hown' hgrow)
            go_roundw
            case rel =>
              refine ⟨j + 1, by omega, ?_, HB4.out⟩
              have h := HO4.out
              show World.ownsRow _ _ _ _ _ _ _
              rw [HNY.out]
              simpa using h
            case measure =>
              have h := HO4.out
              obtain ⟨a9, c9, rfl, -, -⟩ := is_of_ints (l := (sortL L).take j ++ [nx]) (by simpa using h)
              simp
              omega
          · have hqi : (q : Int) < (T : Int) := by omega
            obtain ⟨bl, ol, rfl, hbl, ecl⟩ := HIl.out q (by rw [HT.out]; exact hqlt)
            obtain ⟨x, hx⟩ : ∃ x, L[q]?.getD 0 = x := ⟨_, rfl⟩
            rw [hx] at ecl
            have hbl2 : bl < wo.heap.size := Nat.lt_of_lt_of_le hbl hbr.out.size
            have gl := (hbi.out.cell (p := ⟨bl, ol + q, none⟩) hbl2).trans ((hbr.out.cell (p := ⟨bl, ol + q, none⟩) hbl).trans ecl)
            have HTK : Hid (L.take (q + 1) = L.take q ++ [x]) := by
              have hql : q < L.length := by rw [HT.out]; exact hqlt
              show _ = _
              rw [List.take_succ_eq_append_getElem hql, ← hx]; simp [hql]
            have HBS : Hid (bst lo (L.take (q + 1)) = if abv lo x && (decide (bst lo (L.take q) < 0) || decide (x < bst lo (L.take q))) then x else bst lo (L.take q)) := by show _ = _; rw [HTK.out]; exact bst_snoc _ _ _
            obtain ⟨bs, hbs⟩ : ∃ bs, bst lo (L.take q) = bs := ⟨_, rfl⟩
            rw [hbs] at HBS ⊢
            clear ecl hx hbs
            rcases Nat.eq_zero_or_pos j with hj0 | hj0
            · have HLN : Hid (lo = none) := by have h1 := HLO.out; rw [if_pos hj0] at h1; exact h1.symm
              have hj1 : ((j : Int) == 0) = true := by simp [hj0]
              clear hj0
              by_cases hb0 : bs < 0
              · go_wp2_with fail
                go_quiet (fail)
                go_wp2_with fail
                go_roundw
                case rel => exact ⟨q + 1, by omega, by go_num, by rw [HBS.out, HLN.out]; simp [abv, hb0], below_drewN hbi.out _⟩
                case measure => simp [intOf]; omega
              · by_cases hxb : x < bs
                · go_wp2_with fail
                  go_quiet (fail)
                  go_wp2_with fail
                  go_roundw
                  case rel => exact ⟨q + 1, by omega, by go_num, by rw [HBS.out, HLN.out]; simp [abv, hxb], below_drewN hbi.out _⟩
                  case measure => simp [intOf]; omega
                · go_wp2_with fail
                  go_quiet (fail)
                  go_wp2_with fail
                  go_roundw
                  case rel => exact ⟨q + 1, by omega, by go_num, by rw [HBS.out, HLN.out]; simp [abv]; omega, below_drewN hbi.out _⟩
                  case measure => simp [intOf]; omega
            · obtain ⟨jm, hjm⟩ : ∃ jm, jm + 1 = j := ⟨j - 1, by omega⟩
              have hjs : jm < (sortL L).length := by rw [HSL.out]; omega
              obtain ⟨bo, oo, rfl, hbo, eco⟩ := HIv.out jm (by rw [List.length_take, HSL.out]; omega)
              obtain ⟨y, hy⟩ : ∃ y, ((sortL L).take j)[jm]?.getD 0 = y := ⟨_, rfl⟩
              rw [hy] at eco
              have go := (hbi.out.cell (p := ⟨bo, oo + jm, none⟩) hbo).trans eco
              have HLY : Hid (lo = some y) := by
                have h1 := HLO.out
                rw [if_neg (by omega), ← hjm, Nat.add_sub_cancel, List.getElem?_eq_getElem hjs] at h1
                rw [List.getElem?_take_of_lt (by omega), List.getElem?_eq_getElem hjs] at hy
                show _ = _
                rw [← h1, ← hy]; rfl
              clear eco hy
              have HLN := HLY
              have hj1 : ((j : Int) == 0) = false := by simp; omega
              have hj2 : (jm : Int) < (j : Int) := by omega
              have hj3 : IntKind.wrap .i64 ((j : Int) - 1) = (jm : Int) := by rw [show (j : Int) - 1 = (jm : Int) by omega]; exact Go.IntWalk.i64_in (jm : Int) ⟨by omega, by omega⟩
              have hj4 : (0 : Int) ≤ (jm : Int) := by omega
              clear hjm hjs hj0
              by_cases hyx : y < x
              · by_cases hb0 : bs < 0
                · go_wp2_with fail
                  go_quiet (fail)
                  go_wp2_with fail
                  go_roundw
                  case rel => exact ⟨q + 1, by omega, by go_num, by rw [HBS.out, HLN.out]; simp [abv, hyx, hb0], below_drewN hbi.out _⟩
                  case measure => simp [intOf]; omega
                · by_cases hxb : x < bs
                  · go_wp2_with fail
                    go_quiet (fail)
                    go_wp2_with fail
                    go_roundw
                    case rel => exact ⟨q + 1, by omega, by go_num, by rw [HBS.out, HLN.out]; simp [abv, hyx, hxb], below_drewN hbi.out _⟩
                    case measure => simp [intOf]; omega
                  · go_wp2_with fail
                    go_quiet (fail)
                    go_wp2_with fail
                    go_roundw
                    case rel => exact ⟨q + 1, by omega, by go_num, by rw [HBS.out, HLN.out]; simp [abv, hyx]; omega, below_drewN hbi.out _⟩
                    case measure => simp [intOf]; omega
              · go_wp2_with fail
                go_quiet (fail)
                go_wp2_with fail
                go_roundw
                case rel => exact ⟨q + 1, by omega, by go_num, by rw [HBS.out, HLN.out]; simp [abv]; omega, below_drewN hbi.out _⟩
                case measure => simp [intOf]; omega
  · have hd' : d < 0 := by omega
    have HLd : Hid (us = L) := by have h := HL.out; rw [if_neg hd] at h; exact h
    go_enter Tryd.func18, Tryd.ntmps18
    go_wp2_with (first | (go_at_call 16; refine (HU.out _).mono ?_; rintro e wa ⟨u, rfl, hou, hba⟩; have HO := Lib.hid hou; have HB2 := Lib.hid (HB.out.below hba HG.out); have HBw := Lib.hid hba; clear hou HB HG hba k0 k1 k2 k3 k4 k5 k6 k7 k8 k9 k10; have k0 := (HB2.out 0 _ rfl).1; have k1 := (HB2.out 1 _ rfl).1; have k2 := (HB2.out 2 _ rfl).1; have k3 := (HB2.out 3 _ rfl).1; have k4 := (HB2.out 4 _ rfl).1; have k5 := (HB2.out 5 _ rfl).1; have k6 := (HB2.out 6 _ rfl).1; have k7 := (HB2.out 7 _ rfl).1; have k8 := (HB2.out 8 _ rfl).1; have k9 := (HB2.out 9 _ rfl).1; have k10 := (HB2.out 10 _ rfl).1) | (go_at_call 13; refine (HD.out _).mono ?_; rintro e wb ⟨rfl, hbb⟩; have HO' := Lib.hid (owns_keep HO.out hbb); have HBx := Lib.hid (HBw.out.trans (hbb.mono HBw.out.size)); have HB3 := Lib.hid (HB2.out.below hbb (HB2.out.lt (Nat.zero_lt_succ _))); clear HO HBw HB2 hbb k0 k1 k2 k3 k4 k5 k6 k7 k8 k9 k10; have HO := HO'; have HBw := HBx; have HB2 := HB3; clear HO' HBx HB3; have k0 := (HB2.out 0 _ rfl).1; have k1 := (HB2.out 1 _ rfl).1; have k2 := (HB2.out 2 _ rfl).1; have k3 := (HB2.out 3 _ rfl).1; have k4 := (HB2.out 4 _ rfl).1; have k5 := (HB2.out 5 _ rfl).1; have k6 := (HB2.out 6 _ rfl).1; have k7 := (HB2.out 7 _ rfl).1; have k8 := (HB2.out 8 _ rfl).1; have k9 := (HB2.out 9 _ rfl).1; have k10 := (HB2.out 10 _ rfl).1))
    rw [HLd.out] at HO
    obtain ⟨T, hTT⟩ : ∃ T, L.length = T := ⟨_, rfl⟩
    rw [hTT] at HO
    have HT := Lib.hid hTT
    have hT6 : T ≤ 6 := by rw [← hTT]; exact HLL.out
    clear hTT
    obtain ⟨al, cl, rfl, -, hIl⟩ := is_of_ints HO.out
    have HIl := Lib.hid hIl
    have HSL : Hid ((sortL L).length = T) := (sortL_length HND.out).trans HT.out
    clear hIl HO
    go_loopw [4] (fun v wr => ∃ j : Nat, j ≤ T ∧ Hid (wr.ownsRow wb.heap.size 3 1 v j (((sortL L).take j).map (Value.int .i64))) ∧ Hid (Below wb.heap.size wb wr)) (fun v _ => T - (match v with | .slice _ q _ => q | _ => 0))
    case atStart => exact ⟨0, Nat.zero_le _, World.ownsRow_nil _ _ _ _, Below.refl _ _⟩
    case round =>
      obtain ⟨j, hj, hown, hbr⟩ := hrel
      obtain ⟨av, cv, rfl, hlv, hIv⟩ := is_of_ints hown.out
      have HIv := Lib.hid hIv
      clear hIv hlv
      by_cases hlt : j < T
      rotate_left
      · obtain rfl : j = T := by omega
        have hji : ¬ ((j : Int) < (j : Int)) := by omega
        go_wp2_with fail
        go_ret
        have h := hown.out
        rw [List.take_of_length_le (by rw [HSL.out]; exact Nat.le_refl _), HV.out] at h
        have hvl : vs.length = j := by rw [← HV.out]; exact HSL.out
        rw [hvl]
        have hgs : g ≤ W.heap.size := by rw [← hg]; exact HW.out.size
        rw [hg] at HW
        exact ⟨_, rfl, owns_base h (Nat.le_trans hgs HBw.out.size), HW.out.trans ((HBw.out.trans (hbr.out.mono HBw.out.size)).mono hgs)⟩
      · have hji : (j : Int) < (T : Int) := by omega
        obtain ⟨lo, hlo⟩ : ∃ lo, (if j = 0 then none else (sortL L)[j - 1]?) = lo := ⟨_, rfl⟩
        have HNX : Hid (bst lo L = ((sortL L)[j]?).getD 0) := by
          have h := bst_next HNN.out (j := j) (by rw [HSL.out]; exact hlt)
          rw [hlo] at h
          show _ = _
          rw [h, List.getElem?_eq_getElem (by rw [HSL.out]; exact hlt)]; rfl
        have HLO := Lib.hid hlo
        clear hlo
        obtain ⟨wo, hwo⟩ : ∃ wo : World, wo = wr := ⟨_, rfl⟩
        subst hwo
        go_wp2_with fail
        go_loopw [5, 6] (fun bx kx wr' => ∃ q : Nat, q ≤ T ∧ kx = .int .i64 q ∧ bx = .int .i64 (bst lo (L.take q)) ∧ Hid (Below wo.heap.size wo wr')) (fun _ kx _ => T - (intOf kx).toNat)
        case atStart => exact ⟨0, Nat.zero_le _, rfl, rfl, Below.refl _ _⟩
        case round =>
          obtain ⟨q, hq, rfl, rfl, hbi⟩ := hrel
          by_cases hqlt : q < T
          rotate_left
          · obtain rfl : q = T := by omega
            have hqi : ¬ ((q : Int) < (q : Int)) := by omega
            have hnx : bst lo (L.take q) = ((sortL L)[j]?).getD 0 := by rw [List.take_of_length_le (by rw [HT.out]; exact Nat.le_refl _)]; exact HNX.out
            rw [hnx]
            obtain ⟨nx, hnxx⟩ : ∃ nx, ((sortL L)[j]?).getD 0 = nx := ⟨_, rfl⟩
            rw [hnxx]
            have HNY : Hid ((sortL L).take (j + 1) = (sortL L).take j ++ [nx]) := by
              have hjs : j < (sortL L).length := by rw [HSL.out]; exact hlt
              show _ = _
              rw [List.take_succ_eq_append_getElem hjs, ← hnxx, List.getElem?_eq_getElem hjs]; rfl
            have HO2 := Lib.hid (owns_keep hown.out hbi.out)
            have HBI := Lib.hid (hbr.out.trans (hbi.out.mono hbr.out.size))
            have h63 : j + 1 ≤ maxLen := by unfold maxLen; omega
            have hby : (j + 1) * 8 ≤ 140737488355328 := by omega
            have hsz : wb.heap.size ≤ wr.heap.size := HBI.out.size
            clear hnx hnxx
            go_wp2_with (at_builtin; refine wpList_append_own _ rfl _ _ 29 rfl wb.heap.size 3 i0 (.int .i64 0) 1 8 Tryd.underlying29 hi hz0 hz1 hz2 rfl (by decide) _ _ _ rfl (HO2.out.alloc _) ⟨_, 0, none⟩ 1 1 [.int .i64 nx] rfl rfl (cell_one_new _ _ _) (by simp [Value.oneCell']) h63 hby (by simp only [World.size_alloc]; omega) ?_; intro v' w4 hown' hgrow _; have HB4 := Lib.hid (owns_grown (HBI.out.alloc hsz _) (HO2.out.alloc _) hgrow (by simp only [World.size_alloc]; omega)); have HO4 := Lib.hid hown'; clear hown' hgrow)
            go_roundw
            case rel =>
              refine ⟨j + 1, by omega, ?_, HB4.out⟩
              have h := HO4.out
              show World.ownsRow _ _ _ _ _ _ _
              rw [HNY.out]
              simpa using h
            case measure =>
              have h := HO4.out
              obtain ⟨a9, c9, rfl, -, -⟩ := is_of_ints (l := (sortL L).take j ++ [nx]) (by simpa using h)
              simp
              omega
          · have hqi : (q : Int) < (T : Int) := by omega
            obtain ⟨bl, ol, rfl, hbl, ecl⟩ := HIl.out q (by rw [HT.out]; exact hqlt)
            obtain ⟨x, hx⟩ : ∃ x, L[q]?.getD 0 = x := ⟨_, rfl⟩
            rw [hx] at ecl
            have hbl2 : bl < wo.heap.size := Nat.lt_of_lt_of_le hbl hbr.out.size
            have gl := (hbi.out.cell (p := ⟨bl, ol + q, none⟩) hbl2).trans ((hbr.out.cell (p := ⟨bl, ol + q, none⟩) hbl).trans ecl)
            have HTK : Hid (L.take (q + 1) = L.take q ++ [x]) := by
              have hql : q < L.length := by rw [HT.out]; exact hqlt
              show _ = _
              rw [List.take_succ_eq_append_getElem hql, ← hx]; simp [hql]
            have HBS : Hid (bst lo (L.take (q + 1)) = if abv lo x && (decide (bst lo (L.take q) < 0) || decide (x < bst lo (L.take q))) then x else bst lo (L.take q)) := by show _ = _; rw [HTK.out]; exact bst_snoc _ _ _
            obtain ⟨bs, hbs⟩ : ∃ bs, bst lo (L.take q) = bs := ⟨_, rfl⟩
            rw [hbs] at HBS ⊢
            clear ecl hx hbs
            rcases Nat.eq_zero_or_pos j with hj0 | hj0
            · have HLN : Hid (lo = none) := by have h1 := HLO.out; rw [if_pos hj0] at h1; exact h1.symm
              have hj1 : ((j : Int) == 0) = true := by simp [hj0]
              clear hj0
              by_cases hb0 : bs < 0
              · go_wp2_with fail
                go_quiet (fail)
                go_wp2_with fail
                go_roundw
                case rel => exact ⟨q + 1, by omega, by go_num, by rw [HBS.out, HLN.out]; simp [abv, hb0], below_drewN hbi.out _⟩
                case measure => simp [intOf]; omega
              · by_cases hxb : x < bs
                · go_wp2_with fail
                  go_quiet (fail)
                  go_wp2_with fail
                  go_roundw
                  case rel => exact ⟨q + 1, by omega, by go_num, by rw [HBS.out, HLN.out]; simp [abv, hxb], below_drewN hbi.out _⟩
                  case measure => simp [intOf]; omega
                · go_wp2_with fail
                  go_quiet (fail)
                  go_wp2_with fail
                  go_roundw
                  case rel => exact ⟨q + 1, by omega, by go_num, by rw [HBS.out, HLN.out]; simp [abv]; omega, below_drewN hbi.out _⟩
                  case measure => simp [intOf]; omega
            · obtain ⟨jm, hjm⟩ : ∃ jm, jm + 1 = j := ⟨j - 1, by omega⟩
              have hjs : jm < (sortL L).length := by rw [HSL.out]; omega
              obtain ⟨bo, oo, rfl, hbo, eco⟩ := HIv.out jm (by rw [List.length_take, HSL.out]; omega)
              obtain ⟨y, hy⟩ : ∃ y, ((sortL L).take j)[jm]?.getD 0 = y := ⟨_, rfl⟩
              rw [hy] at eco
              have go := (hbi.out.cell (p := ⟨bo, oo + jm, none⟩) hbo).trans eco
              have HLY : Hid (lo = some y) := by
                have h1 := HLO.out
                rw [if_neg (by omega), ← hjm, Nat.add_sub_cancel, List.getElem?_eq_getElem hjs] at h1
                rw [List.getElem?_take_of_lt (by omega), List.getElem?_eq_getElem hjs] at hy
                show _ = _
                rw [← h1, ← hy]; rfl
              clear eco hy
              have HLN := HLY
              have hj1 : ((j : Int) == 0) = false := by simp; omega
              have hj2 : (jm : Int) < (j : Int) := by omega
              have hj3 : IntKind.wrap .i64 ((j : Int) - 1) = (jm : Int) := by rw [show (j : Int) - 1 = (jm : Int) by omega]; exact Go.IntWalk.i64_in (jm : Int) ⟨by omega, by omega⟩
              have hj4 : (0 : Int) ≤ (jm : Int) := by omega
              clear hjm hjs hj0
              by_cases hyx : y < x
              · by_cases hb0 : bs < 0
                · go_wp2_with fail
                  go_quiet (fail)
                  go_wp2_with fail
                  go_roundw
                  case rel => exact ⟨q + 1, by omega, by go_num, by rw [HBS.out, HLN.out]; simp [abv, hyx, hb0], below_drewN hbi.out _⟩
                  case measure => simp [intOf]; omega
                · by_cases hxb : x < bs
                  · go_wp2_with fail
                    go_quiet (fail)
                    go_wp2_with fail
                    go_roundw
                    case rel => exact ⟨q + 1, by omega, by go_num, by rw [HBS.out, HLN.out]; simp [abv, hyx, hxb], below_drewN hbi.out _⟩
                    case measure => simp [intOf]; omega
                  · go_wp2_with fail
                    go_quiet (fail)
                    go_wp2_with fail
                    go_roundw
                    case rel => exact ⟨q + 1, by omega, by go_num, by rw [HBS.out, HLN.out]; simp [abv, hyx]; omega, below_drewN hbi.out _⟩
                    case measure => simp [intOf]; omega
              · go_wp2_with fail
                go_quiet (fail)
                go_wp2_with fail
                go_roundw
                case rel => exact ⟨q + 1, by omega, by go_num, by rw [HBS.out, HLN.out]; simp [abv]; omega, below_drewN hbi.out _⟩
                case measure => simp [intOf]; omega
end Go.Proofs.YtmcbedlmgffckaaDoor.Bi
