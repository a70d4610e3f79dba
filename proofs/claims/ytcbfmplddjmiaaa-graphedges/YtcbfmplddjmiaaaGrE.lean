/- Graphs: postorder, walked. -/
import Derived.Test.YtcbfmplddjmiaaaGrD
namespace Go.Proofs.Ytcbfmplddjmiaaa
open Go Go.RowKit Go.Sort

theorem own_cell {W : World} {M gw n cw : Nat} {l : List Int} (h : W.ownsRow M 3 1 (.slice (some ⟨gw, 0, none⟩) n cw) n (l.map (Value.int .i64))) {j : Nat} (hj : j < l.length) : W.cell? ⟨gw, j, none⟩ = some (.int .i64 (l[j]?.getD 0)) := by
  have h2 := h.cells (g := gw) rfl j (.int .i64 (l[j]?.getD 0)) (by simp [hj])
  have hadd : (⟨gw, 0, none⟩ : Addr).add j = ⟨gw, j, none⟩ := by unfold Addr.add; split <;> simp_all
  rwa [hadd] at h2
theorem top_at (a : Nat) (ws : List Nat) {w : List Nat} (hw : w = a :: ws) {m : Nat} (hm : ws.length = m) : m < (zs w.reverse).length ∧ (zs w.reverse)[m]?.getD 0 = (a : Int) := by
  subst hw hm
  exact ⟨by simp [zs], by simp [zs]⟩

/-- The way down, at its beginning. -/
theorem mis_start {B : Nat} {w1 : World} {gb n : Nat} {R0 : Nat → Value} {E : Nat → Nat → Bool} {x : Nat} (h : GOwn B w1 gb n R0 (fun j => zs (rowE n (E j)))) :
    MIs w1.heap.size ((w1.alloc (.cells ((falses n).setIfInBounds x (.bool true)) 4)).alloc (.cells #[.int .i64 (x : Int)] 3)) n gb w1.heap.size R0 (.slice (some ⟨w1.heap.size + 1, 0, none⟩) 1 1) (.slice none 0 0) (st0 n E x) := by
  have hb : Below w1.heap.size w1 ((w1.alloc (.cells ((falses n).setIfInBounds x (.bool true)) 4)).alloc (.cells #[.int .i64 (x : Int)] 3)) := below2 w1 _ _
  have h2 := h.below hb
  refine ⟨h.top.lt, h2.top, fun j hj => ?_, Nat.le_refl _, ?_, ?_, World.ownsRow_nil _ _ _ _, by simp [Value.ownBlock], by simp [Value.ownBlock], .inr (by simp [Value.ownBlock])⟩
  · have e : (st0 n E x).leftOf j = rowE n (E j) := rows_at hj
    rw [e]
    obtain ⟨hl, ⟨e1, h0⟩ | ⟨g, cap, cur, e1, hb1, hc, hle, hm, hs, ht⟩⟩ := id (h.row j hj)
    · obtain ⟨ra, rc, e2, _, hI⟩ := is_of_ints (h.row j hj)
      rw [e1] at e2
      simp only [Value.slice.injEq] at e2
      obtain ⟨rfl, _, rfl⟩ := e2
      have hz : rowE n (E j) = [] := List.eq_nil_of_length_eq_zero (by simpa [zs_length] using h0)
      refine ⟨none, 0, by rw [e1, hz]; rfl, by rw [hz]; simp, (hI.below hb), fun p hp => by cases hp⟩
    · obtain ⟨ra, rc, e2, _, hI⟩ := is_of_ints (h.row j hj)
      rw [e1] at e2
      cases e2
      rw [zs_length] at e1 hle
      refine ⟨_, _, e1, hle, hI.below hb, fun p hp => ?_⟩
      cases hp
      intro e3
      exact h.apart j hj (by rw [e1]; exact congrArg some e3)
  · show World.rowIs _ _ 4 _ _
    have h1 := World.rowIs_alloc w1 ((falses n).setIfInBounds x (.bool true)) 4 (fun j => .bool ((st0 n E x).gone[j]?.getD false)) (fun i hi => by
      simp only [falses, Array.size_setIfInBounds, Array.size_replicate] at hi
      rw [Array.getElem?_setIfInBounds]
      by_cases e : x = i
      · subst e; simp [falses, st0, hi]
      · simp [falses, st0, hi, e])
    have h3 := h1.alloc (.cells #[.int .i64 (x : Int)] 3)
    have hl : (st0 n E x).gone.length = n := by simp [st0]
    rw [hl]
    simpa [falses] using h3
  · refine ⟨by simp [st0, zs], .inr ⟨w1.heap.size + 1, 1, #[.int .i64 (x : Int)], rfl, by omega, ?_, Nat.le_refl _, by unfold maxLen; omega, rfl, by simp [st0, zs]⟩⟩
    have := heap_alloc_new (w1.alloc (.cells ((falses n).setIfInBounds x (.bool true)) 4)) (.cells #[.int .i64 (x : Int)] 3)
    rwa [World.size_alloc] at this

set_option maxRecDepth 100000 in
set_option maxHeartbeats 4000000 in
theorem postorder_any (a : Option Addr) (g : List (List Int)) (cap x n : Nat) (w : World) (hG : GIs w.heap.size w a g) (hF : FewG g) (hn : g.length = n) (hx : x < n) :
    Calls Try.prog 34 #[.slice a n cap, .int .i64 (x : Int)] w fun e w' => ∃ u, e = .returned u ∧ w'.ownsRow w.heap.size 3 1 u (post n (edge g) x).length ((zs (post n (edge g) x)).map (Value.int .i64)) ∧ Below w.heap.size w w' := by
  have HC := Lib.hid (Clean_any a g cap w hG hF n hn)
  have hn40 : n ≤ 40 := hn ▸ hF.1
  generalize edge g = E at *
  clear hG hF hn
  have hxi : (x : Int) < (n : Int) := by omega
  go_enter Try.func34, Try.ntmps34
  go_wp2_with fail
  go_step3
  go_wp2_with (go_at_call 12; refine HC.out.mono ?_; rintro e w1 ⟨gb, R0, rfl, ho, hb⟩; have HO := Lib.hid ho; have HB1 := Lib.hid hb; have hmk := mk_runB n (by omega) w1; have hfa := (falses_is w1 n); have hce := World.rowIs.cell hfa (i := x) (by rw [List.length_replicate]; exact hx); have hfr := World.rowIs.frozen hfa x; have HFA := Lib.hid hfa; clear ho hb hfa)
  go_step3
  go_wp2_with fail
  have HM0 := Lib.hid (mis_start (E := E) (x := x) HO.out)
  have HB2 := Lib.hid (below2 w1 (.cells ((falses n).setIfInBounds x (.bool true)) 4) (.cells #[.int .i64 (x : Int)] 3))
  have HX := Lib.hid hx
  have HBASE := Lib.hid HB1.out.size
  have HBG := Lib.hid HO.out.base
  have HB3 := Lib.hid (HB1.out.trans (HB2.out.mono HBASE.out))
  clear hce hfr HFA hmk HC HO
  generalize hM : w1.heap.size = M at *
  clear hM hx
  go_loopg [7, 8] (2 * n + 1) (fun g vw vt wr => ∃ R s, Hid (PInv n E x s) ∧ Hid (mu s ≤ g) ∧ Hid (fin g s = post n E x) ∧ Hid (MIs M wr n gb M R vw vt s) ∧ Hid (Below w.heap.size w wr))
  case atStart => exact ⟨_, _, st0_inv E HX.out, mu_st0 n E x, rfl, HM0.out, HB3.out⟩
  case round =>
    obtain ⟨R, s, hP, hmu, hfin, hMI, hB⟩ := hrel
    cases hw : s.way with
    | nil =>
      obtain ⟨aw, cw, rfl, -, -⟩ := is_of_ints hMI.out.way
      have hz : s.way.length = 0 := by rw [hw]; rfl
      rw [hz]
      obtain ⟨at_, ct, rfl, -, -⟩ := is_of_ints hMI.out.told
      obtain ⟨T, hT⟩ : ∃ T, s.told.length = T := ⟨_, rfl⟩
      rw [hT]
      have HT := Lib.hid hT
      clear hT
      go_wp2_with fail
      try rw [Exit.noGoto_ret]
      go_ret
      have he : post n E x = s.told := by
        rw [← hfin.out]
        cases gk with
        | zero => rfl
        | succ f => rw [fin, if_pos hw]
      rw [he, HT.out]
      refine ⟨_, rfl, ?_, hB.out⟩
      have := owns_base hMI.out.told HBASE.out
      rwa [HT.out] at this
    | cons a ws =>
      have han : a < n := (hP.out.rc a (.inr (by rw [hw]; simp))).lt.2
      obtain ⟨_, ⟨e0, h0⟩ | ⟨gw, cw, cur, hvw, -, -, hcw, hcm, -, -⟩⟩ := id hMI.out.way
      · rw [hw] at h0; cases h0
      obtain ⟨m, hm⟩ : ∃ m, ws.length = m := ⟨_, rfl⟩
      have hwl : s.way.length = m + 1 := by rw [hw, List.length_cons, hm]
      rw [hwl] at hvw hcw
      subst hvw
      have hca : wr.cell? ⟨gw, m, none⟩ = some (.int .i64 (a : Int)) := by
        obtain ⟨h1, h2⟩ := top_at a ws hw hm
        have hway : wr.ownsRow M 3 1 (.slice (some ⟨gw, 0, none⟩) (m + 1) cw) (m + 1) ((zs s.way.reverse).map (Value.int .i64)) := by have h := hMI.out.way; rwa [hwl] at h
        have h3 := own_cell hway h1
        rwa [h2] at h3
      have hm40 : m + 1 ≤ 40 := by
        have h1 := nodup_length n _ hP.out.nd fun y hy => (hP.out.rc y (List.mem_append.1 hy).symm).lt.2
        rw [List.length_append] at h1
        omega
      have hwm : wrap64 (m : Int) = (m : Int) := IntWalk.wrap64_in _ (by omega)
      obtain ⟨ra, rc, hR, hrl, hI, hne⟩ := hMI.out.row a han
      have hcl := hMI.out.top.cell han
      rw [hR] at hcl
      obtain ⟨at_, ct, hvt, -, -⟩ := is_of_ints hMI.out.told
      obtain ⟨T, hT⟩ : ∃ T, s.told.length = T := ⟨_, rfl⟩
      rw [hT] at hvt
      subst hvt
      obtain ⟨L, hL⟩ : ∃ L, (s.leftOf a).length = L := ⟨_, rfl⟩
      rw [hL] at hcl hR hrl
      have HR := Lib.hid hR
      have HI := Lib.hid hI
      have HNE := Lib.hid hne
      have htb : s.told.length ≤ 40 := by
        have h1 := nodup_length n _ hP.out.nd fun y hy => (hP.out.rc y (List.mem_append.1 hy).symm).lt.2
        rw [List.length_append] at h1
        omega
      rw [hT] at htb
      have HTB := Lib.hid htb
      clear htb
      have HT := Lib.hid hT
      have HL := Lib.hid hL
      have HWL := Lib.hid hwl
      have HWS := Lib.hid hm
      have HW := Lib.hid hw
      have hai : (a : Int) < (n : Int) := by omega
      have hm0 : (0 : Int) < ((m + 1 : Nat) : Int) := by omega
      clear hR hI hne hT hL hwl hm hw
      obtain ⟨f, rfl⟩ : ∃ f, gk = f + 1 := by
        have h1 := hmu.out
        unfold mu at h1
        rw [HWL.out] at h1
        exact ⟨gk - 1, by omega⟩
      obtain ⟨w2, rfl⟩ : ∃ w2, w2 = wr := ⟨_, rfl⟩
      have hL60 : L ≤ 40 := by
        have := hP.out.ln a
        rw [HL.out] at this
        omega
      have hf0 := hMI.out.top.frozen a
      go_wp2_with fail
      go_loopg [7, 36] L (fun g2 v7 v wy => ∃ k, k + g2 = L ∧ v7 = .slice (some ⟨gw, 0, none⟩) (m + 1) cw ∧ v = .int .i64 (k : Int) ∧ Hid (∀ j, j < k → s.isGone ((s.leftOf a)[j]?.getD 0) = true) ∧ w2 = wy)
      case atStart => exact ⟨0, by omega, rfl, rfl, fun j hj => absurd hj (Nat.not_lt_zero _), rfl⟩
      case round =>
        obtain ⟨k, hk, rfl, rfl, hpre, rfl⟩ := hrel
        cases gk with
        | zero =>
          have hkz : ¬ (k : Int) < (L : Int) := by omega
          obtain rfl : k = L := by omega
          obtain ⟨i0, hi, hz0, hz1, hz2⟩ := info_parts info3
          have h63 : T + 1 ≤ maxLen := by have := HTB.out; unfold maxLen; omega
          have hby : (T + 1) * 8 ≤ 140737488355328 := by have := HTB.out; omega
          have hMs := Lib.hid hMI.out.mM
          have htold : w2.ownsRow M 3 1 (.slice at_ T ct) T ((zs s.told).map (Value.int .i64)) := by have h := hMI.out.told; rwa [HT.out] at h
          have HTO := Lib.hid htold
          clear htold
          have hm1 : (m : Int) ≤ (m : Int) + 1 := by omega
          have hm2 : (m : Int) ≤ (cw : Int) := by omega
          go_wp2_with (at_builtin; refine wpList_append_near _ rfl _ _ 32 rfl M 3 i0 (.int .i64 0) 1 8 Try.underlying32 hi hz0 hz1 hz2 rfl (by decide) _ _ _ rfl (HTO.out.alloc _) ⟨_, 0, none⟩ 1 1 [.int .i64 (a : Int)] rfl rfl (cell_one_new _ _ _) (by simp [Value.oneCell']) (by decide) h63 hby (by have := hMs.out; rw [World.size_alloc]; omega) ?_; intro v' w4 hown' hgrow hnear; have HO4 := Lib.hid hown'; have HG4 := Lib.hid hgrow; have HN4 := Lib.hid hnear; clear hown' hgrow hnear)
          go_roundg f
          case measure => omega
          case rel =>
            obtain ⟨h1, h2⟩ := tells hMI.out HW.out HWS.out HT.out (by rw [HL.out]; exact hpre.out) HG4.out HO4.out HN4.out
            have h3 := mu_step hP.out (by rw [HW.out]; simp)
            have h4 := hmu.out
            refine ⟨R, stp s, hP.out.step, ?_, ?_, h1, hB.out.trans (h2.mono HBASE.out)⟩
            · show mu (stp s) ≤ f
              omega
            · show fin f (stp s) = _
              rw [← hfin.out, fin, if_neg (by rw [HW.out]; simp)]
        | succ g2 =>
          have hkz : (k : Int) < (L : Int) := by omega
          obtain ⟨b0, o0, rfl, hb0, e1⟩ := HI.out k (by rw [zs_length, HL.out]; omega)
          obtain ⟨b, hb⟩ : ∃ b, (s.leftOf a)[k]?.getD 0 = b := ⟨_, rfl⟩
          rw [zs_get, hb] at e1
          have hbl : b ∈ s.leftOf a := by
            have hkl : k < (s.leftOf a).length := by rw [HL.out]; omega
            rw [List.getElem?_eq_getElem hkl] at hb
            rw [← hb]
            exact List.getElem_mem hkl
          obtain ⟨hbn, hab⟩ := hP.out.st a b hbl
          have hgo := World.rowIs.cell hMI.out.gone (i := b) (by rw [hP.out.gl]; exact hbn)
          have hbi : (b : Int) < (n : Int) := by omega
          have HBK := Lib.hid hb
          have HBN := Lib.hid hbn
          have HAB := Lib.hid hab
          clear hb hbl hab
          obtain ⟨gq, hgq⟩ : ∃ gq, s.gone[b]?.getD false = gq := ⟨_, rfl⟩
          rw [hgq] at hgo
          have HGQ := Lib.hid hgq
          clear hgq
          cases gq with
          | true =>
            go_wp2_with fail
            go_roundg g2
            case measure => omega
            case rel =>
              refine ⟨k + 1, by omega, rfl, by go_num, ?_, rfl⟩
              intro j hj
              by_cases e : j = k
              · subst e; rw [HBK.out]; exact HGQ.out
              · exact hpre.out j (by omega)
          | false =>
            have hkL : k + 1 ≤ L := by omega
            obtain ⟨o', ho', hsl⟩ := slice_from b0 o0 L k rc hkL hrl
            have HO' := Lib.hid ho'
            obtain ⟨sl, hsv⟩ : ∃ sl, Value.slice (some ⟨b0, o', none⟩) (L - (k + 1)) (rc - (k + 1)) = sl := ⟨_, rfl⟩
            have hgM : gb ≠ M := by have := hMI.out.gM; omega
            have hc13 : (w2.setCell ⟨gb, a, none⟩ (.slice (some ⟨b0, o', none⟩) (L - (k + 1)) (rc - (k + 1)))).cell? ⟨M, b, none⟩ = some (.bool false) := by
              rw [World.cell?_setCell_other _ _ _ _ (by intro e; cases e; exact hgM rfl)]; exact hgo
            have hf13 : (w2.setCell ⟨gb, a, none⟩ (.slice (some ⟨b0, o', none⟩) (L - (k + 1)) (rc - (k + 1)))).frozen? ⟨M, b, none⟩ = false := by
              rw [World.frozen?_setCell]; exact World.rowIs.frozen hMI.out.gone b
            clear ho' hgM hsv
            have hway1 : ((w2.setCell ⟨gb, a, none⟩ (.slice (some ⟨b0, o', none⟩) (L - (k + 1)) (rc - (k + 1)))).setCell ⟨M, b, none⟩ (.bool true)).ownsRow M 3 1 (.slice (some ⟨gw, 0, none⟩) (m + 1) cw) (m + 1) ((zs s.way.reverse).map (Value.int .i64)) := by
              have h := hMI.out.way
              rw [HWL.out] at h
              have hgw : gw ≠ M := fun e => hMI.out.wb (congrArg some e)
              have hgb : gw ≠ gb := fun e => by
                have h1 := (hMI.out.way.lt gw rfl).1
                have h2 := hMI.out.gM
                omega
              refine ⟨h.1, h.2.imp id fun ⟨g, cap, cur, e, hg, hc, r⟩ => ⟨g, cap, cur, e, hg, ?_, r⟩⟩
              cases e
              rw [Below.heap_setCell _ _ _ _ (by simpa using hgw), Below.heap_setCell _ _ _ _ (by simpa using hgb)]
              exact hc
            have HWAY := Lib.hid hway1
            clear hway1
            have hsz1 : ((w2.setCell ⟨gb, a, none⟩ (.slice (some ⟨b0, o', none⟩) (L - (k + 1)) (rc - (k + 1)))).setCell ⟨M, b, none⟩ (.bool true)).heap.size = w2.heap.size := by simp [World.setCell]
            have hMs := hMI.out.mM
            have HSZ := Lib.hid hsz1
            have HMS := Lib.hid hMs
            clear hsz1 hMs
            obtain ⟨i0, hi, hz0, hz1, hz2⟩ := info_parts info3
            have h63 : m + 1 + 1 ≤ maxLen := by unfold maxLen; omega
            have hby : (m + 1 + 1) * 8 ≤ 140737488355328 := by omega
            go_upto_region 14 with fail
            generalize hW1 : ((w2.setCell ⟨gb, a, none⟩ (.slice (some ⟨b0, o', none⟩) (L - (k + 1)) (rc - (k + 1)))).setCell ⟨M, b, none⟩ (.bool true)) = W1 at *
            have HW1 := Lib.hid hW1
            clear hW1 hc13 hf13
            go_wp2_with (at_builtin; refine wpList_append_near _ rfl _ _ 32 rfl M 3 i0 (.int .i64 0) 1 8 Try.underlying32 hi hz0 hz1 hz2 rfl (by decide) _ _ _ rfl (HWAY.out.alloc _) ⟨_, 0, none⟩ 1 1 [.int .i64 (b : Int)] rfl rfl (cell_one_new _ _ _) (by simp [Value.oneCell']) (by decide) h63 hby (by have := HSZ.out; have := HMS.out; rw [World.size_alloc]; omega) ?_; intro v' w4 hown' hgrow hnear; have HO4 := Lib.hid hown'; have HG4 := Lib.hid hgrow; have HN4 := Lib.hid hnear; clear hown' hgrow hnear)
            go_roundg f
            case measure => omega
            case rel =>
              have hbg : s.isGone b = false := HGQ.out
              obtain ⟨⟨R', h1⟩, h2⟩ := goes hP.out hMI.out HW.out HL.out hkL HBK.out hpre.out hbg HR.out HO'.out HW1.out HG4.out HWL.out HO4.out HN4.out
              have h3 := mu_step hP.out (by rw [HW.out]; simp)
              have h4 := hmu.out
              refine ⟨R', stp s, hP.out.step, ?_, ?_, h1, hB.out.trans (h2 _ HBG.out HBASE.out)⟩
              · show mu (stp s) ≤ f
                omega
              · show fin f (stp s) = _
                rw [← hfin.out, fin, if_neg (by rw [HW.out]; simp)]
end Go.Proofs.Ytcbfmplddjmiaaa
