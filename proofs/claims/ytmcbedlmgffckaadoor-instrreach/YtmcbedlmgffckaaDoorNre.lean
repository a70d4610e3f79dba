/- InstrReach: the law's walk. -/
import Derived.Deep.RegionHeld3
import Derived.Test.YtmcbedlmgffckaaDoorNli
namespace Go.Proofs.YtmcbedlmgffckaaDoor.Bi
open Go Go.RowKit Go.Sort

theorem has_minus_of {n : Nat} {ws : List Nat} (h : Ok n ws) (ids : List Int) (k : Int) : hasB n (joinW minusN n n ws (ofW n ids)) k = (hasB n ws k && !decide (k ∈ ids)) := by
  by_cases hk : 0 ≤ k ∧ k < n
  · rw [hasB_in hk, hasB_in hk, bit_minus h (ok_of h.le ids), bitAt_of]
    congr 2
    rw [Bool.eq_iff_iff, List.any_eq_true, decide_eq_true_eq]
    constructor
    · rintro ⟨x, hx, he⟩
      simp at he
      have : x = k := by omega
      exact this ▸ hx
    · intro hx
      exact ⟨k, hx, by simp; omega⟩
  · rw [hasB_out hk, hasB_out hk]; rfl
theorem has_reach_id {n : Nat} {ws : List Nat} (h : Ok n ws) (i : Ins) (ids : List Int) (hd : 0 ≤ i.defn) (hid : 0 ≤ i.id) : hasB n (reachW n ws i ids) i.id = decide (i.id < n) := by
  unfold reachW
  rw [if_neg (by omega), has_put_self (ok_minus_of h ids)]
  simp [hid]
theorem has_reach {n : Nat} {ws : List Nat} (h : Ok n ws) (i : Ins) (ids : List Int) (hd : 0 ≤ i.defn) {k : Int} (hk : k ≠ i.id) : hasB n (reachW n ws i ids) k = (hasB n ws k && !decide (k ∈ ids)) := by
  unfold reachW
  rw [if_neg (by omega), has_put_other (ok_minus_of h ids) (Ne.symm hk), has_minus_of h]
theorem reach_idem {n : Nat} {ws : List Nat} (h : Ok n ws) (i : Ins) (ids : List Int) (hid : 0 ≤ i.defn → 0 ≤ i.id) : reachW n (reachW n ws i ids) i ids = reachW n ws i ids := by
  by_cases hd : 0 ≤ i.defn
  · refine ok_ext' ((h.reach i ids).reach i ids) (h.reach i ids) fun j => ?_
    rw [← ((h.reach i ids).reach i ids).hasB, ← (h.reach i ids).hasB]
    by_cases hj : (j : Int) = i.id
    · rw [hj, has_reach_id (h.reach i ids) i ids hd (hid hd), has_reach_id h i ids hd (hid hd)]
    · rw [has_reach (h.reach i ids) i ids hd hj, has_reach h i ids hd hj]
      cases hasB n ws (j : Int) <;> cases decide ((j : Int) ∈ ids) <;> rfl
  · unfold reachW
    rw [if_pos (by omega), if_pos (by omega)]
theorem defn_id (i : Ins) (h : 0 ≤ i.defn) : 0 ≤ i.id := by
  unfold Ins.defn at h
  split at h
  · rename_i hf; exact hf.1.2.2.1
  · omega

set_option maxRecDepth 100000 in
set_option maxHeartbeats 32000000 in
theorem reach_law (r : Int) (a0 : Option Addr) (cap0 : Nat) (rs : List Nat) (i : Ins) (ai : Option Addr) (ids : List Int) (capi : Nat) (k : Int) (w : World) (hIs : Is w.heap.size w ai ids) (hWd : Wd w.heap.size w a0 rs) (hWB : WB rs) (hT : KTab w) :
    Calls Tryd.prog 7 #[.agg #[.int .i64 r, .slice a0 rs.length cap0], i.val, .slice ai ids.length capi, .int .i64 k] w fun e w' => e = .returned (.bool true) ∧ Below w.heap.size w w' := by
  obtain ⟨len, hlen⟩ : ∃ len, rs.length = len := ⟨_, rfl⟩
  have HWD := Lib.hid hWd
  have HT0 := Lib.hid hT
  have hb2 := below2 w (.cells #[.int .i64 r, .slice a0 len cap0] 35) (.cells i.cells.toArray 24)
  have BS := (Box.new w (.int .i64 r) (.slice a0 len cap0) 35).alloc (.cells i.cells.toArray 24)
  have BI := BoxL.new (w.alloc (.cells #[.int .i64 r, .slice a0 len cap0] 35)) i.cells 24
  have hsz : ((w.alloc (.cells #[.int .i64 r, .slice a0 len cap0] 35)).alloc (.cells i.cells.toArray 24)).heap.size = w.heap.size + 2 := by simp
  simp only [World.size_alloc] at BI
  obtain ⟨T, hTl⟩ : ∃ T, ids.length = T := ⟨_, rfl⟩
  rw [hTl]
  have HTL := Lib.hid hTl
  have HIS := Lib.hid hIs
  have HRE := Lib.hid (fun r a0 len cap0 n ws T capi W ha hIs hTl hTm hT K hK => Reach_any r a0 len cap0 n ws i ai ids T capi W ha hIs hTl hTm hT K hK _ rfl)
  have HD := Lib.hid (fun W (h : KTab W) => Def_any i W h _ rfl)
  have HRO : Hid (∀ n ws, Ok n ws → Ok n (reachW n ws i ids)) := fun n ws h => h.reach i ids
  have HRI : Hid (∀ n ws, Ok n ws → reachW n (reachW n ws i ids) i ids = reachW n ws i ids) := fun n ws h => reach_idem h i ids (defn_id i)
  have HRN : Hid (∀ n ws, i.defn < 0 → reachW n ws i ids = ws) := fun n ws h => by unfold reachW; rw [if_pos h]
  have HR1 : Hid (∀ n ws, Ok n ws → 0 ≤ i.defn → hasB n (reachW n ws i ids) i.id = decide (i.id < n)) := fun n ws h hd => has_reach_id h i ids hd (defn_id i hd)
  have HR2 : Hid (∀ n ws, Ok n ws → 0 ≤ i.defn → k ≠ i.id → hasB n (reachW n ws i ids) k = (hasB n ws k && !decide (k ∈ ids))) := fun n ws h hd hk => has_reach h i ids hd hk
  obtain ⟨rv, hrv⟩ : ∃ rv : Nat → List Nat → List Nat, (fun n ws => reachW n ws i ids) = rv := ⟨_, rfl⟩
  have hrv' : ∀ n ws, reachW n ws i ids = rv n ws := fun n ws => congrFun (congrFun hrv n) ws
  simp only [hrv'] at HRE HRO HRI HRN HR1 HR2
  clear hrv hrv' hTl hIs
  generalize i.defn = d at *
  obtain ⟨id, kind, dst, a, b, c, f, n', x0, x1, x2⟩ := i
  unfold Ins.val at *
  unfold Ins.cells at *
  dsimp only at *
  rw [hlen]
  generalize hE : (w.alloc (.cells #[.int .i64 r, .slice a0 len cap0] 35)).alloc (.cells (List.toArray [.int .i64 id, .int .i64 kind, .int .i64 dst, .int .i64 a, .int .i64 b, .int .i64 c, .int .i64 f, .int .i64 n', .int .i64 x0, .int .i64 x1, .int .i64 x2]) 24) = W at *
  have hE' : (w.alloc (.cells #[.int .i64 r, .slice a0 len cap0] 35)).alloc (.cells #[.int .i64 id, .int .i64 kind, .int .i64 dst, .int .i64 a, .int .i64 b, .int .i64 c, .int .i64 f, .int .i64 n', .int .i64 x0, .int .i64 x1, .int .i64 x2] 24) = W := hE
  have HW := Lib.hid hb2
  have HZ := Lib.hid hsz
  have HS := Lib.hid BS
  have HI := Lib.hid BI
  have HLEN := Lib.hid hlen
  clear hE hWd hT hb2 BS BI hsz hlen
  go_enter Tryd.func7, Tryd.ntmps7
  go_wp2_with fail
  try rw [hE']
  clear hE'
  refine (awake5_any _ (HT0.out.on HW.out)).mono ?_
  rintro e w1 ⟨rfl, hb1⟩
  have HS1 := Lib.hid (HS.out.below hb1 HS.out.lt)
  have HI1 := Lib.hid (HI.out.below hb1 (HI.out.lt (Nat.zero_lt_succ _)))
  have HW1 := Lib.hid (HW.out.trans (hb1.mono HW.out.size))
  have HZ1 : Hid (w.heap.size + 2 ≤ w1.heap.size) := by show _ ≤ _; rw [← HZ.out]; exact hb1.size
  clear hb1 HS HI HW
  obtain ⟨s0, s1, -, -⟩ := HS1.out
  go_wp2_with fail
  refine (ours5_any _ _ _ _ _).mono ?_
  clear s0 s1
  rintro e w2 ⟨rfl, hb2⟩
  have hal := below1 w2 (.cells #[.int .i64 r, .slice a0 len cap0] 38)
  have hb2' := hb2.trans (hal.mono hb2.size)
  have HS2 := Lib.hid (HS1.out.below hb2' HS1.out.lt)
  have HI2 := Lib.hid (HI1.out.below hb2' (HI1.out.lt (Nat.zero_lt_succ _)))
  have HW2 := Lib.hid (HW1.out.trans (hb2'.mono HW1.out.size))
  have HO2 := Lib.hid (Box.new w2 (.int .i64 r) (.slice a0 len cap0) 38)
  have HZ2 : Hid (w.heap.size + 2 ≤ w2.heap.size) := Nat.le_trans HZ1.out hb2.size
  clear hal hb2 hb2' HS1 HI1 HW1 HZ1
  obtain ⟨s0, s1, -, -⟩ := HS2.out
  by_cases hl20 : 20 < len
  · have hl20i : (20 : Int) < (len : Int) := by omega
    go_wp2_with fail
    go_ret
    exact ⟨rfl, HW2.out⟩
  have hl20i : (len : Int) ≤ 20 := by omega
  by_cases hT100 : 100 < T
  · have hT100i : (100 : Int) < (T : Int) := by omega
    go_wp2_with fail
    go_ret
    exact ⟨rfl, HW2.out⟩
  have hT100i : (T : Int) ≤ 100 := by omega
  go_wp2_with fail
  obtain ⟨bo, hbo⟩ : ∃ bo, w2.heap.size = bo := ⟨_, rfl⟩
  rw [hbo] at HO2 HZ2 ⊢
  generalize w2.alloc (.cells #[.int .i64 r, .slice a0 len cap0] 38) = W3 at *
  clear s0 s1 hbo
  have HWD3 := Lib.hid ((HWD.out.below HW2.out).mono HW2.out.size)
  have hsn := sane_any r a0 rs cap0 W3 HWD3.out (by rw [HLEN.out]; omega)
  rw [HLEN.out] at hsn
  refine hsn.mono ?_
  clear hsn
  by_cases hsane : saneB r rs = true
  rotate_left
  · rw [Bool.not_eq_true] at hsane
    rw [hsane]
    rintro e w4 ⟨rfl, hb4⟩
    have HW4 := Lib.hid (HW2.out.trans (hb4.mono HW2.out.size))
    clear hb4 HS2 HI2 HO2 hsane
    go_wp2_with fail
    go_ret
    exact ⟨rfl, HW4.out⟩
  obtain ⟨hok, hrn⟩ := ok_of_sane hWB hsane
  rw [hsane]
  clear hsane
  generalize r.toNat = n at *
  subst hrn
  rintro e w4 ⟨rfl, hb4⟩
  have HS4 := Lib.hid (HS2.out.below hb4 HS2.out.lt)
  have HI4 := Lib.hid (HI2.out.below hb4 (HI2.out.lt (Nat.zero_lt_succ _)))
  have HO4 := Lib.hid (HO2.out.below hb4 HO2.out.lt)
  have HW4 := Lib.hid (HW2.out.trans (hb4.mono HW2.out.size))
  have HWD4 := Lib.hid ((HWD3.out.below hb4).mono hb4.size)
  have HOK := Lib.hid hok
  have HA4 := Lib.hid (Acts.of_sv (W := w4) (v := .agg #[.int .i64 (n : Int), .slice a0 len cap0]) ⟨a0, cap0, by rw [HLEN.out], HWD4.out⟩ hok)
  clear hb4 HS2 HI2 HO2 HW2 HWD3 HWD4 hok hWB
  obtain ⟨o0, o1, -, -⟩ := HO4.out
  have k0 := (HI4.out 0 _ rfl).1
  have k1 := (HI4.out 1 _ rfl).1
  have k2 := (HI4.out 2 _ rfl).1
  have k3 := (HI4.out 3 _ rfl).1
  have k4 := (HI4.out 4 _ rfl).1
  have k5 := (HI4.out 5 _ rfl).1
  have k6 := (HI4.out 6 _ rfl).1
  have k7 := (HI4.out 7 _ rfl).1
  have k8 := (HI4.out 8 _ rfl).1
  have k9 := (HI4.out 9 _ rfl).1
  have k10 := (HI4.out 10 _ rfl).1
  go_wp2_with fail
  refine (HRE.out _ _ _ _ _ _ _ _ _ HA4.out ((HIS.out.below HW4.out).mono HW4.out.size) HTL.out (by omega) (HT0.out.on HW4.out) len HLEN.out).mono ?_
  clear o0 o1 k0 k1 k2 k3 k4 k5 k6 k7 k8 k9 k10
  rintro e w5 ⟨a5, cap5, rfl, hF5, hb5⟩
  have hal := below1 w5 (.cells #[.int .i64 (n : Int), .slice a5 len cap5] 38)
  have hb5' := hb5.trans (hal.mono hb5.size)
  have HF5 := Lib.hid (hF5.below hal)
  have HS5 := Lib.hid (HS4.out.below hb5' HS4.out.lt)
  have HI5 := Lib.hid (HI4.out.below hb5' (HI4.out.lt (Nat.zero_lt_succ _)))
  have HO5 := Lib.hid (HO4.out.below hb5' HO4.out.lt)
  have HW5 := Lib.hid (HW4.out.trans (hb5'.mono HW4.out.size))
  have HA5 := Lib.hid (HA4.out.below hb5')
  have HB5 := Lib.hid (Box.new w5 (.int .i64 (n : Int)) (.slice a5 len cap5) 38)
  clear hal hb5 hb5' hF5 HS4 HI4 HO4 HW4 HA4
  have k0 := (HI5.out 0 _ rfl).1
  have k1 := (HI5.out 1 _ rfl).1
  have k2 := (HI5.out 2 _ rfl).1
  have k3 := (HI5.out 3 _ rfl).1
  have k4 := (HI5.out 4 _ rfl).1
  have k5 := (HI5.out 5 _ rfl).1
  have k6 := (HI5.out 6 _ rfl).1
  have k7 := (HI5.out 7 _ rfl).1
  have k8 := (HI5.out 8 _ rfl).1
  have k9 := (HI5.out 9 _ rfl).1
  have k10 := (HI5.out 10 _ rfl).1
  go_wp2_with fail
  obtain ⟨ba, hba⟩ : ∃ ba, w5.heap.size = ba := ⟨_, rfl⟩
  rw [hba] at HB5 ⊢
  generalize w5.alloc (.cells #[.int .i64 (n : Int), .slice a5 len cap5] 38) = W5 at *
  clear hba k0 k1 k2 k3 k4 k5 k6 k7 k8 k9 k10
  have HLEN2 : Hid ((rv n rs).length = len) := by show _ = _; rw [(HRO.out _ _ HOK.out).len, ← HOK.out.len, HLEN.out]
  refine (HRE.out _ _ _ _ _ _ _ _ _ (HF5.out.acts (HRO.out _ _ HOK.out) HLEN2.out) ((HIS.out.below HW5.out).mono HW5.out.size) HTL.out (by omega) (HT0.out.on HW5.out) len HLEN2.out).mono ?_
  rintro e w6 ⟨a6, cap6, rfl, hF6, hb6⟩
  have hal := below1 w6 (.cells #[.int .i64 (n : Int), .slice a6 len cap6] 38)
  have hb6' := hb6.trans (hal.mono hb6.size)
  have HG6 := Lib.hid (hF6.below hal)
  have HF6 := Lib.hid (HF5.out.below hb6')
  have HS6 := Lib.hid (HS5.out.below hb6' HS5.out.lt)
  have HI6 := Lib.hid (HI5.out.below hb6' (HI5.out.lt (Nat.zero_lt_succ _)))
  have HO6 := Lib.hid (HO5.out.below hb6' HO5.out.lt)
  have HW6 := Lib.hid (HW5.out.trans (hb6'.mono HW5.out.size))
  have HA6 := Lib.hid (HA5.out.below hb6')
  have HB6 := Lib.hid (HB5.out.below hb6' HB5.out.lt)
  have HC6 := Lib.hid (Box.new w6 (.int .i64 (n : Int)) (.slice a6 len cap6) 38)
  clear hal hb6 hb6' hF6 HF5 HS5 HI5 HO5 HW5 HA5 HB5
  have k0 := (HI6.out 0 _ rfl).1
  have k1 := (HI6.out 1 _ rfl).1
  have k2 := (HI6.out 2 _ rfl).1
  have k3 := (HI6.out 3 _ rfl).1
  have k4 := (HI6.out 4 _ rfl).1
  have k5 := (HI6.out 5 _ rfl).1
  have k6 := (HI6.out 6 _ rfl).1
  have k7 := (HI6.out 7 _ rfl).1
  have k8 := (HI6.out 8 _ rfl).1
  have k9 := (HI6.out 9 _ rfl).1
  have k10 := (HI6.out 10 _ rfl).1
  go_wp2_with fail
  obtain ⟨bb, hbb⟩ : ∃ bb, w6.heap.size = bb := ⟨_, rfl⟩
  rw [hbb] at HC6 ⊢
  generalize w6.alloc (.cells #[.int .i64 (n : Int), .slice a6 len cap6] 38) = W6 at *
  clear hbb k0 k1 k2 k3 k4 k5 k6 k7 k8 k9 k10
  refine (HD.out _ (HT0.out.on HW6.out)).mono ?_
  rintro e w7 ⟨rfl, hb7⟩
  have HG7 := Lib.hid (HG6.out.below hb7)
  have HF7 := Lib.hid (HF6.out.below hb7)
  have HS7 := Lib.hid (HS6.out.below hb7 HS6.out.lt)
  have HI7 := Lib.hid (HI6.out.below hb7 (HI6.out.lt (Nat.zero_lt_succ _)))
  have HO7 := Lib.hid (HO6.out.below hb7 HO6.out.lt)
  have HW7 := Lib.hid (HW6.out.trans (hb7.mono HW6.out.size))
  have HA7 := Lib.hid (HA6.out.below hb7)
  have HB7 := Lib.hid (HB6.out.below hb7 HB6.out.lt)
  have HC7 := Lib.hid (HC6.out.below hb7 HC6.out.lt)
  clear hb7 HG6 HF6 HS6 HI6 HO6 HW6 HA6 HB6 HC6 HD
  by_cases hd : d < 0
  · obtain ⟨o0, o1, -, -⟩ := HO7.out
    obtain ⟨b0, b1, -, -⟩ := HB7.out
    have hsame := Same_acts (HF7.out.acts (cap := cap5) (HRO.out _ _ HOK.out) HLEN2.out) HA7.out (b := true) (by rw [HRN.out _ _ hd]; simp)
    have HSM := Lib.hid hsame
    clear hsame
    go_wp2_with (go_at_call 43; refine HSM.out.mono ?_; rintro e w8 ⟨rfl, hb8⟩; have HW8 := Lib.hid (HW7.out.trans (hb8.mono HW7.out.size)); clear hb8)
    go_ret
    exact ⟨rfl, HW8.out⟩
  have hd0 : 0 ≤ d := by omega
  go_wp2_with fail
  go_loop [13, 14] (fun rd ix => ∃ q : Nat, q ≤ T ∧ ix = .int .i64 q ∧ rd = .bool (decide (k ∈ ids.take q))) (fun _ ix => T - (intOf ix).toNat)
  case atStart => exact ⟨0, Nat.zero_le _, rfl, by simp⟩
  case round =>
    obtain ⟨q, hq, rfl, rfl⟩ := hrel
    by_cases hlt : q < T
    · have hqi : (q : Int) < (T : Int) := by omega
      have hql : q < ids.length := by rw [HTL.out]; exact hlt
      obtain ⟨x, hx⟩ : ∃ x, ids[q]?.getD 0 = x := ⟨_, rfl⟩
      have htk : ids.take (q + 1) = ids.take q ++ [x] := by rw [List.take_succ_eq_append_getElem hql, ← hx]; simp [hql]
      have HTK := Lib.hid htk
      by_cases hin : k ∈ ids.take q
      · rw [decide_eq_true hin]
        have HIN := Lib.hid hin
        clear hin htk hx hql
        go_wp2
        exact ⟨⟨q + 1, by omega, by go_num, by rw [decide_eq_true (by rw [HTK.out]; simp [HIN.out])]⟩, by simp [intOf]; omega⟩
      · rw [decide_eq_false hin]
        have HIN := Lib.hid hin
        obtain ⟨gb, go, rfl, -, hcell⟩ := (HIS.out.below HW7.out) q hql
        rw [hx] at hcell
        clear hin htk hx hql
        by_cases hxk : x = k
        · subst hxk
          go_wp2
          exact ⟨⟨q + 1, by omega, by go_num, by rw [decide_eq_true (by rw [HTK.out]; simp)]⟩, by simp [intOf]; omega⟩
        · go_wp2
          exact ⟨⟨q + 1, by omega, by go_num, by rw [decide_eq_false (by rw [HTK.out]; simp only [List.mem_append, List.mem_singleton, not_or]; exact ⟨HIN.out, fun e => hxk e.symm⟩)]; simp [hxk]⟩, by simp [intOf]; omega⟩
    · obtain rfl : q = T := by omega
      rw [List.take_of_length_le (by rw [HTL.out]; exact Nat.le_refl _)]
      clear hq hlt
      have hqi : ¬ ((q : Int) < (q : Int)) := by omega
      have HSVA : Hid (SV w7 (.agg #[.int .i64 (n : Int), .slice a5 len cap5]) (n : Int) (rv n rs)) := ⟨a5, cap5, by rw [HLEN2.out], HF7.out.wd⟩
      have HSVO : Hid (SV w7 (.agg #[.int .i64 (n : Int), .slice a0 len cap0]) (n : Int) rs) := ⟨a0, cap0, by rw [HLEN.out], (HWD.out.below HW7.out).mono HW7.out.size⟩
      have HC1 := Lib.hid (fun W (hb : Below w7.heap.size w7 W) => Same_acts ((HF7.out.below hb).acts (cap := cap5) (HRO.out _ _ HOK.out) HLEN2.out) ((HG7.out.below hb).acts (cap := cap6) (K := len) (HRO.out _ _ (HRO.out _ _ HOK.out)) (by rw [HRI.out _ _ HOK.out]; exact HLEN2.out)) (b := true) (by rw [HRI.out _ _ HOK.out]; simp))
      have HC2 := Lib.hid (fun W (hb : Below w7.heap.size w7 W) => (by
        have h := Has_ok _ n (rv n rs) id W (HSVA.out.below hb) (HRO.out _ _ HOK.out)
        rw [HR1.out _ _ HOK.out hd0] at h
        exact h : Calls Tryd.prog 41 #[.agg #[.int .i64 (n : Int), .slice a5 len cap5], .int .i64 id] W fun e w' => e = .returned (.bool (decide (id < (n : Int)))) ∧ Below W.heap.size W w'))
      have HC3 := Lib.hid (fun W (hb : Below w7.heap.size w7 W) (hk : k ≠ id) => (by
        have h := Has_ok _ n (rv n rs) k W (HSVA.out.below hb) (HRO.out _ _ HOK.out)
        rw [HR2.out _ _ HOK.out hd0 hk] at h
        exact h : Calls Tryd.prog 41 #[.agg #[.int .i64 (n : Int), .slice a5 len cap5], .int .i64 k] W fun e w' => e = .returned (.bool (hasB n rs k && !decide (k ∈ ids))) ∧ Below W.heap.size W w'))
      have HC4 := Lib.hid (fun W (hb : Below w7.heap.size w7 W) => Has_ok _ n rs k W (HSVO.out.below hb) HOK.out)
      generalize hasB n rs k = hs at *
      generalize decide (k ∈ ids) = hit at *
      have c1 := fun d os => Calls.regrown_of (HC1.out (grow (redrawn w7 d) os) (below_regrown w7 d os))
      have c2 := fun d os => Calls.regrown_of (HC2.out (grow (redrawn w7 d) os) (below_regrown w7 d os))
      have c4 := fun d os => Calls.regrown_of (HC4.out (grow (redrawn w7 d) os) (below_regrown w7 d os))
      have a0' := cell_regrown HB7.out.c0
      have a1' := cell_regrown HB7.out.c1
      have b0' := cell_regrown HC7.out.c0
      have b1' := cell_regrown HC7.out.c1
      have o0' := cell_regrown HO7.out.c0
      have o1' := cell_regrown HO7.out.c1
      have s0' := cell_regrown HS7.out.c0
      have i0' := cell_regrown (HI7.out 0 _ rfl).1
      go_wp2_with fail
      have HC3' := HC3
      clear HC1 HC2 HC3 HC4 HSVA HSVO HRE HRO HRI HRN HR1 HR2
      by_cases hidn : id < (n : Int)
      · have hidn2 : decide (id < (n : Int)) = true := decide_eq_true hidn
        rw [hidn2] at c2
        by_cases hki : k = id
        · subst hki
          clear HC3'
          refine wp_region_quiet_below (by kernel_rfl) (by kernel_rfl) ?_
          repeat (first | go_big_quiet_step (first | with_reducible exact c1 _ _ | with_reducible exact c2 _ _) | quiet_step (first | with_reducible exact c1 _ _ | with_reducible exact c2 _ _))
          refine wpQuiet_nil ?_
          intro _ hw'
          obtain ⟨⟨dq, osq⟩, hw''⟩ := hw'
          subst hw''
          go_wp2_with fail
          go_ret
          exact ⟨rfl, HW7.out.trans ((below_regrown w7 dq osq).mono HW7.out.size)⟩
        · have c3 := fun d os => Calls.regrown_of (HC3'.out (grow (redrawn w7 d) os) (below_regrown w7 d os) hki)
          clear HC3'
          cases hs <;> cases hit <;> simp only [Bool.not_true, Bool.not_false, Bool.and_true, Bool.and_false] at c3
          all_goals
            refine wp_region_quiet_below (by kernel_rfl) (by kernel_rfl) ?_
            repeat (first | go_big_quiet_step (first | with_reducible exact c1 _ _ | with_reducible exact c2 _ _ | with_reducible exact c3 _ _ | with_reducible exact c4 _ _) | quiet_step (first | with_reducible exact c1 _ _ | with_reducible exact c2 _ _ | with_reducible exact c3 _ _ | with_reducible exact c4 _ _))
            refine wpQuiet_nil ?_
            intro _ hw'
            obtain ⟨⟨dq, osq⟩, hw''⟩ := hw'
            subst hw''
            go_wp2_with fail
            go_ret
            exact ⟨rfl, HW7.out.trans ((below_regrown w7 dq osq).mono HW7.out.size)⟩
      · have hidn2 : decide (id < (n : Int)) = false := decide_eq_false hidn
        rw [hidn2] at c2
        by_cases hki : k = id
        · subst hki
          clear HC3'
          refine wp_region_quiet_below (by kernel_rfl) (by kernel_rfl) ?_
          repeat (first | go_big_quiet_step (first | with_reducible exact c1 _ _ | with_reducible exact c2 _ _) | quiet_step (first | with_reducible exact c1 _ _ | with_reducible exact c2 _ _))
          refine wpQuiet_nil ?_
          intro _ hw'
          obtain ⟨⟨dq, osq⟩, hw''⟩ := hw'
          subst hw''
          go_wp2_with fail
          go_ret
          exact ⟨rfl, HW7.out.trans ((below_regrown w7 dq osq).mono HW7.out.size)⟩
        · have c3 := fun d os => Calls.regrown_of (HC3'.out (grow (redrawn w7 d) os) (below_regrown w7 d os) hki)
          clear HC3'
          cases hs <;> cases hit <;> simp only [Bool.not_true, Bool.not_false, Bool.and_true, Bool.and_false] at c3
          all_goals
            refine wp_region_quiet_below (by kernel_rfl) (by kernel_rfl) ?_
            repeat (first | go_big_quiet_step (first | with_reducible exact c1 _ _ | with_reducible exact c2 _ _ | with_reducible exact c3 _ _ | with_reducible exact c4 _ _) | quiet_step (first | with_reducible exact c1 _ _ | with_reducible exact c2 _ _ | with_reducible exact c3 _ _ | with_reducible exact c4 _ _))
            refine wpQuiet_nil ?_
            intro _ hw'
            obtain ⟨⟨dq, osq⟩, hw''⟩ := hw'
            subst hw''
            go_wp2_with fail
            go_ret
            exact ⟨rfl, HW7.out.trans ((below_regrown w7 dq osq).mono HW7.out.size)⟩
end Go.Proofs.YtmcbedlmgffckaaDoor.Bi

