/- InstrLive: the law's walk. -/
import Derived.Deep.RegionHeld3
import Derived.Test.YtmcbedlmgffckaaDoorInsJ
namespace Go.Proofs.YtmcbedlmgffckaaDoor.Bi
open Go Go.RowKit Go.Sort

theorem ours5_any (n : Int) (a : Option Addr) (len cap : Nat) (w : World) :
    Calls Tryd.prog 24 #[.agg #[.int .i64 n, .slice a len cap]] w fun e w' => e = .returned (.agg #[.int .i64 n, .slice a len cap]) ∧ Below w.heap.size w w' := by
  go_enter Tryd.func24, Tryd.ntmps24
  go_wp2
  exact bodyPost_ret (v := .agg #[.int .i64 n, .slice a len cap]) (by simp [results, Tryd.results24, go_sem]) rfl ⟨rfl, ((Below.refl _ _).alloc (Nat.le_refl _) _).alloc (by simp) _⟩
theorem has_fold {n : Nat} (l : List Int) (k : Int) : ∀ {ws : List Nat}, Ok n ws → hasB n (l.foldl (putW n) ws) k = (hasB n ws k || (decide (k ∈ l) && decide (0 ≤ k ∧ k < n))) := by
  induction l with
  | nil => intro ws h; simp
  | cons x r ih =>
    intro ws h
    rw [List.foldl_cons, ih (h.put x)]
    by_cases hx : x = k
    · subst hx
      rw [has_put_self h]
      by_cases h1 : 0 ≤ x ∧ x < n
      · simp [h1]
      · rw [hasB_out h1]; simp [h1]
    · rw [has_put_other h hx]
      have : (decide (k ∈ x :: r)) = decide (k ∈ r) := by
        rw [Bool.eq_iff_iff, decide_eq_true_eq, decide_eq_true_eq, List.mem_cons]
        exact ⟨fun h => h.resolve_left (fun e => hx e.symm), .inr⟩
      rw [this]
theorem has_live {n : Nat} {ws : List Nat} (h : Ok n ws) (i : Ins) (k : Int) : hasB n (liveW n ws i) k = ((hasB n ws k && decide (k ≠ i.defn)) || (decide (k ∈ i.uses) && decide (0 ≤ k ∧ k < n))) := by
  unfold liveW
  rw [has_fold _ _ (h.drop _)]
  by_cases hk : i.defn = k
  · rw [hk, has_drop_self h]; simp
  · rw [has_drop_other h hk]; simp [Ne.symm hk]
theorem live_idem {n : Nat} {ws : List Nat} (h : Ok n ws) (i : Ins) : liveW n (liveW n ws i) i = liveW n ws i := by
  refine ok_ext' ((h.live i).live i) (h.live i) fun j => ?_
  rw [← ((h.live i).live i).hasB, ← (h.live i).hasB, has_live (h.live i), has_live h]
  cases hasB n ws (j : Int) <;> cases decide ((j : Int) ≠ i.defn) <;> cases decide ((j : Int) ∈ i.uses) <;> cases decide (0 ≤ (j : Int) ∧ (j : Int) < n) <;> rfl

set_option maxRecDepth 100000 in
set_option maxHeartbeats 32000000 in
theorem live_law (r : Int) (a0 : Option Addr) (cap0 : Nat) (rs : List Nat) (i : Ins) (k : Int) (w : World) (hWd : Wd w.heap.size w a0 rs) (hWB : WB rs) (hT : KTab w) :
    Calls Tryd.prog 8 #[.agg #[.int .i64 r, .slice a0 rs.length cap0], i.val, .int .i64 k] w fun e w' => e = .returned (.bool true) ∧ Below w.heap.size w w' := by
  obtain ⟨len, hlen⟩ : ∃ len, rs.length = len := ⟨_, rfl⟩
  have HWD := Lib.hid hWd
  have HT0 := Lib.hid hT
  have hb2 := below2 w (.cells #[.int .i64 r, .slice a0 len cap0] 35) (.cells i.cells.toArray 24)
  have BS := (Box.new w (.int .i64 r) (.slice a0 len cap0) 35).alloc (.cells i.cells.toArray 24)
  have BI := BoxL.new (w.alloc (.cells #[.int .i64 r, .slice a0 len cap0] 35)) i.cells 24
  have hsz : ((w.alloc (.cells #[.int .i64 r, .slice a0 len cap0] 35)).alloc (.cells i.cells.toArray 24)).heap.size = w.heap.size + 2 := by simp
  simp only [World.size_alloc] at BI
  have HLV := Lib.hid (fun r a0 len cap0 n ws W ha hT K hK => Live_any r a0 len cap0 n ws i W ha hT K hK _ rfl)
  have HD := Lib.hid (fun W (h : KTab W) => Def_any i W h _ rfl)
  have HU := Lib.hid (fun W (h : KTab W) => Uses_any i W h)
  have HHL : Hid (∀ n ws, Ok n ws → hasB n (liveW n ws i) k = ((hasB n ws k && decide (k ≠ i.defn)) || (decide (k ∈ i.uses) && decide (0 ≤ k ∧ k < n)))) := fun n ws h => has_live h i k
  have HID : Hid (∀ n ws, Ok n ws → liveW n (liveW n ws i) i = liveW n ws i) := fun n ws h => live_idem h i
  have HLO : Hid (∀ n ws, Ok n ws → Ok n (liveW n ws i)) := fun n ws h => h.live i
  have HUL := Lib.hid (uses_le i)
  obtain ⟨lv, hlv⟩ : ∃ lv : Nat → List Nat → List Nat, (fun n ws => liveW n ws i) = lv := ⟨_, rfl⟩
  have hlv' : ∀ n ws, liveW n ws i = lv n ws := fun n ws => congrFun (congrFun hlv n) ws
  simp only [hlv'] at HLV HHL HID HLO
  clear hlv hlv'
  generalize i.defn = d at *
  generalize i.uses = us at *
  obtain ⟨id, kind, dst, a, b, c, f, n', x0, x1, x2⟩ := i
  unfold Ins.val at *
  unfold Ins.cells at *
  dsimp only at *
  rw [hlen]
  generalize hE : (w.alloc (.cells #[.int .i64 r, .slice a0 len cap0] 35)).alloc (.cells (List.toArray [.int .i64 id, .int .i64 kind, .int .i64 dst, .int .i64 a, .int .i64 b, .int .i64 c, .int .i64 f, .int .i64 n', .int .i64 x0, .int .i64 x1, .int .i64 x2]) 24) = W at *
  have hE' : (w.alloc (.cells #[.int .i64 r, .slice a0 len cap0] 35)).alloc (.cells #[.int .i64 id, .int .i64 kind, .int .i64 dst, .int .i64 a, .int .i64 b, .int .i64 c, .int .i64 f, .int .i64 n', .int .i64 x0, .int .i64 x1, .int .i64 x2] 24) = W := hE
  have HW := Lib.hid hb2
  have HZ := Lib.hid hsz
  have HS := Lib.hid BS
  have HI := Lib.hid BI
  have HLEN := Lib.hid hlen
  clear hE hWd hT hb2 BS BI hsz hlen
  go_enter Tryd.func8, Tryd.ntmps8
  go_wp2_with fail
  try rw [hE']
  clear hE'
  refine (awake5_any _ (HT0.out.on HW.out)).mono ?_
  rintro e w1 ⟨rfl, hb1⟩
  have HS1 := Lib.hid (HS.out.below hb1 HS.out.lt)
  have HI1 := Lib.hid (HI.out.below hb1 (HI.out.lt (Nat.zero_lt_succ _)))
  have HW1 := Lib.hid (HW.out.trans (hb1.mono HW.out.size))
  have HZ1 : Hid (w.heap.size + 2 ≤ w1.heap.size) := by show _ ≤ _; rw [← HZ.out]; exact hb1.size
  clear hb1 HS HI HW
  obtain ⟨s0, s1, -, -⟩ := HS1.out
  go_wp2_with fail
  refine (ours5_any _ _ _ _ _).mono ?_
  clear s0 s1
  rintro e w2 ⟨rfl, hb2⟩
  have hal := below1 w2 (.cells #[.int .i64 r, .slice a0 len cap0] 38)
  have hb2' := hb2.trans (hal.mono hb2.size)
  have HS2 := Lib.hid (HS1.out.below hb2' HS1.out.lt)
  have HI2 := Lib.hid (HI1.out.below hb2' (HI1.out.lt (Nat.zero_lt_succ _)))
  have HW2 := Lib.hid (HW1.out.trans (hb2'.mono HW1.out.size))
  have HO2 := Lib.hid (Box.new w2 (.int .i64 r) (.slice a0 len cap0) 38)
  have HZ2 : Hid (w.heap.size + 2 ≤ w2.heap.size) := Nat.le_trans HZ1.out hb2.size
  clear hal hb2 hb2' HS1 HI1 HW1 HZ1
  obtain ⟨s0, s1, -, -⟩ := HS2.out
  by_cases hl20 : 20 < len
  · have hl20i : (20 : Int) < (len : Int) := by omega
    go_wp2_with fail
    go_ret
    exact ⟨rfl, HW2.out⟩
  have hl20i : (len : Int) ≤ 20 := by omega
  go_wp2_with fail
  obtain ⟨bo, hbo⟩ : ∃ bo, w2.heap.size = bo := ⟨_, rfl⟩
  rw [hbo] at HO2 HZ2 ⊢
  generalize w2.alloc (.cells #[.int .i64 r, .slice a0 len cap0] 38) = W3 at *
  clear s0 s1 hbo
  have HWD3 := Lib.hid ((HWD.out.below HW2.out).mono HW2.out.size)
  have hsn := sane_any r a0 rs cap0 W3 HWD3.out (by rw [HLEN.out]; omega)
  rw [HLEN.out] at hsn
  refine hsn.mono ?_
  clear hsn
  by_cases hsane : saneB r rs = true
  rotate_left
  · rw [Bool.not_eq_true] at hsane
    rw [hsane]
    rintro e w4 ⟨rfl, hb4⟩
    have HW4 := Lib.hid (HW2.out.trans (hb4.mono HW2.out.size))
    clear hb4 HS2 HI2 HO2 hsane
    go_wp2_with fail
    go_ret
    exact ⟨rfl, HW4.out⟩
  obtain ⟨hok, hrn⟩ := ok_of_sane hWB hsane
  rw [hsane]
  clear hsane
  generalize r.toNat = n at *
  subst hrn
  rintro e w4 ⟨rfl, hb4⟩
  have HS4 := Lib.hid (HS2.out.below hb4 HS2.out.lt)
  have HI4 := Lib.hid (HI2.out.below hb4 (HI2.out.lt (Nat.zero_lt_succ _)))
  have HO4 := Lib.hid (HO2.out.below hb4 HO2.out.lt)
  have HW4 := Lib.hid (HW2.out.trans (hb4.mono HW2.out.size))
  have HWD4 := Lib.hid ((HWD3.out.below hb4).mono hb4.size)
  have HOK := Lib.hid hok
  have HA4 := Lib.hid (Acts.of_sv (W := w4) (v := .agg #[.int .i64 (n : Int), .slice a0 len cap0]) ⟨a0, cap0, by rw [HLEN.out], HWD4.out⟩ hok)
  clear hb4 HS2 HI2 HO2 HW2 HWD3 HWD4 hok hWB
  obtain ⟨o0, o1, -, -⟩ := HO4.out
  have k0 := (HI4.out 0 _ rfl).1
  have k1 := (HI4.out 1 _ rfl).1
  have k2 := (HI4.out 2 _ rfl).1
  have k3 := (HI4.out 3 _ rfl).1
  have k4 := (HI4.out 4 _ rfl).1
  have k5 := (HI4.out 5 _ rfl).1
  have k6 := (HI4.out 6 _ rfl).1
  have k7 := (HI4.out 7 _ rfl).1
  have k8 := (HI4.out 8 _ rfl).1
  have k9 := (HI4.out 9 _ rfl).1
  have k10 := (HI4.out 10 _ rfl).1
  go_wp2_with fail
  refine (HLV.out _ _ _ _ _ _ _ HA4.out (HT0.out.on HW4.out) len HLEN.out).mono ?_
  clear o0 o1 k0 k1 k2 k3 k4 k5 k6 k7 k8 k9 k10
  rintro e w5 ⟨a5, cap5, rfl, hF5, hb5⟩
  have hal := below1 w5 (.cells #[.int .i64 (n : Int), .slice a5 len cap5] 38)
  have hb5' := hb5.trans (hal.mono hb5.size)
  have HF5 := Lib.hid (hF5.below hal)
  have HS5 := Lib.hid (HS4.out.below hb5' HS4.out.lt)
  have HI5 := Lib.hid (HI4.out.below hb5' (HI4.out.lt (Nat.zero_lt_succ _)))
  have HO5 := Lib.hid (HO4.out.below hb5' HO4.out.lt)
  have HW5 := Lib.hid (HW4.out.trans (hb5'.mono HW4.out.size))
  have HA5 := Lib.hid (HA4.out.below hb5')
  have HB5 := Lib.hid (Box.new w5 (.int .i64 (n : Int)) (.slice a5 len cap5) 38)
  clear hal hb5 hb5' hF5 HS4 HI4 HO4 HW4 HA4
  have k0 := (HI5.out 0 _ rfl).1
  have k1 := (HI5.out 1 _ rfl).1
  have k2 := (HI5.out 2 _ rfl).1
  have k3 := (HI5.out 3 _ rfl).1
  have k4 := (HI5.out 4 _ rfl).1
  have k5 := (HI5.out 5 _ rfl).1
  have k6 := (HI5.out 6 _ rfl).1
  have k7 := (HI5.out 7 _ rfl).1
  have k8 := (HI5.out 8 _ rfl).1
  have k9 := (HI5.out 9 _ rfl).1
  have k10 := (HI5.out 10 _ rfl).1
  go_wp2_with fail
  obtain ⟨ba, hba⟩ : ∃ ba, w5.heap.size = ba := ⟨_, rfl⟩
  rw [hba] at HB5 ⊢
  generalize w5.alloc (.cells #[.int .i64 (n : Int), .slice a5 len cap5] 38) = W5 at *
  clear hba k0 k1 k2 k3 k4 k5 k6 k7 k8 k9 k10
  refine (HU.out _ (HT0.out.on HW5.out)).mono ?_
  obtain ⟨m, hm⟩ : ∃ m, us.length = m := ⟨_, rfl⟩
  rw [hm]
  have HM := Lib.hid hm
  clear hm
  rintro e w6 ⟨u, rfl, hou, hb6⟩
  obtain ⟨au, cu, rfl, hlu, hIu⟩ := is_of_ints hou
  have HIu := Lib.hid hIu
  have HF6 := Lib.hid (HF5.out.below hb6)
  have HS6 := Lib.hid (HS5.out.below hb6 HS5.out.lt)
  have HI6 := Lib.hid (HI5.out.below hb6 (HI5.out.lt (Nat.zero_lt_succ _)))
  have HO6 := Lib.hid (HO5.out.below hb6 HO5.out.lt)
  have HW6 := Lib.hid (HW5.out.trans (hb6.mono HW5.out.size))
  have HA6 := Lib.hid (HA5.out.below hb6)
  have HB6 := Lib.hid (HB5.out.below hb6 HB5.out.lt)
  have hm5 : m ≤ 5 := by rw [← HM.out]; exact HUL.out
  clear hou hlu hIu hb6 HF5 HS5 HI5 HO5 HW5 HA5 HB5 HU
  go_wp2_with fail
  go_loop [10, 12] (fun rd ix => ∃ q : Nat, q ≤ m ∧ ix = .int .i64 q ∧ rd = .bool (decide (k ∈ us.take q))) (fun _ ix => m - (intOf ix).toNat)
  case atStart => exact ⟨0, Nat.zero_le _, rfl, by simp⟩
  case round =>
    obtain ⟨q, hq, rfl, rfl⟩ := hrel
    by_cases hlt : q < m
    · have hqi : (q : Int) < (m : Int) := by omega
      have hql : q < us.length := by rw [HM.out]; exact hlt
      obtain ⟨x, hx⟩ : ∃ x, us[q]?.getD 0 = x := ⟨_, rfl⟩
      have htk : us.take (q + 1) = us.take q ++ [x] := by rw [List.take_succ_eq_append_getElem hql, ← hx]; simp [hql]
      have HTK := Lib.hid htk
      by_cases hin : k ∈ us.take q
      · rw [decide_eq_true hin]
        have HIN := Lib.hid hin
        clear hin htk hx hql
        go_wp2
        exact ⟨⟨q + 1, by omega, by go_num, by rw [decide_eq_true (by rw [HTK.out]; simp [HIN.out])]⟩, by simp [intOf]; omega⟩
      · rw [decide_eq_false hin]
        have HIN := Lib.hid hin
        obtain ⟨gb, go, rfl, -, hcell⟩ := HIu.out q hql
        rw [hx] at hcell
        clear hin htk hx hql
        by_cases hxk : x = k
        · subst hxk
          go_wp2
          exact ⟨⟨q + 1, by omega, by go_num, by rw [decide_eq_true (by rw [HTK.out]; simp)]⟩, by simp [intOf]; omega⟩
        · go_wp2
          exact ⟨⟨q + 1, by omega, by go_num, by rw [decide_eq_false (by rw [HTK.out]; simp only [List.mem_append, List.mem_singleton, not_or]; exact ⟨HIN.out, fun e => hxk e.symm⟩)]; simp [hxk]⟩, by simp [intOf]; omega⟩
    · obtain rfl : q = m := by omega
      rw [List.take_of_length_le (by rw [HM.out]; exact Nat.le_refl _)]
      clear hq hlt
      have hqi : ¬ ((q : Int) < (q : Int)) := by omega
      obtain ⟨hs, hhs⟩ : ∃ hs, hasB n rs k = hs := ⟨_, rfl⟩
      have HHS := Lib.hid hhs
      clear hhs
      obtain ⟨R, hR⟩ : ∃ R, decide (k ∈ us) = R := ⟨_, rfl⟩
      rw [hR]
      have HHK : Hid (hasB n (lv n rs) k = ((hs && decide (k ≠ d)) || (R && decide (0 ≤ k ∧ k < n)))) := by
        have h := HHL.out n rs HOK.out
        rw [HHS.out, hR] at h
        exact h
      have HHO := Lib.hid (fun W (hb : Below w6.heap.size w6 W) => (by
        have h := Has_ok (.agg #[.int .i64 (n : Int), .slice a0 len cap0]) n rs k W (by
          obtain ⟨r', rs', hsv, _, _, _, _⟩ := HA6.out
          exact ⟨a0, cap0, by rw [HLEN.out], ((HWD.out.below HW6.out).mono HW6.out.size |>.below hb).mono hb.size⟩) HOK.out
        rw [HHS.out] at h
        exact h : Calls Tryd.prog 41 #[.agg #[.int .i64 (n : Int), .slice a0 len cap0], .int .i64 k] W fun e w' => e = .returned (.bool hs) ∧ Below W.heap.size W w'))
      clear hR HHL HHS
      go_upto_region 12 with fail
      go_cut [13] (fun s13 wx => s13 = .bool ((hs && decide (k ≠ d)) || (R && decide (0 ≤ k ∧ k < n))) ∧ Hid (Below w6.heap.size w6 wx))
      case first =>
        obtain ⟨o0, o1, -, -⟩ := HO6.out
        cases hs with
        | true =>
          by_cases hkd : k = d
          · subst hkd
            cases R with
            | true =>
              by_cases hk0 : 0 ≤ k
              · by_cases hkn : k < (n : Int)
                · go_wp2_with (first | (go_at_call 41; refine (HHO.out _ (Below.refl _ _)).mono ?_; rintro e wh ⟨rfl, hbh⟩; have HBH := Lib.hid hbh; clear hbh o0 o1; have k0 := ((HI6.out.below HBH.out (HI6.out.lt (Nat.zero_lt_succ _))) 0 _ rfl).1; have k1 := ((HI6.out.below HBH.out (HI6.out.lt (Nat.zero_lt_succ _))) 1 _ rfl).1; have k2 := ((HI6.out.below HBH.out (HI6.out.lt (Nat.zero_lt_succ _))) 2 _ rfl).1; have k3 := ((HI6.out.below HBH.out (HI6.out.lt (Nat.zero_lt_succ _))) 3 _ rfl).1; have k4 := ((HI6.out.below HBH.out (HI6.out.lt (Nat.zero_lt_succ _))) 4 _ rfl).1; have k5 := ((HI6.out.below HBH.out (HI6.out.lt (Nat.zero_lt_succ _))) 5 _ rfl).1; have k6 := ((HI6.out.below HBH.out (HI6.out.lt (Nat.zero_lt_succ _))) 6 _ rfl).1; have k7 := ((HI6.out.below HBH.out (HI6.out.lt (Nat.zero_lt_succ _))) 7 _ rfl).1; have k8 := ((HI6.out.below HBH.out (HI6.out.lt (Nat.zero_lt_succ _))) 8 _ rfl).1; have k9 := ((HI6.out.below HBH.out (HI6.out.lt (Nat.zero_lt_succ _))) 9 _ rfl).1; have k10 := ((HI6.out.below HBH.out (HI6.out.lt (Nat.zero_lt_succ _))) 10 _ rfl).1; have s0 := (HS6.out.below HBH.out HS6.out.lt).c0) | (go_at_call 12; refine (HD.out _ (HT0.out.on (HW6.out.trans (HBH.out.mono HW6.out.size)))).mono ?_; rintro e wd ⟨rfl, hbd⟩; have HBD := Lib.hid (HBH.out.trans (hbd.mono HBH.out.size)); clear hbd s0 k0 k1 k2 k3 k4 k5 k6 k7 k8 k9 k10; have s0 := (HS6.out.below HBD.out HS6.out.lt).c0))
                  go_meet
                  case rel => exact ⟨by first | rfl | (simp; done) | (simp; omega), HBD⟩
                · go_wp2_with (first | (go_at_call 41; refine (HHO.out _ (Below.refl _ _)).mono ?_; rintro e wh ⟨rfl, hbh⟩; have HBH := Lib.hid hbh; clear hbh o0 o1; have k0 := ((HI6.out.below HBH.out (HI6.out.lt (Nat.zero_lt_succ _))) 0 _ rfl).1; have k1 := ((HI6.out.below HBH.out (HI6.out.lt (Nat.zero_lt_succ _))) 1 _ rfl).1; have k2 := ((HI6.out.below HBH.out (HI6.out.lt (Nat.zero_lt_succ _))) 2 _ rfl).1; have k3 := ((HI6.out.below HBH.out (HI6.out.lt (Nat.zero_lt_succ _))) 3 _ rfl).1; have k4 := ((HI6.out.below HBH.out (HI6.out.lt (Nat.zero_lt_succ _))) 4 _ rfl).1; have k5 := ((HI6.out.below HBH.out (HI6.out.lt (Nat.zero_lt_succ _))) 5 _ rfl).1; have k6 := ((HI6.out.below HBH.out (HI6.out.lt (Nat.zero_lt_succ _))) 6 _ rfl).1; have k7 := ((HI6.out.below HBH.out (HI6.out.lt (Nat.zero_lt_succ _))) 7 _ rfl).1; have k8 := ((HI6.out.below HBH.out (HI6.out.lt (Nat.zero_lt_succ _))) 8 _ rfl).1; have k9 := ((HI6.out.below HBH.out (HI6.out.lt (Nat.zero_lt_succ _))) 9 _ rfl).1; have k10 := ((HI6.out.below HBH.out (HI6.out.lt (Nat.zero_lt_succ _))) 10 _ rfl).1; have s0 := (HS6.out.below HBH.out HS6.out.lt).c0) | (go_at_call 12; refine (HD.out _ (HT0.out.on (HW6.out.trans (HBH.out.mono HW6.out.size)))).mono ?_; rintro e wd ⟨rfl, hbd⟩; have HBD := Lib.hid (HBH.out.trans (hbd.mono HBH.out.size)); clear hbd s0 k0 k1 k2 k3 k4 k5 k6 k7 k8 k9 k10; have s0 := (HS6.out.below HBD.out HS6.out.lt).c0))
                  go_meet
                  case rel => exact ⟨by first | rfl | (simp; done) | (simp; omega), HBD⟩
              · have hk0' : k < 0 := by omega
                go_wp2_with (first | (go_at_call 41; refine (HHO.out _ (Below.refl _ _)).mono ?_; rintro e wh ⟨rfl, hbh⟩; have HBH := Lib.hid hbh; clear hbh o0 o1; have k0 := ((HI6.out.below HBH.out (HI6.out.lt (Nat.zero_lt_succ _))) 0 _ rfl).1; have k1 := ((HI6.out.below HBH.out (HI6.out.lt (Nat.zero_lt_succ _))) 1 _ rfl).1; have k2 := ((HI6.out.below HBH.out (HI6.out.lt (Nat.zero_lt_succ _))) 2 _ rfl).1; have k3 := ((HI6.out.below HBH.out (HI6.out.lt (Nat.zero_lt_succ _))) 3 _ rfl).1; have k4 := ((HI6.out.below HBH.out (HI6.out.lt (Nat.zero_lt_succ _))) 4 _ rfl).1; have k5 := ((HI6.out.below HBH.out (HI6.out.lt (Nat.zero_lt_succ _))) 5 _ rfl).1; have k6 := ((HI6.out.below HBH.out (HI6.out.lt (Nat.zero_lt_succ _))) 6 _ rfl).1; have k7 := ((HI6.out.below HBH.out (HI6.out.lt (Nat.zero_lt_succ _))) 7 _ rfl).1; have k8 := ((HI6.out.below HBH.out (HI6.out.lt (Nat.zero_lt_succ _))) 8 _ rfl).1; have k9 := ((HI6.out.below HBH.out (HI6.out.lt (Nat.zero_lt_succ _))) 9 _ rfl).1; have k10 := ((HI6.out.below HBH.out (HI6.out.lt (Nat.zero_lt_succ _))) 10 _ rfl).1; have s0 := (HS6.out.below HBH.out HS6.out.lt).c0) | (go_at_call 12; refine (HD.out _ (HT0.out.on (HW6.out.trans (HBH.out.mono HW6.out.size)))).mono ?_; rintro e wd ⟨rfl, hbd⟩; have HBD := Lib.hid (HBH.out.trans (hbd.mono HBH.out.size)); clear hbd s0 k0 k1 k2 k3 k4 k5 k6 k7 k8 k9 k10; have s0 := (HS6.out.below HBD.out HS6.out.lt).c0))
                go_meet
                case rel => exact ⟨by first | rfl | (simp; done) | (simp; omega), HBD⟩
            | false =>
              go_wp2_with (first | (go_at_call 41; refine (HHO.out _ (Below.refl _ _)).mono ?_; rintro e wh ⟨rfl, hbh⟩; have HBH := Lib.hid hbh; clear hbh o0 o1; have k0 := ((HI6.out.below HBH.out (HI6.out.lt (Nat.zero_lt_succ _))) 0 _ rfl).1; have k1 := ((HI6.out.below HBH.out (HI6.out.lt (Nat.zero_lt_succ _))) 1 _ rfl).1; have k2 := ((HI6.out.below HBH.out (HI6.out.lt (Nat.zero_lt_succ _))) 2 _ rfl).1; have k3 := ((HI6.out.below HBH.out (HI6.out.lt (Nat.zero_lt_succ _))) 3 _ rfl).1; have k4 := ((HI6.out.below HBH.out (HI6.out.lt (Nat.zero_lt_succ _))) 4 _ rfl).1; have k5 := ((HI6.out.below HBH.out (HI6.out.lt (Nat.zero_lt_succ _))) 5 _ rfl).1; have k6 := ((HI6.out.below HBH.out (HI6.out.lt (Nat.zero_lt_succ _))) 6 _ rfl).1; have k7 := ((HI6.out.below HBH.out (HI6.out.lt (Nat.zero_lt_succ _))) 7 _ rfl).1; have k8 := ((HI6.out.below HBH.out (HI6.out.lt (Nat.zero_lt_succ _))) 8 _ rfl).1; have k9 := ((HI6.out.below HBH.out (HI6.out.lt (Nat.zero_lt_succ _))) 9 _ rfl).1; have k10 := ((HI6.out.below HBH.out (HI6.out.lt (Nat.zero_lt_succ _))) 10 _ rfl).1; have s0 := (HS6.out.below HBH.out HS6.out.lt).c0) | (go_at_call 12; refine (HD.out _ (HT0.out.on (HW6.out.trans (HBH.out.mono HW6.out.size)))).mono ?_; rintro e wd ⟨rfl, hbd⟩; have HBD := Lib.hid (HBH.out.trans (hbd.mono HBH.out.size)); clear hbd s0 k0 k1 k2 k3 k4 k5 k6 k7 k8 k9 k10; have s0 := (HS6.out.below HBD.out HS6.out.lt).c0))
              go_meet
              case rel => exact ⟨by first | rfl | (simp; done) | (simp; omega), HBD⟩
          · go_wp2_with (first | (go_at_call 41; refine (HHO.out _ (Below.refl _ _)).mono ?_; rintro e wh ⟨rfl, hbh⟩; have HBH := Lib.hid hbh; clear hbh o0 o1; have k0 := ((HI6.out.below HBH.out (HI6.out.lt (Nat.zero_lt_succ _))) 0 _ rfl).1; have k1 := ((HI6.out.below HBH.out (HI6.out.lt (Nat.zero_lt_succ _))) 1 _ rfl).1; have k2 := ((HI6.out.below HBH.out (HI6.out.lt (Nat.zero_lt_succ _))) 2 _ rfl).1; have k3 := ((HI6.out.below HBH.out (HI6.out.lt (Nat.zero_lt_succ _))) 3 _ rfl).1; have k4 := ((HI6.out.below HBH.out (HI6.out.lt (Nat.zero_lt_succ _))) 4 _ rfl).1; have k5 := ((HI6.out.below HBH.out (HI6.out.lt (Nat.zero_lt_succ _))) 5 _ rfl).1; have k6 := ((HI6.out.below HBH.out (HI6.out.lt (Nat.zero_lt_succ _))) 6 _ rfl).1; have k7 := ((HI6.out.below HBH.out (HI6.out.lt (Nat.zero_lt_succ _))) 7 _ rfl).1; have k8 := ((HI6.out.below HBH.out (HI6.out.lt (Nat.zero_lt_succ _))) 8 _ rfl).1; have k9 := ((HI6.out.below HBH.out (HI6.out.lt (Nat.zero_lt_succ _))) 9 _ rfl).1; have k10 := ((HI6.out.below HBH.out (HI6.out.lt (Nat.zero_lt_succ _))) 10 _ rfl).1; have s0 := (HS6.out.below HBH.out HS6.out.lt).c0) | (go_at_call 12; refine (HD.out _ (HT0.out.on (HW6.out.trans (HBH.out.mono HW6.out.size)))).mono ?_; rintro e wd ⟨rfl, hbd⟩; have HBD := Lib.hid (HBH.out.trans (hbd.mono HBH.out.size)); clear hbd s0 k0 k1 k2 k3 k4 k5 k6 k7 k8 k9 k10; have s0 := (HS6.out.below HBD.out HS6.out.lt).c0))
            go_meet
            case rel => exact ⟨by first | rfl | (simp; done) | (simp; omega), HBD⟩
        | false =>
          cases R with
          | true =>
            by_cases hk0 : 0 ≤ k
            · by_cases hkn : k < (n : Int)
              · go_wp2_with (first | (go_at_call 41; refine (HHO.out _ (Below.refl _ _)).mono ?_; rintro e wh ⟨rfl, hbh⟩; have HBH := Lib.hid hbh; clear hbh o0 o1; have k0 := ((HI6.out.below HBH.out (HI6.out.lt (Nat.zero_lt_succ _))) 0 _ rfl).1; have k1 := ((HI6.out.below HBH.out (HI6.out.lt (Nat.zero_lt_succ _))) 1 _ rfl).1; have k2 := ((HI6.out.below HBH.out (HI6.out.lt (Nat.zero_lt_succ _))) 2 _ rfl).1; have k3 := ((HI6.out.below HBH.out (HI6.out.lt (Nat.zero_lt_succ _))) 3 _ rfl).1; have k4 := ((HI6.out.below HBH.out (HI6.out.lt (Nat.zero_lt_succ _))) 4 _ rfl).1; have k5 := ((HI6.out.below HBH.out (HI6.out.lt (Nat.zero_lt_succ _))) 5 _ rfl).1; have k6 := ((HI6.out.below HBH.out (HI6.out.lt (Nat.zero_lt_succ _))) 6 _ rfl).1; have k7 := ((HI6.out.below HBH.out (HI6.out.lt (Nat.zero_lt_succ _))) 7 _ rfl).1; have k8 := ((HI6.out.below HBH.out (HI6.out.lt (Nat.zero_lt_succ _))) 8 _ rfl).1; have k9 := ((HI6.out.below HBH.out (HI6.out.lt (Nat.zero_lt_succ _))) 9 _ rfl).1; have k10 := ((HI6.out.below HBH.out (HI6.out.lt (Nat.zero_lt_succ _))) 10 _ rfl).1; have s0 := (HS6.out.below HBH.out HS6.out.lt).c0))
                go_meet
                case rel => exact ⟨by first | rfl | (simp; done) | (simp; omega), HBH⟩
              · go_wp2_with (first | (go_at_call 41; refine (HHO.out _ (Below.refl _ _)).mono ?_; rintro e wh ⟨rfl, hbh⟩; have HBH := Lib.hid hbh; clear hbh o0 o1; have k0 := ((HI6.out.below HBH.out (HI6.out.lt (Nat.zero_lt_succ _))) 0 _ rfl).1; have k1 := ((HI6.out.below HBH.out (HI6.out.lt (Nat.zero_lt_succ _))) 1 _ rfl).1; have k2 := ((HI6.out.below HBH.out (HI6.out.lt (Nat.zero_lt_succ _))) 2 _ rfl).1; have k3 := ((HI6.out.below HBH.out (HI6.out.lt (Nat.zero_lt_succ _))) 3 _ rfl).1; have k4 := ((HI6.out.below HBH.out (HI6.out.lt (Nat.zero_lt_succ _))) 4 _ rfl).1; have k5 := ((HI6.out.below HBH.out (HI6.out.lt (Nat.zero_lt_succ _))) 5 _ rfl).1; have k6 := ((HI6.out.below HBH.out (HI6.out.lt (Nat.zero_lt_succ _))) 6 _ rfl).1; have k7 := ((HI6.out.below HBH.out (HI6.out.lt (Nat.zero_lt_succ _))) 7 _ rfl).1; have k8 := ((HI6.out.below HBH.out (HI6.out.lt (Nat.zero_lt_succ _))) 8 _ rfl).1; have k9 := ((HI6.out.below HBH.out (HI6.out.lt (Nat.zero_lt_succ _))) 9 _ rfl).1; have k10 := ((HI6.out.below HBH.out (HI6.out.lt (Nat.zero_lt_succ _))) 10 _ rfl).1; have s0 := (HS6.out.below HBH.out HS6.out.lt).c0))
                go_meet
                case rel => exact ⟨by first | rfl | (simp; done) | (simp; omega), HBH⟩
            · have hk0' : k < 0 := by omega
              go_wp2_with (first | (go_at_call 41; refine (HHO.out _ (Below.refl _ _)).mono ?_; rintro e wh ⟨rfl, hbh⟩; have HBH := Lib.hid hbh; clear hbh o0 o1; have k0 := ((HI6.out.below HBH.out (HI6.out.lt (Nat.zero_lt_succ _))) 0 _ rfl).1; have k1 := ((HI6.out.below HBH.out (HI6.out.lt (Nat.zero_lt_succ _))) 1 _ rfl).1; have k2 := ((HI6.out.below HBH.out (HI6.out.lt (Nat.zero_lt_succ _))) 2 _ rfl).1; have k3 := ((HI6.out.below HBH.out (HI6.out.lt (Nat.zero_lt_succ _))) 3 _ rfl).1; have k4 := ((HI6.out.below HBH.out (HI6.out.lt (Nat.zero_lt_succ _))) 4 _ rfl).1; have k5 := ((HI6.out.below HBH.out (HI6.out.lt (Nat.zero_lt_succ _))) 5 _ rfl).1; have k6 := ((HI6.out.below HBH.out (HI6.out.lt (Nat.zero_lt_succ _))) 6 _ rfl).1; have k7 := ((HI6.out.below HBH.out (HI6.out.lt (Nat.zero_lt_succ _))) 7 _ rfl).1; have k8 := ((HI6.out.below HBH.out (HI6.out.lt (Nat.zero_lt_succ _))) 8 _ rfl).1; have k9 := ((HI6.out.below HBH.out (HI6.out.lt (Nat.zero_lt_succ _))) 9 _ rfl).1; have k10 := ((HI6.out.below HBH.out (HI6.out.lt (Nat.zero_lt_succ _))) 10 _ rfl).1; have s0 := (HS6.out.below HBH.out HS6.out.lt).c0))
              go_meet
              case rel => exact ⟨by first | rfl | (simp; done) | (simp; omega), HBH⟩
          | false =>
            go_wp2_with (first | (go_at_call 41; refine (HHO.out _ (Below.refl _ _)).mono ?_; rintro e wh ⟨rfl, hbh⟩; have HBH := Lib.hid hbh; clear hbh o0 o1; have k0 := ((HI6.out.below HBH.out (HI6.out.lt (Nat.zero_lt_succ _))) 0 _ rfl).1; have k1 := ((HI6.out.below HBH.out (HI6.out.lt (Nat.zero_lt_succ _))) 1 _ rfl).1; have k2 := ((HI6.out.below HBH.out (HI6.out.lt (Nat.zero_lt_succ _))) 2 _ rfl).1; have k3 := ((HI6.out.below HBH.out (HI6.out.lt (Nat.zero_lt_succ _))) 3 _ rfl).1; have k4 := ((HI6.out.below HBH.out (HI6.out.lt (Nat.zero_lt_succ _))) 4 _ rfl).1; have k5 := ((HI6.out.below HBH.out (HI6.out.lt (Nat.zero_lt_succ _))) 5 _ rfl).1; have k6 := ((HI6.out.below HBH.out (HI6.out.lt (Nat.zero_lt_succ _))) 6 _ rfl).1; have k7 := ((HI6.out.below HBH.out (HI6.out.lt (Nat.zero_lt_succ _))) 7 _ rfl).1; have k8 := ((HI6.out.below HBH.out (HI6.out.lt (Nat.zero_lt_succ _))) 8 _ rfl).1; have k9 := ((HI6.out.below HBH.out (HI6.out.lt (Nat.zero_lt_succ _))) 9 _ rfl).1; have k10 := ((HI6.out.below HBH.out (HI6.out.lt (Nat.zero_lt_succ _))) 10 _ rfl).1; have s0 := (HS6.out.below HBH.out HS6.out.lt).c0))
            go_meet
            case rel => exact ⟨by first | rfl | (simp; done) | (simp; omega), HBH⟩
      case rest =>
        obtain ⟨rfl, hbc⟩ := hcut
        have HHA := Lib.hid (fun W (hb : Below w6.heap.size w6 W) => (by
          have h := Has_ok (.agg #[.int .i64 (n : Int), .slice a5 len cap5]) n (lv n rs) k W ⟨a5, cap5, by rw [(HLO.out _ _ HOK.out).len, ← HOK.out.len, HLEN.out], (HF6.out.below hb).wd⟩ (HLO.out _ _ HOK.out)
          rw [HHK.out] at h
          exact h : Calls Tryd.prog 41 #[.agg #[.int .i64 (n : Int), .slice a5 len cap5], .int .i64 k] W fun e w' => e = .returned (.bool ((hs && decide (k ≠ d)) || (R && decide (0 ≤ k ∧ k < n)))) ∧ Below W.heap.size W w'))
        have HLEN2 : Hid ((lv n rs).length = len) := by show _ = _; rw [(HLO.out _ _ HOK.out).len, ← HOK.out.len, HLEN.out]
        have HLA := Lib.hid (fun W (hb : Below w6.heap.size w6 W) => HLV.out (n : Int) a5 len cap5 n (lv n rs) W ((HF6.out.below hb).acts (HLO.out _ _ HOK.out) HLEN2.out) (HT0.out.on (HW6.out.trans (hb.mono HW6.out.size))) len HLEN2.out)
        have HSA := Lib.hid (fun W a' cap' (hb : Below w6.heap.size w6 W) (hF : Acts W (.agg #[.int .i64 (n : Int), .slice a' len cap']) n (lv n (lv n rs))) => Same_acts hF ((HF6.out.below hb).acts (cap := cap5) (HLO.out _ _ HOK.out) HLEN2.out) (b := true) (by rw [HID.out _ _ HOK.out]; simp))
        have HLO2 := Lib.hid (HLO.out _ _ (HLO.out _ _ HOK.out))
        have HLEN3 : Hid ((lv n (lv n rs)).length = len) := by show _ = _; rw [HID.out _ _ HOK.out]; exact HLEN2.out
        generalize ((hs && decide (k ≠ d)) || (R && decide (0 ≤ k ∧ k < n))) = wb at *
        have hS : Hid (∀ w', Below w6.heap.size w6 w' → w'.cell? ⟨ba, 0, none⟩ = some (.int .i64 (n : Int)) ∧ w'.cell? ⟨ba, 1, none⟩ = some (.slice a5 len cap5) ∧ w'.cell? ⟨w.heap.size, 0, none⟩ = some (.int .i64 (n : Int)) ∧ w'.cell? ⟨w.heap.size + 1, 0, none⟩ = some (.int .i64 id) ∧ w'.cell? ⟨w.heap.size + 1, 1, none⟩ = some (.int .i64 kind) ∧ w'.cell? ⟨w.heap.size + 1, 2, none⟩ = some (.int .i64 dst) ∧ w'.cell? ⟨w.heap.size + 1, 3, none⟩ = some (.int .i64 a) ∧ w'.cell? ⟨w.heap.size + 1, 4, none⟩ = some (.int .i64 b) ∧ w'.cell? ⟨w.heap.size + 1, 5, none⟩ = some (.int .i64 c) ∧ w'.cell? ⟨w.heap.size + 1, 6, none⟩ = some (.int .i64 f) ∧ w'.cell? ⟨w.heap.size + 1, 7, none⟩ = some (.int .i64 n') ∧ w'.cell? ⟨w.heap.size + 1, 8, none⟩ = some (.int .i64 x0) ∧ w'.cell? ⟨w.heap.size + 1, 9, none⟩ = some (.int .i64 x1) ∧ w'.cell? ⟨w.heap.size + 1, 10, none⟩ = some (.int .i64 x2)) := fun w' hb' => ⟨(HB6.out.below hb' HB6.out.lt).c0, (HB6.out.below hb' HB6.out.lt).c1, (HS6.out.below hb' HS6.out.lt).c0, ((HI6.out.below hb' (HI6.out.lt (Nat.zero_lt_succ _))) 0 _ rfl).1, ((HI6.out.below hb' (HI6.out.lt (Nat.zero_lt_succ _))) 1 _ rfl).1, ((HI6.out.below hb' (HI6.out.lt (Nat.zero_lt_succ _))) 2 _ rfl).1, ((HI6.out.below hb' (HI6.out.lt (Nat.zero_lt_succ _))) 3 _ rfl).1, ((HI6.out.below hb' (HI6.out.lt (Nat.zero_lt_succ _))) 4 _ rfl).1, ((HI6.out.below hb' (HI6.out.lt (Nat.zero_lt_succ _))) 5 _ rfl).1, ((HI6.out.below hb' (HI6.out.lt (Nat.zero_lt_succ _))) 6 _ rfl).1, ((HI6.out.below hb' (HI6.out.lt (Nat.zero_lt_succ _))) 7 _ rfl).1, ((HI6.out.below hb' (HI6.out.lt (Nat.zero_lt_succ _))) 8 _ rfl).1, ((HI6.out.below hb' (HI6.out.lt (Nat.zero_lt_succ _))) 9 _ rfl).1, ((HI6.out.below hb' (HI6.out.lt (Nat.zero_lt_succ _))) 10 _ rfl).1⟩
        have HBN := Lib.hid hbc.out.drew
        clear hbc HHO HLV HHK HID HLO
        go_upto_region 13 with fail
        have tok1 : True := trivial
        have tok2 : True := trivial
        have tok3 : True := trivial
        go_region_held3 (fun w' => w'.cell? ⟨ba, 0, none⟩ = some (.int .i64 (n : Int)) ∧ w'.cell? ⟨ba, 1, none⟩ = some (.slice a5 len cap5) ∧ w'.cell? ⟨w.heap.size, 0, none⟩ = some (.int .i64 (n : Int)) ∧ w'.cell? ⟨w.heap.size + 1, 0, none⟩ = some (.int .i64 id) ∧ w'.cell? ⟨w.heap.size + 1, 1, none⟩ = some (.int .i64 kind) ∧ w'.cell? ⟨w.heap.size + 1, 2, none⟩ = some (.int .i64 dst) ∧ w'.cell? ⟨w.heap.size + 1, 3, none⟩ = some (.int .i64 a) ∧ w'.cell? ⟨w.heap.size + 1, 4, none⟩ = some (.int .i64 b) ∧ w'.cell? ⟨w.heap.size + 1, 5, none⟩ = some (.int .i64 c) ∧ w'.cell? ⟨w.heap.size + 1, 6, none⟩ = some (.int .i64 f) ∧ w'.cell? ⟨w.heap.size + 1, 7, none⟩ = some (.int .i64 n') ∧ w'.cell? ⟨w.heap.size + 1, 8, none⟩ = some (.int .i64 x0) ∧ w'.cell? ⟨w.heap.size + 1, 9, none⟩ = some (.int .i64 x1) ∧ w'.cell? ⟨w.heap.size + 1, 10, none⟩ = some (.int .i64 x2)) (first | exact hS.out _ HBN.out)
          (first
            | (have _t := tok1; go_at_call 41; refine (HHA.out _ HBN.out).mono ?_; clear _t tok1; rintro e wn ⟨rfl, hbn⟩; have hbx := HBN.out.trans (hbn.mono HBN.out.size); clear HBN hbn; have HBN := Lib.hid hbx; clear hbx)
            | (have _t := tok2; go_at_call 26; refine (HLA.out _ HBN.out).mono ?_; clear _t tok2; rintro e w8 ⟨a8, cap8, rfl, hF8, hbn⟩; have hbx := HBN.out.trans (hbn.mono HBN.out.size); clear HBN hbn; have HBN := Lib.hid hbx; clear hbx; have HA8 := Lib.hid (hF8.acts (cap := cap8) HLO2.out HLEN3.out); clear hF8)
            | (have _t := tok3; go_at_call 43; refine (HSA.out _ _ _ HBN.out HA8.out).mono ?_; clear _t tok3; rintro e w9 ⟨rfl, hbn⟩; have hbx := HBN.out.trans (hbn.mono HBN.out.size); clear HBN hbn; have HBN := Lib.hid hbx; clear hbx))
        all_goals
          go_wp2_with fail
          go_ret
          exact ⟨rfl, HW6.out.trans (HBN.out.mono HW6.out.size)⟩
end Go.Proofs.YtmcbedlmgffckaaDoor.Bi
