/- InstrTells: the law's walk. -/
import Derived.Deep.RegionHeld3
import Derived.Test.YtmcbedlmgffckaaDoorInsJ
import Derived.Test.YtmcbedlmgffckaaDoorInsW
import Derived.Test.YtmcbedlmgffckaaDoorEnvK
import Derived.Test.YtmcbedlmgffckaaDoorVarC
import Derived.Test.YtmcbedlmgffckaaDoorNli
namespace Go.Proofs.YtmcbedlmgffckaaDoor.Bi
open Go Go.RowKit Go.Sort

theorem Box.nx {X Y : World} {b : Nat} {x y : Value} (h : Box X b x y) (hb : Below X.heap.size X Y) : Box Y b x y := h.below hb h.lt
theorem GetF_fe (on : Bool) (a : Option Addr) (n cap : Nat) (l : List V) (i : Int) (w : World) (h : FE w a n l) :
    Calls Tryd.prog 39 #[.agg #[.bool on, .slice a n cap], .int .i64 i] w fun e w' => e = .returned (atG vbot on l i).sn.val ∧ Below w.heap.size w w' := by
  obtain ⟨h1, rfl⟩ := h
  exact GetF_any on a l cap i w h1
theorem is_one (X : World) (d : Int) : Is (X.alloc (.cells #[.int .i64 d] 3)).heap.size (X.alloc (.cells #[.int .i64 d] 3)) (some ⟨X.heap.size, 0, none⟩) [d] := fun j hj => ⟨X.heap.size, 0, rfl, by simp, by obtain rfl : j = 0 := (by simpa using hj); simp⟩
theorem FreshV.putNe {n0 : Nat} {W : World} {a : Option Addr} {ws : List Nat} {b : Nat} (h : FreshV n0 W a ws) (hne : ws = [] ∨ ∃ g, a = some ⟨g, 0, none⟩ ∧ g ≠ b) (x y : Value) : FreshV n0 ((W.setCell ⟨b, 0, none⟩ x).setCell ⟨b, 1, none⟩ y) a ws := by
  rcases hne with h0 | ⟨g, rfl, hg⟩
  · exact .inl h0
  · rcases h with h0 | ⟨g', e, hF⟩
    · exact .inl h0
    · obtain rfl : g = g' := by simpa using e
      exact .inr ⟨g, rfl, hF.block (heap_put2 W b g x y hg)⟩
theorem Has_acts {v : Value} {n : Nat} {ws : List Nat} {W : World} (h : Acts W v n ws) (i : Int) : Calls Tryd.prog 41 #[v, .int .i64 i] W fun e w' => e = .returned (.bool (hasB n ws i)) ∧ Below W.heap.size W w' := by
  obtain ⟨r, rs, hv, a1, a2, rfl, rfl⟩ := h
  exact Has_any v r rs i W hv a1 a2
theorem live_of (i : Ins) (h0 : 0 ≤ i.defn) (h50 : i.defn < 50) : hasB 50 (liveW 50 (ofW 50 [i.defn]) i) i.defn = decide (i.defn ∈ i.uses) := by
  rw [has_live (ok_of (by decide) _)]
  simp [h0, h50]

set_option maxRecDepth 100000 in
set_option maxHeartbeats 32000000 in
theorem tells_law (on : Bool) (a : Option Addr) (n cap : Nat) (l : List V) (i : Ins) (k : Int) (w : World) (h : FE w a n l) (hT : KTab w) :
    Calls Tryd.prog 6 #[.agg #[.bool on, .slice a n cap], i.val, .int .i64 k] w fun e w' => e = .returned (.bool true) ∧ Below w.heap.size w w' := by
  have HFE := Lib.hid h
  have HT0 := Lib.hid hT
  have hb2 := below2 w (.cells #[.bool on, .slice a n cap] 47) (.cells i.cells.toArray 24)
  have BE := (Box.new w (.bool on) (.slice a n cap) 47).alloc (.cells i.cells.toArray 24)
  have BI := BoxL.new (w.alloc (.cells #[.bool on, .slice a n cap] 47)) i.cells 24
  simp only [World.size_alloc] at BI
  obtain ⟨m, hm⟩ : ∃ m, szG on l = m := ⟨_, rfl⟩
  have hmn : m ≤ n := by rw [← hm, ← h.2]; unfold szG; split <;> omega
  obtain ⟨fl, hfl⟩ : ∃ fl, flatI on l i = fl := ⟨_, rfl⟩
  obtain ⟨vs, hvs⟩ : ∃ vs, i.vars = vs := ⟨_, rfl⟩
  obtain ⟨fm, hfm⟩ : ∃ fm, decide i.form = fm := ⟨_, rfl⟩
  obtain ⟨lw, hlw⟩ : ∃ lw, liveW 50 (ofW 50 [i.defn]) i = lw := ⟨_, rfl⟩
  have HFL := Lib.hid (fun a8 cap8 W (hn : n ≤ 200) (h : FE W a8 n l) (hK : KTab W) => Flat_any on a8 n cap8 l i W h hn hK m hm fl hfl)
  have HD := Lib.hid (fun W (h : KTab W) => Def_any i W h _ rfl)
  have HU := Lib.hid (fun W (h : KTab W) => Uses_any i W h)
  have HV := Lib.hid (fun W (h : KTab W) => Vars_any i W h vs hvs)
  have HF := Lib.hid (fun W (h : KTab W) => Form_any i W h fm hfm)
  have HLV := Lib.hid (fun r a0 len cap0 W ha hT K hK => Live_any r a0 len cap0 50 (ofW 50 [i.defn]) i W ha hT K hK lw hlw)
  have HAT : Hid (k ≠ i.defn → (atG vbot on fl k).sn = (atG vbot on l k).sn) := fun hk => by rw [← hfl]; exact flatI_at on l i hk
  have HLQ : Hid (i.defn < 0 → leqF on fl on l = true) := fun hd => by rw [← hfl]; exact flatI_none on l i hd
  have HLH : Hid (0 ≤ i.defn → i.defn < 50 → hasB 50 lw i.defn = decide (i.defn ∈ i.uses)) := fun h0 h1 => by rw [← hlw]; exact live_of i h0 h1
  have HLO : Hid (Ok 50 lw) := by rw [← hlw]; exact Ok.live (ok_of (by decide) _) i
  have HVL : Hid (vs.length ≤ i.uses.length + 1) := by rw [← hvs]; exact vars_length i
  have HDI : Hid (i.defn < 0 ↔ (fm = false ∨ i.kind = 8 ∨ i.kind = 9)) := by
    have h := defn_iff i
    show _ ↔ _
    rw [← hfm]
    simpa using h
  have HUL := Lib.hid (uses_le i)
  clear hm hfl hvs hfm hlw
  generalize i.defn = d at *
  generalize i.uses = us at *
  obtain ⟨id, kind, dst, va, vb, c, f, n', x0, x1, x2⟩ := i
  unfold Ins.val at *
  unfold Ins.cells at *
  dsimp only at *
  generalize hE : (w.alloc (.cells #[.bool on, .slice a n cap] 47)).alloc (.cells (List.toArray [.int .i64 id, .int .i64 kind, .int .i64 dst, .int .i64 va, .int .i64 vb, .int .i64 c, .int .i64 f, .int .i64 n', .int .i64 x0, .int .i64 x1, .int .i64 x2]) 24) = W at *
  have hE' : (w.alloc (.cells #[.bool on, .slice a n cap] 47)).alloc (.cells #[.int .i64 id, .int .i64 kind, .int .i64 dst, .int .i64 va, .int .i64 vb, .int .i64 c, .int .i64 f, .int .i64 n', .int .i64 x0, .int .i64 x1, .int .i64 x2] 24) = W := hE
  have HW := Lib.hid hb2
  have HE := Lib.hid BE
  have HI := Lib.hid BI
  clear hE h hT hb2 BE BI
  go_enter Tryd.func6, Tryd.ntmps6
  go_wp2_with fail
  try rw [hE']
  clear hE'
  refine (awake5_any _ (HT0.out.on HW.out)).mono ?_
  rintro e w1 ⟨rfl, hbn⟩
  have Hx := Lib.hid (Box.nx HE.out hbn)
  clear HE
  have HE := Hx
  clear Hx
  have Hx := Lib.hid (HI.out.below hbn (HI.out.lt (Nat.zero_lt_succ _)))
  clear HI
  have HI := Hx
  clear Hx
  have Hx := Lib.hid (HW.out.trans (hbn.mono HW.out.size))
  clear HW
  have HW := Hx
  clear Hx
  clear hbn
  obtain ⟨e0, e1, -, -⟩ := HE.out
  by_cases hn50 : 50 < n
  · have hn50i : (50 : Int) < (n : Int) := by omega
    go_wp2_with fail
    go_ret
    exact ⟨rfl, HW.out⟩
  have hn50i : (n : Int) ≤ 50 := by omega
  go_wp2_with fail
  refine (our5_any on a n cap l _ (HFE.out.below HW.out) (by omega)).mono ?_
  clear e0 e1
  rintro e w2 ⟨a8, cap8, rfl, hF8, hb2⟩
  have hal := below1 w2 (.cells #[.bool on, .slice a8 n cap8] 54)
  have hbn := hb2.trans (hal.mono hb2.size)
  have Hx := Lib.hid (Box.nx HE.out hbn)
  clear HE
  have HE := Hx
  clear Hx
  have Hx := Lib.hid (HI.out.below hbn (HI.out.lt (Nat.zero_lt_succ _)))
  clear HI
  have HI := Hx
  clear Hx
  have Hx := Lib.hid (HW.out.trans (hbn.mono HW.out.size))
  clear HW
  have HW := Hx
  clear Hx
  have HB8 := Lib.hid (Box.new w2 (.bool on) (.slice a8 n cap8) 54)
  have HF8 := Lib.hid (hF8.below hal)
  clear hal hb2 hbn hF8
  have k0 := (HI.out 0 _ rfl).1
  have k1 := (HI.out 1 _ rfl).1
  have k2 := (HI.out 2 _ rfl).1
  have k3 := (HI.out 3 _ rfl).1
  have k4 := (HI.out 4 _ rfl).1
  have k5 := (HI.out 5 _ rfl).1
  have k6 := (HI.out 6 _ rfl).1
  have k7 := (HI.out 7 _ rfl).1
  have k8 := (HI.out 8 _ rfl).1
  have k9 := (HI.out 9 _ rfl).1
  have k10 := (HI.out 10 _ rfl).1
  go_wp2_with fail
  obtain ⟨b8, hb8⟩ : ∃ b8, w2.heap.size = b8 := ⟨_, rfl⟩
  rw [hb8] at HB8 ⊢
  generalize w2.alloc (.cells #[.bool on, .slice a8 n cap8] 54) = W3 at *
  clear hb8
  clear k0 k1 k2 k3 k4 k5 k6 k7 k8 k9 k10
  refine (HFL.out a8 cap8 _ (by omega) HF8.out (HT0.out.on HW.out)).mono ?_
  rintro e w3 ⟨a9, cap9, rfl, hF9, hb3⟩
  have hal := below1 w3 (.cells #[.bool on, .slice a9 m cap9] 54)
  have hbn := hb3.trans (hal.mono hb3.size)
  have Hx := Lib.hid (Box.nx HE.out hbn)
  clear HE
  have HE := Hx
  clear Hx
  have Hx := Lib.hid (HI.out.below hbn (HI.out.lt (Nat.zero_lt_succ _)))
  clear HI
  have HI := Hx
  clear Hx
  have Hx := Lib.hid (HW.out.trans (hbn.mono HW.out.size))
  clear HW
  have HW := Hx
  clear Hx
  have Hx := Lib.hid (Box.nx HB8.out hbn)
  clear HB8
  have HB8 := Hx
  clear Hx
  have Hx := Lib.hid (HF8.out.below hbn)
  clear HF8
  have HF8 := Hx
  clear Hx
  have HB9 := Lib.hid (Box.new w3 (.bool on) (.slice a9 m cap9) 54)
  have HF9 := Lib.hid (hF9.below hal)
  clear hal hb3 hbn hF9
  have k0 := (HI.out 0 _ rfl).1
  have k1 := (HI.out 1 _ rfl).1
  have k2 := (HI.out 2 _ rfl).1
  have k3 := (HI.out 3 _ rfl).1
  have k4 := (HI.out 4 _ rfl).1
  have k5 := (HI.out 5 _ rfl).1
  have k6 := (HI.out 6 _ rfl).1
  have k7 := (HI.out 7 _ rfl).1
  have k8 := (HI.out 8 _ rfl).1
  have k9 := (HI.out 9 _ rfl).1
  have k10 := (HI.out 10 _ rfl).1
  go_wp2_with fail
  obtain ⟨b9, hb9⟩ : ∃ b9, w3.heap.size = b9 := ⟨_, rfl⟩
  rw [hb9] at HB9 ⊢
  generalize w3.alloc (.cells #[.bool on, .slice a9 m cap9] 54) = W4 at *
  clear hb9
  clear k0 k1 k2 k3 k4 k5 k6 k7 k8 k9 k10
  refine (HD.out _ (HT0.out.on HW.out)).mono ?_
  rintro e w4 ⟨rfl, hbn⟩
  have Hx := Lib.hid (Box.nx HE.out hbn)
  clear HE
  have HE := Hx
  clear Hx
  have Hx := Lib.hid (HI.out.below hbn (HI.out.lt (Nat.zero_lt_succ _)))
  clear HI
  have HI := Hx
  clear Hx
  have Hx := Lib.hid (HW.out.trans (hbn.mono HW.out.size))
  clear HW
  have HW := Hx
  clear Hx
  have Hx := Lib.hid (Box.nx HB8.out hbn)
  clear HB8
  have HB8 := Hx
  clear Hx
  have Hx := Lib.hid (HF8.out.below hbn)
  clear HF8
  have HF8 := Hx
  clear Hx
  have Hx := Lib.hid (Box.nx HB9.out hbn)
  clear HB9
  have HB9 := Hx
  clear Hx
  have Hx := Lib.hid (HF9.out.below hbn)
  clear HF9
  have HF9 := Hx
  clear Hx
  clear hbn
  go_upto_region 7 with fail
  go_cut [56] (fun s56 wx => s56 = .bool false ∧ Hid (Below w4.heap.size w4 wx))
  case first =>
    obtain ⟨⟨vk, vc⟩, hv⟩ : ∃ v, (atG vbot on l k).sn = v := ⟨_, rfl⟩
    have q0 := cell_regrown HB8.out.c0
    have q1 := cell_regrown HB8.out.c1
    have q2 := cell_regrown HB9.out.c0
    have q3 := cell_regrown HB9.out.c1
    have hon : (on != on) = false := by simp
    have c1 := fun dd os => Calls.regrown_of (GetF_fe on a8 n cap8 l k (grow (redrawn w4 dd) os) (HF8.out.below (below_regrown w4 dd os)))
    rw [hv] at c1
    unfold V.val at c1
    dsimp only at c1
    by_cases hkd : k = d
    · have hkb : (k != d) = false := by simp [hkd]
      clear hkd
      by_cases hd0 : d < 0
      · have c3 := fun dd os => Calls.regrown_of (LeqF_any on a9 m cap9 fl on a8 n cap8 l (grow (redrawn w4 dd) os) (HF9.out.below (below_regrown w4 dd os)) (HF8.out.below (below_regrown w4 dd os)) (by omega) true (HLQ.out hd0))
        refine wp_region_quiet_below (by kernel_rfl) (by kernel_rfl) ?_
        repeat (first | go_big_quiet_step (first | with_reducible exact c3 _ _) | quiet_step (first | with_reducible exact c3 _ _))
        refine wpQuiet_nil ?_
        intro _ hw'
        obtain ⟨⟨dq, osq⟩, hw''⟩ := hw'
        subst hw''
        go_wp2_with fail
        go_meet
        exact ⟨rfl, below_regrown w4 dq osq⟩
      · have hd0' : 0 ≤ d := by omega
        refine wp_region_quiet_below (by kernel_rfl) (by kernel_rfl) ?_
        repeat (first | go_big_quiet_step (first | fail) | quiet_step (first | fail))
        refine wpQuiet_nil ?_
        intro _ hw'
        obtain ⟨⟨dq, osq⟩, hw''⟩ := hw'
        subst hw''
        go_wp2_with fail
        go_meet
        exact ⟨rfl, below_regrown w4 dq osq⟩
    · have hkb : (k != d) = true := by simp [hkd]
      have c2 := fun dd os => Calls.regrown_of (GetF_fe on a9 m cap9 fl k (grow (redrawn w4 dd) os) (HF9.out.below (below_regrown w4 dd os)))
      rw [HAT.out hkd, hv] at c2
      unfold V.val at c2
      dsimp only at c2
      by_cases hd0 : d < 0
      · have c3 := fun dd os => Calls.regrown_of (LeqF_any on a9 m cap9 fl on a8 n cap8 l (grow (redrawn w4 dd) os) (HF9.out.below (below_regrown w4 dd os)) (HF8.out.below (below_regrown w4 dd os)) (by omega) true (HLQ.out hd0))
        refine wp_region_quiet_below (by kernel_rfl) (by kernel_rfl) ?_
        repeat (first | go_big_quiet_step (first | with_reducible exact c1 _ _ | with_reducible exact c2 _ _ | with_reducible exact c3 _ _) | quiet_step (first | with_reducible exact c1 _ _ | with_reducible exact c2 _ _ | with_reducible exact c3 _ _))
        refine wpQuiet_nil ?_
        intro _ hw'
        obtain ⟨⟨dq, osq⟩, hw''⟩ := hw'
        subst hw''
        go_wp2_with fail
        go_meet
        exact ⟨rfl, below_regrown w4 dq osq⟩
      · have hd0' : 0 ≤ d := by omega
        refine wp_region_quiet_below (by kernel_rfl) (by kernel_rfl) ?_
        repeat (first | go_big_quiet_step (first | with_reducible exact c1 _ _ | with_reducible exact c2 _ _) | quiet_step (first | with_reducible exact c1 _ _ | with_reducible exact c2 _ _))
        refine wpQuiet_nil ?_
        intro _ hw'
        obtain ⟨⟨dq, osq⟩, hw''⟩ := hw'
        subst hw''
        go_wp2_with fail
        go_meet
        exact ⟨rfl, below_regrown w4 dq osq⟩
  case rest =>
    obtain ⟨rfl, hbc⟩ := hcut
    have hbn := hbc.out
    have Hx := Lib.hid (Box.nx HE.out hbn)
    clear HE
    have HE := Hx
    clear Hx
    have Hx := Lib.hid (HI.out.below hbn (HI.out.lt (Nat.zero_lt_succ _)))
    clear HI
    have HI := Hx
    clear Hx
    have Hx := Lib.hid (HW.out.trans (hbn.mono HW.out.size))
    clear HW
    have HW := Hx
    clear Hx
    have Hx := Lib.hid (Box.nx HB8.out hbn)
    clear HB8
    have HB8 := Hx
    clear Hx
    have Hx := Lib.hid (HF8.out.below hbn)
    clear HF8
    have HF8 := Hx
    clear Hx
    have Hx := Lib.hid (Box.nx HB9.out hbn)
    clear HB9
    have HB9 := Hx
    clear Hx
    have Hx := Lib.hid (HF9.out.below hbn)
    clear HF9
    have HF9 := Hx
    clear Hx
    clear hbn hbc HFL HAT HLQ
    have k0 := (HI.out 0 _ rfl).1
    have k1 := (HI.out 1 _ rfl).1
    have k2 := (HI.out 2 _ rfl).1
    have k3 := (HI.out 3 _ rfl).1
    have k4 := (HI.out 4 _ rfl).1
    have k5 := (HI.out 5 _ rfl).1
    have k6 := (HI.out 6 _ rfl).1
    have k7 := (HI.out 7 _ rfl).1
    have k8 := (HI.out 8 _ rfl).1
    have k9 := (HI.out 9 _ rfl).1
    have k10 := (HI.out 10 _ rfl).1
    go_wp2_with fail
    clear k0 k1 k2 k3 k4 k5 k6 k7 k8 k9 k10
    refine (HU.out _ (HT0.out.on HW.out)).mono ?_
    obtain ⟨lu, hlu⟩ : ∃ lu, us.length = lu := ⟨_, rfl⟩
    rw [hlu]
    rw [hlu] at HVL
    have HM := Lib.hid hlu
    have hlu5 : lu ≤ 5 := by rw [← hlu]; exact HUL.out
    rintro e w6 ⟨u, rfl, hou, hbn⟩
    obtain ⟨au, cu, rfl, -, hIu⟩ := is_of_ints hou
    have HIu := Lib.hid hIu
    have Hx := Lib.hid (HI.out.below hbn (HI.out.lt (Nat.zero_lt_succ _)))
    clear HI
    have HI := Hx
    clear Hx
    have Hx := Lib.hid (HW.out.trans (hbn.mono HW.out.size))
    clear HW
    have HW := Hx
    clear Hx
    clear hou hIu hlu hbn HB8 HB9 HF8 HF9 HE HU HFE HUL
    go_wp2_with fail
    go_loop [12, 13] (fun rd ix => ∃ q : Nat, q ≤ lu ∧ ix = .int .i64 q ∧ rd = .bool (decide (d ∈ us.take q))) (fun _ ix => lu - (intOf ix).toNat)
    case atStart => exact ⟨0, Nat.zero_le _, rfl, by simp⟩
    case round =>
      obtain ⟨q, hq, rfl, rfl⟩ := hrel
      by_cases hlt : q < lu
      · have hqi : (q : Int) < (lu : Int) := by omega
        have hql : q < us.length := by rw [HM.out]; exact hlt
        obtain ⟨x, hx⟩ : ∃ x, us[q]?.getD 0 = x := ⟨_, rfl⟩
        have htk : us.take (q + 1) = us.take q ++ [x] := by rw [List.take_succ_eq_append_getElem hql, ← hx]; simp [hql]
        have HTK := Lib.hid htk
        by_cases hin : d ∈ us.take q
        · rw [decide_eq_true hin]
          have HIN := Lib.hid hin
          clear hin htk hx hql
          go_wp2
          exact ⟨⟨q + 1, by omega, by go_num, by rw [decide_eq_true (by rw [HTK.out]; simp [HIN.out])]⟩, by simp [intOf]; omega⟩
        · rw [decide_eq_false hin]
          have HIN := Lib.hid hin
          obtain ⟨gb, go, rfl, -, hcell⟩ := HIu.out q hql
          rw [hx] at hcell
          clear hin htk hx hql
          by_cases hxk : x = d
          · subst hxk
            go_wp2
            exact ⟨⟨q + 1, by omega, by go_num, by rw [decide_eq_true (by rw [HTK.out]; simp)]⟩, by simp [intOf]; omega⟩
          · go_wp2
            exact ⟨⟨q + 1, by omega, by go_num, by rw [decide_eq_false (by rw [HTK.out]; simp only [List.mem_append, List.mem_singleton, not_or]; exact ⟨HIN.out, fun e => hxk e.symm⟩)]; simp [hxk]⟩, by simp [intOf]; omega⟩
      · obtain rfl : q = lu := by omega
        rw [List.take_of_length_le (by rw [HM.out]; exact Nat.le_refl _)]
        clear hq hlt
        have hqi : ¬ ((q : Int) < (q : Int)) := by omega
        obtain ⟨R, hR⟩ : ∃ R, decide (d ∈ us) = R := ⟨_, rfl⟩
        rw [hR] at HLH ⊢
        clear hR
        have HLEN : Hid (lw.length = 1) := by show _ = _; rw [HLO.out.len]; decide
        have HOF := Lib.hid (fun (W : World) a cap (hIs : Is W.heap.size W a [d]) => (by
          have h := OfA_any (n := 50) (K := 1) (by decide) (by decide) (cap := cap) hIs (T := 1) rfl (by decide)
          exact h : Calls Tryd.prog 40 #[.int .i64 50, .slice a 1 cap] W fun e w' => ∃ g, e = .returned (.agg #[.int .i64 50, .slice (some ⟨g, 0, none⟩) 1 1]) ∧ Fresh W.heap.size w' g (ofW 50 [d]) ∧ Below W.heap.size W w'))
        go_upto_region 15 with fail
        go_cut [14] (fun s14 wx => ∃ b a14 cap14, s14 = .pointer (some ⟨b, 0, none⟩) ∧ Hid (Box wx b (.int .i64 50) (.slice a14 1 cap14)) ∧ Hid (Acts wx (.agg #[.int .i64 50, .slice a14 1 cap14]) 50 lw) ∧ Hid (Below w6.heap.size w6 wx))
        case first =>
          have hS : Hid (∀ w', Below w6.heap.size w6 w' → w'.cell? ⟨w.heap.size + 1, 0, none⟩ = some (.int .i64 id) ∧ w'.cell? ⟨w.heap.size + 1, 1, none⟩ = some (.int .i64 kind) ∧ w'.cell? ⟨w.heap.size + 1, 2, none⟩ = some (.int .i64 dst) ∧ w'.cell? ⟨w.heap.size + 1, 3, none⟩ = some (.int .i64 va) ∧ w'.cell? ⟨w.heap.size + 1, 4, none⟩ = some (.int .i64 vb) ∧ w'.cell? ⟨w.heap.size + 1, 5, none⟩ = some (.int .i64 c) ∧ w'.cell? ⟨w.heap.size + 1, 6, none⟩ = some (.int .i64 f) ∧ w'.cell? ⟨w.heap.size + 1, 7, none⟩ = some (.int .i64 n') ∧ w'.cell? ⟨w.heap.size + 1, 8, none⟩ = some (.int .i64 x0) ∧ w'.cell? ⟨w.heap.size + 1, 9, none⟩ = some (.int .i64 x1) ∧ w'.cell? ⟨w.heap.size + 1, 10, none⟩ = some (.int .i64 x2)) := fun w' hb' => ⟨((HI.out.below hb' (HI.out.lt (Nat.zero_lt_succ _))) 0 _ rfl).1, ((HI.out.below hb' (HI.out.lt (Nat.zero_lt_succ _))) 1 _ rfl).1, ((HI.out.below hb' (HI.out.lt (Nat.zero_lt_succ _))) 2 _ rfl).1, ((HI.out.below hb' (HI.out.lt (Nat.zero_lt_succ _))) 3 _ rfl).1, ((HI.out.below hb' (HI.out.lt (Nat.zero_lt_succ _))) 4 _ rfl).1, ((HI.out.below hb' (HI.out.lt (Nat.zero_lt_succ _))) 5 _ rfl).1, ((HI.out.below hb' (HI.out.lt (Nat.zero_lt_succ _))) 6 _ rfl).1, ((HI.out.below hb' (HI.out.lt (Nat.zero_lt_succ _))) 7 _ rfl).1, ((HI.out.below hb' (HI.out.lt (Nat.zero_lt_succ _))) 8 _ rfl).1, ((HI.out.below hb' (HI.out.lt (Nat.zero_lt_succ _))) 9 _ rfl).1, ((HI.out.below hb' (HI.out.lt (Nat.zero_lt_succ _))) 10 _ rfl).1⟩
          have HBN : Hid (Below w6.heap.size w6 w6.drew) := (Below.refl _ _).drew
          refine wp_region_late (fun w' => w'.cell? ⟨w.heap.size + 1, 0, none⟩ = some (.int .i64 id) ∧ w'.cell? ⟨w.heap.size + 1, 1, none⟩ = some (.int .i64 kind) ∧ w'.cell? ⟨w.heap.size + 1, 2, none⟩ = some (.int .i64 dst) ∧ w'.cell? ⟨w.heap.size + 1, 3, none⟩ = some (.int .i64 va) ∧ w'.cell? ⟨w.heap.size + 1, 4, none⟩ = some (.int .i64 vb) ∧ w'.cell? ⟨w.heap.size + 1, 5, none⟩ = some (.int .i64 c) ∧ w'.cell? ⟨w.heap.size + 1, 6, none⟩ = some (.int .i64 f) ∧ w'.cell? ⟨w.heap.size + 1, 7, none⟩ = some (.int .i64 n') ∧ w'.cell? ⟨w.heap.size + 1, 8, none⟩ = some (.int .i64 x0) ∧ w'.cell? ⟨w.heap.size + 1, 9, none⟩ = some (.int .i64 x1) ∧ w'.cell? ⟨w.heap.size + 1, 10, none⟩ = some (.int .i64 x2)) 6 (by kernel_rfl) (hS.out _ HBN.out) (fun hHeld => ?_)
          generalize w6.drew = Wd at *
          refine wpAnyE_take (i := 0) (v := ?v0) rfl (by kernel_rfl) (fun _ _ _ h => h) hHeld (by rfl) ?y0 ?_
          case y0 => (intro w' hSw; (try dsimp only at hSw); go_simp <;> with_reducible rfl)
          refine wpAnyE_take (i := 3) (v := ?v3) rfl (by kernel_rfl) (fun _ _ _ h => h) hHeld (by rfl) ?y3 ?_
          case y3 => (intro w' hSw; (try dsimp only at hSw); go_simp <;> with_reducible rfl)
          refine wpAnyE_fork2 (i := 1) (j := 5) (by kernel_rfl) rfl rfl (fun K hK => ?_) (fun K hK => ?_)
          · skip
            go_simp
            refine hK.out _ _ ?_ (fun hHeld => ?_)
            · exact hS.out _ (below_al HBN.out _)
            clear hK K
            have hbn := below1 Wd (.cells #[.int .i64 d] 3)
            have HIs := Lib.hid (is_one Wd d)
            have HBx := Lib.hid (below_nx HBN.out hbn)
            clear HBN hbn
            have HBN := HBx
            clear HBx
            obtain ⟨bs, hbb⟩ : ∃ b, Wd.heap.size = b := ⟨_, rfl⟩
            rw [hbb] at HIs ⊢
            clear hbb
            generalize Wd.alloc (.cells #[.int .i64 d] 3) = XS at *
            refine wpAnyE_fork2 (i := 2) (j := 5) (by kernel_rfl) rfl rfl (fun K hK => ?_) (fun K hK => ?_)
            · skip
              go_simp
              go_at_call 40
              refine Calls.mono (HOF.out _ _ _ HIs.out) ?_
              rintro e w7 ⟨g1, rfl, hF1, hbn⟩
              have Hx := Lib.hid ((HIs.out.below hbn).mono hbn.size)
              clear HIs
              have HIs := Hx
              clear Hx
              have HA1 := Lib.hid (Acts.fresh hF1 (ok_of (by decide) _) (by decide : wcount 50 = 1))
              clear hF1
              have HBx : Hid (Below w6.heap.size w6 w7) := below_nx HBN.out hbn
              clear HBN hbn
              have HBN := HBx
              clear HBx
              refine hK.out _ _ ?_ (fun hHeld => ?_)
              · exact hS.out _ HBN.out
              clear hK K
              refine wpAnyE_fork2 (i := 4) (j := 5) (by kernel_rfl) rfl rfl (fun K hK => ?_) (fun K hK => ?_)
              · skip
                go_simp
                go_at_call 26
                refine Calls.mono (HLV.out _ _ _ _ _ HA1.out (HT0.out.on (HW.out.trans (HBN.out.mono HW.out.size))) 1 (by rw [(ok_of (by decide) _ : Ok 50 (ofW 50 [d])).len]; decide)) ?_
                rintro e w8 ⟨a14, cap14, rfl, hFV, hbn⟩
                have Hx := Lib.hid ((HIs.out.below hbn).mono hbn.size)
                clear HIs
                have HIs := Hx
                clear Hx
                have Hx := Lib.hid (HA1.out.below hbn)
                clear HA1
                have HA1 := Hx
                clear Hx
                have HFV := Lib.hid hFV
                clear hFV
                have HBx : Hid (Below w6.heap.size w6 w8) := below_nx HBN.out hbn
                clear HBN hbn
                have HBN := HBx
                clear HBx
                refine hK.out _ _ ?_ (fun hHeld => ?_)
                · exact hS.out _ HBN.out
                clear hK K
                refine wpAnyE_one (i := 5) (by kernel_rfl) rfl (fun K hK => ?_)
                go_simp
                refine hK.out _ _ ?_ (fun hHeld => ?_)
                · exact hS.out _ (below_al HBN.out _)
                clear hK K
                have HL : Hid (w6.heap.size ≤ w8.heap.size) := HBN.out.size
                have hbn := below1 w8 (.cells #[.int .i64 0, .slice none 0 0] 38)
                have HNE : Hid (lw = [] ∨ ∃ g, a14 = some ⟨g, 0, none⟩ ∧ g ≠ w8.heap.size) := HFV.out.imp (fun h => h) (fun ⟨g, e, hF⟩ => ⟨g, e, by have h1 := hF.lt; omega⟩)
                have Hx := Lib.hid ((HIs.out.below hbn).mono hbn.size)
                clear HIs
                have HIs := Hx
                clear Hx
                have Hx := Lib.hid (HA1.out.below hbn)
                clear HA1
                have HA1 := Hx
                clear Hx
                have Hx := Lib.hid (HFV.out.below hbn)
                clear HFV
                have HFV := Hx
                clear Hx
                have HX := Lib.hid (Box.new w8 (.int .i64 0) (.slice none 0 0) 38)
                have HBx := Lib.hid (below_nx HBN.out hbn)
                clear HBN hbn
                have HBN := HBx
                clear HBx
                obtain ⟨b, hbb⟩ : ∃ b, w8.heap.size = b := ⟨_, rfl⟩
                rw [hbb] at HL HX HNE ⊢
                clear hbb
                generalize w8.alloc (.cells #[.int .i64 0, .slice none 0 0] 38) = XA at *
                refine wpAnyE_tail 6 (by decide) rfl (by kernel_rfl) ?_
                simp only [List.drop_succ_cons, List.drop_zero]
                obtain ⟨p0, p1, f0, f1⟩ := HX.out
                go_wp2_with fail
                go_meet
                exact ⟨b, a14, cap14, rfl, HX.out.put _ _, FreshV.acts (HFV.out.putNe HNE.out _ _) HLO.out HLEN.out, below_put2 HBN.out HL.out _ _⟩
              · skip
                go_simp
                refine hK.out _ _ ?_ (fun hHeld => ?_)
                · exact hS.out _ (below_al HBN.out _)
                clear hK K
                have HL : Hid (w6.heap.size ≤ w7.heap.size) := HBN.out.size
                have hbn := below1 w7 (.cells #[.int .i64 0, .slice none 0 0] 38)
                have Hx := Lib.hid ((HIs.out.below hbn).mono hbn.size)
                clear HIs
                have HIs := Hx
                clear Hx
                have Hx := Lib.hid (HA1.out.below hbn)
                clear HA1
                have HA1 := Hx
                clear Hx
                have HX := Lib.hid (Box.new w7 (.int .i64 0) (.slice none 0 0) 38)
                have HBx := Lib.hid (below_nx HBN.out hbn)
                clear HBN hbn
                have HBN := HBx
                clear HBx
                obtain ⟨b, hbb⟩ : ∃ b, w7.heap.size = b := ⟨_, rfl⟩
                rw [hbb] at HL HX ⊢
                clear hbb
                generalize w7.alloc (.cells #[.int .i64 0, .slice none 0 0] 38) = XA at *
                refine wpAnyE_one (i := 4) (by kernel_rfl) rfl (fun K hK => ?_)
                go_simp
                go_at_call 26
                refine Calls.mono (HLV.out _ _ _ _ _ HA1.out (HT0.out.on (HW.out.trans (HBN.out.mono HW.out.size))) 1 (by rw [(ok_of (by decide) _ : Ok 50 (ofW 50 [d])).len]; decide)) ?_
                rintro e w8 ⟨a14, cap14, rfl, hFV, hbn⟩
                have HNE : Hid (lw = [] ∨ ∃ g, a14 = some ⟨g, 0, none⟩ ∧ g ≠ b) := hFV.imp (fun h => h) (fun ⟨g, e, hF⟩ => ⟨g, e, by have h1 := hF.1; have h2 := HX.out.lt; omega⟩)
                have Hx := Lib.hid ((HIs.out.below hbn).mono hbn.size)
                clear HIs
                have HIs := Hx
                clear Hx
                have Hx := Lib.hid (HA1.out.below hbn)
                clear HA1
                have HA1 := Hx
                clear Hx
                have Hx := Lib.hid (Box.nx HX.out hbn)
                clear HX
                have HX := Hx
                clear Hx
                have HFV := Lib.hid hFV
                clear hFV
                have HBx : Hid (Below w6.heap.size w6 w8) := below_nx HBN.out hbn
                clear HBN hbn
                have HBN := HBx
                clear HBx
                refine hK.out _ _ ?_ (fun hHeld => ?_)
                · exact hS.out _ HBN.out
                clear hK K
                refine wpAnyE_tail 6 (by decide) rfl (by kernel_rfl) ?_
                simp only [List.drop_succ_cons, List.drop_zero]
                obtain ⟨p0, p1, f0, f1⟩ := HX.out
                go_wp2_with fail
                go_meet
                exact ⟨b, a14, cap14, rfl, HX.out.put _ _, FreshV.acts (HFV.out.putNe HNE.out _ _) HLO.out HLEN.out, below_put2 HBN.out HL.out _ _⟩
            · skip
              go_simp
              refine hK.out _ _ ?_ (fun hHeld => ?_)
              · exact hS.out _ (below_al HBN.out _)
              clear hK K
              have HL : Hid (w6.heap.size ≤ XS.heap.size) := HBN.out.size
              have hbn := below1 XS (.cells #[.int .i64 0, .slice none 0 0] 38)
              have Hx := Lib.hid ((HIs.out.below hbn).mono hbn.size)
              clear HIs
              have HIs := Hx
              clear Hx
              have HX := Lib.hid (Box.new XS (.int .i64 0) (.slice none 0 0) 38)
              have HBx := Lib.hid (below_nx HBN.out hbn)
              clear HBN hbn
              have HBN := HBx
              clear HBx
              obtain ⟨b, hbb⟩ : ∃ b, XS.heap.size = b := ⟨_, rfl⟩
              rw [hbb] at HL HX ⊢
              clear hbb
              generalize XS.alloc (.cells #[.int .i64 0, .slice none 0 0] 38) = XA at *
              refine wpAnyE_one (i := 2) (by kernel_rfl) rfl (fun K hK => ?_)
              go_simp
              go_at_call 40
              refine Calls.mono (HOF.out _ _ _ HIs.out) ?_
              rintro e w7 ⟨g1, rfl, hF1, hbn⟩
              have Hx := Lib.hid ((HIs.out.below hbn).mono hbn.size)
              clear HIs
              have HIs := Hx
              clear Hx
              have Hx := Lib.hid (Box.nx HX.out hbn)
              clear HX
              have HX := Hx
              clear Hx
              have HA1 := Lib.hid (Acts.fresh hF1 (ok_of (by decide) _) (by decide : wcount 50 = 1))
              clear hF1
              have HBx : Hid (Below w6.heap.size w6 w7) := below_nx HBN.out hbn
              clear HBN hbn
              have HBN := HBx
              clear HBx
              refine hK.out _ _ ?_ (fun hHeld => ?_)
              · exact hS.out _ HBN.out
              clear hK K
              refine wpAnyE_one (i := 4) (by kernel_rfl) rfl (fun K hK => ?_)
              go_simp
              go_at_call 26
              refine Calls.mono (HLV.out _ _ _ _ _ HA1.out (HT0.out.on (HW.out.trans (HBN.out.mono HW.out.size))) 1 (by rw [(ok_of (by decide) _ : Ok 50 (ofW 50 [d])).len]; decide)) ?_
              rintro e w8 ⟨a14, cap14, rfl, hFV, hbn⟩
              have HNE : Hid (lw = [] ∨ ∃ g, a14 = some ⟨g, 0, none⟩ ∧ g ≠ b) := hFV.imp (fun h => h) (fun ⟨g, e, hF⟩ => ⟨g, e, by have h1 := hF.1; have h2 := HX.out.lt; omega⟩)
              have Hx := Lib.hid ((HIs.out.below hbn).mono hbn.size)
              clear HIs
              have HIs := Hx
              clear Hx
              have Hx := Lib.hid (HA1.out.below hbn)
              clear HA1
              have HA1 := Hx
              clear Hx
              have Hx := Lib.hid (Box.nx HX.out hbn)
              clear HX
              have HX := Hx
              clear Hx
              have HFV := Lib.hid hFV
              clear hFV
              have HBx : Hid (Below w6.heap.size w6 w8) := below_nx HBN.out hbn
              clear HBN hbn
              have HBN := HBx
              clear HBx
              refine hK.out _ _ ?_ (fun hHeld => ?_)
              · exact hS.out _ HBN.out
              clear hK K
              refine wpAnyE_tail 6 (by decide) rfl (by kernel_rfl) ?_
              simp only [List.drop_succ_cons, List.drop_zero]
              obtain ⟨p0, p1, f0, f1⟩ := HX.out
              go_wp2_with fail
              go_meet
              exact ⟨b, a14, cap14, rfl, HX.out.put _ _, FreshV.acts (HFV.out.putNe HNE.out _ _) HLO.out HLEN.out, below_put2 HBN.out HL.out _ _⟩
          · skip
            go_simp
            refine hK.out _ _ ?_ (fun hHeld => ?_)
            · exact hS.out _ (below_al HBN.out _)
            clear hK K
            have HL : Hid (w6.heap.size ≤ Wd.heap.size) := HBN.out.size
            have hbn := below1 Wd (.cells #[.int .i64 0, .slice none 0 0] 38)
            have HX := Lib.hid (Box.new Wd (.int .i64 0) (.slice none 0 0) 38)
            have HBx := Lib.hid (below_nx HBN.out hbn)
            clear HBN hbn
            have HBN := HBx
            clear HBx
            obtain ⟨b, hbb⟩ : ∃ b, Wd.heap.size = b := ⟨_, rfl⟩
            rw [hbb] at HL HX ⊢
            clear hbb
            generalize Wd.alloc (.cells #[.int .i64 0, .slice none 0 0] 38) = XA at *
            refine wpAnyE_one (i := 1) (by kernel_rfl) rfl (fun K hK => ?_)
            go_simp
            refine hK.out _ _ ?_ (fun hHeld => ?_)
            · exact hS.out _ (below_al HBN.out _)
            clear hK K
            have hbn := below1 XA (.cells #[.int .i64 d] 3)
            have Hx := Lib.hid (Box.nx HX.out hbn)
            clear HX
            have HX := Hx
            clear Hx
            have HIs := Lib.hid (is_one XA d)
            have HBx := Lib.hid (below_nx HBN.out hbn)
            clear HBN hbn
            have HBN := HBx
            clear HBx
            obtain ⟨bs, hbb⟩ : ∃ b, XA.heap.size = b := ⟨_, rfl⟩
            rw [hbb] at HIs ⊢
            clear hbb
            generalize XA.alloc (.cells #[.int .i64 d] 3) = XS at *
            refine wpAnyE_one (i := 2) (by kernel_rfl) rfl (fun K hK => ?_)
            go_simp
            go_at_call 40
            refine Calls.mono (HOF.out _ _ _ HIs.out) ?_
            rintro e w7 ⟨g1, rfl, hF1, hbn⟩
            have Hx := Lib.hid ((HIs.out.below hbn).mono hbn.size)
            clear HIs
            have HIs := Hx
            clear Hx
            have Hx := Lib.hid (Box.nx HX.out hbn)
            clear HX
            have HX := Hx
            clear Hx
            have HA1 := Lib.hid (Acts.fresh hF1 (ok_of (by decide) _) (by decide : wcount 50 = 1))
            clear hF1
            have HBx : Hid (Below w6.heap.size w6 w7) := below_nx HBN.out hbn
            clear HBN hbn
            have HBN := HBx
            clear HBx
            refine hK.out _ _ ?_ (fun hHeld => ?_)
            · exact hS.out _ HBN.out
            clear hK K
            refine wpAnyE_one (i := 4) (by kernel_rfl) rfl (fun K hK => ?_)
            go_simp
            go_at_call 26
            refine Calls.mono (HLV.out _ _ _ _ _ HA1.out (HT0.out.on (HW.out.trans (HBN.out.mono HW.out.size))) 1 (by rw [(ok_of (by decide) _ : Ok 50 (ofW 50 [d])).len]; decide)) ?_
            rintro e w8 ⟨a14, cap14, rfl, hFV, hbn⟩
            have HNE : Hid (lw = [] ∨ ∃ g, a14 = some ⟨g, 0, none⟩ ∧ g ≠ b) := hFV.imp (fun h => h) (fun ⟨g, e, hF⟩ => ⟨g, e, by have h1 := hF.1; have h2 := HX.out.lt; omega⟩)
            have Hx := Lib.hid ((HIs.out.below hbn).mono hbn.size)
            clear HIs
            have HIs := Hx
            clear Hx
            have Hx := Lib.hid (HA1.out.below hbn)
            clear HA1
            have HA1 := Hx
            clear Hx
            have Hx := Lib.hid (Box.nx HX.out hbn)
            clear HX
            have HX := Hx
            clear Hx
            have HFV := Lib.hid hFV
            clear hFV
            have HBx : Hid (Below w6.heap.size w6 w8) := below_nx HBN.out hbn
            clear HBN hbn
            have HBN := HBx
            clear HBx
            refine hK.out _ _ ?_ (fun hHeld => ?_)
            · exact hS.out _ HBN.out
            clear hK K
            refine wpAnyE_tail 6 (by decide) rfl (by kernel_rfl) ?_
            simp only [List.drop_succ_cons, List.drop_zero]
            obtain ⟨p0, p1, f0, f1⟩ := HX.out
            go_wp2_with fail
            go_meet
            exact ⟨b, a14, cap14, rfl, HX.out.put _ _, FreshV.acts (HFV.out.putNe HNE.out _ _) HLO.out HLEN.out, below_put2 HBN.out HL.out _ _⟩
        case rest =>
          obtain ⟨b14, a14, cap14, rfl, HB14, HA14, hbc⟩ := hcut
          have hbn := hbc.out
          have Hx := Lib.hid (HI.out.below hbn (HI.out.lt (Nat.zero_lt_succ _)))
          clear HI
          have HI := Hx
          clear Hx
          have Hx := Lib.hid (HW.out.trans (hbn.mono HW.out.size))
          clear HW
          have HW := Hx
          clear Hx
          clear hbn hbc HOF HLV HLO HLEN
          have HH := Lib.hid (fun (W : World) (hb : Below wc.heap.size wc W) (h0 : 0 ≤ d) (h1 : d < 50) => (by
            have h := Has_acts (HA14.out.below hb) d
            rw [HLH.out h0 h1] at h
            exact h : Calls Tryd.prog 41 #[.agg #[.int .i64 50, .slice a14 1 cap14], .int .i64 d] W fun e w' => e = .returned (.bool R) ∧ Below W.heap.size W w'))
          obtain ⟨lv, hlv⟩ : ∃ lv, vs.length = lv := ⟨_, rfl⟩
          rw [hlv] at HV HVL
          have hlv' : (lv : Int) ≤ (q : Int) + 1 := by have := HVL.out; omega
          have hRR : (R == R) = true := by simp
          obtain ⟨c14, d14, -, -⟩ := HB14.out
          clear hlv HLH
          have k0 := (HI.out 0 _ rfl).1
          have k1 := (HI.out 1 _ rfl).1
          have k2 := (HI.out 2 _ rfl).1
          have k3 := (HI.out 3 _ rfl).1
          have k4 := (HI.out 4 _ rfl).1
          have k5 := (HI.out 5 _ rfl).1
          have k6 := (HI.out 6 _ rfl).1
          have k7 := (HI.out 7 _ rfl).1
          have k8 := (HI.out 8 _ rfl).1
          have k9 := (HI.out 9 _ rfl).1
          have k10 := (HI.out 10 _ rfl).1
          by_cases hd0 : d < 0
          · cases fm with
            | false =>
              go_wp2_with (first | (go_at_call 17; refine (HV.out _ (HT0.out.on HW.out)).mono ?_; rintro e wv ⟨uv, rfl, hou, hbn⟩; obtain ⟨av, cv, rfl, -, -⟩ := is_of_ints hou; clear hou; have Hx := Lib.hid (HI.out.below hbn (HI.out.lt (Nat.zero_lt_succ _))); clear HI; have HI := Hx; clear Hx; have Hx := Lib.hid (HW.out.trans (hbn.mono HW.out.size)); clear HW; have HW := Hx; clear Hx; clear hbn; clear k0 k1 k2 k3 k4 k5 k6 k7 k8 k9 k10; have k0 := (HI.out 0 _ rfl).1; have k1 := (HI.out 1 _ rfl).1; have k2 := (HI.out 2 _ rfl).1; have k3 := (HI.out 3 _ rfl).1; have k4 := (HI.out 4 _ rfl).1; have k5 := (HI.out 5 _ rfl).1; have k6 := (HI.out 6 _ rfl).1; have k7 := (HI.out 7 _ rfl).1; have k8 := (HI.out 8 _ rfl).1; have k9 := (HI.out 9 _ rfl).1; have k10 := (HI.out 10 _ rfl).1) | (go_at_call 10; refine (HF.out _ (HT0.out.on HW.out)).mono ?_; rintro e wf ⟨rfl, hbn⟩; have Hx := Lib.hid (HI.out.below hbn (HI.out.lt (Nat.zero_lt_succ _))); clear HI; have HI := Hx; clear Hx; have Hx := Lib.hid (HW.out.trans (hbn.mono HW.out.size)); clear HW; have HW := Hx; clear Hx; clear hbn; clear k0 k1 k2 k3 k4 k5 k6 k7 k8 k9 k10; have k0 := (HI.out 0 _ rfl).1; have k1 := (HI.out 1 _ rfl).1; have k2 := (HI.out 2 _ rfl).1; have k3 := (HI.out 3 _ rfl).1; have k4 := (HI.out 4 _ rfl).1; have k5 := (HI.out 5 _ rfl).1; have k6 := (HI.out 6 _ rfl).1; have k7 := (HI.out 7 _ rfl).1; have k8 := (HI.out 8 _ rfl).1; have k9 := (HI.out 9 _ rfl).1; have k10 := (HI.out 10 _ rfl).1))
              go_ret
              first | exact ⟨rfl, HW.out⟩ | exact ⟨ret_bool (by rw [decide_eq_false (by omega)]; rfl), HW.out⟩
            | true =>
              rcases HDI.out.1 hd0 with h | h | h
              · cases h
              · subst h
                go_wp2_with (first | (go_at_call 17; refine (HV.out _ (HT0.out.on HW.out)).mono ?_; rintro e wv ⟨uv, rfl, hou, hbn⟩; obtain ⟨av, cv, rfl, -, -⟩ := is_of_ints hou; clear hou; have Hx := Lib.hid (HI.out.below hbn (HI.out.lt (Nat.zero_lt_succ _))); clear HI; have HI := Hx; clear Hx; have Hx := Lib.hid (HW.out.trans (hbn.mono HW.out.size)); clear HW; have HW := Hx; clear Hx; clear hbn; clear k0 k1 k2 k3 k4 k5 k6 k7 k8 k9 k10; have k0 := (HI.out 0 _ rfl).1; have k1 := (HI.out 1 _ rfl).1; have k2 := (HI.out 2 _ rfl).1; have k3 := (HI.out 3 _ rfl).1; have k4 := (HI.out 4 _ rfl).1; have k5 := (HI.out 5 _ rfl).1; have k6 := (HI.out 6 _ rfl).1; have k7 := (HI.out 7 _ rfl).1; have k8 := (HI.out 8 _ rfl).1; have k9 := (HI.out 9 _ rfl).1; have k10 := (HI.out 10 _ rfl).1) | (go_at_call 10; refine (HF.out _ (HT0.out.on HW.out)).mono ?_; rintro e wf ⟨rfl, hbn⟩; have Hx := Lib.hid (HI.out.below hbn (HI.out.lt (Nat.zero_lt_succ _))); clear HI; have HI := Hx; clear Hx; have Hx := Lib.hid (HW.out.trans (hbn.mono HW.out.size)); clear HW; have HW := Hx; clear Hx; clear hbn; clear k0 k1 k2 k3 k4 k5 k6 k7 k8 k9 k10; have k0 := (HI.out 0 _ rfl).1; have k1 := (HI.out 1 _ rfl).1; have k2 := (HI.out 2 _ rfl).1; have k3 := (HI.out 3 _ rfl).1; have k4 := (HI.out 4 _ rfl).1; have k5 := (HI.out 5 _ rfl).1; have k6 := (HI.out 6 _ rfl).1; have k7 := (HI.out 7 _ rfl).1; have k8 := (HI.out 8 _ rfl).1; have k9 := (HI.out 9 _ rfl).1; have k10 := (HI.out 10 _ rfl).1))
                go_ret
                first | exact ⟨rfl, HW.out⟩ | exact ⟨ret_bool (by rw [decide_eq_false (by omega)]; rfl), HW.out⟩
              · subst h
                go_wp2_with (first | (go_at_call 17; refine (HV.out _ (HT0.out.on HW.out)).mono ?_; rintro e wv ⟨uv, rfl, hou, hbn⟩; obtain ⟨av, cv, rfl, -, -⟩ := is_of_ints hou; clear hou; have Hx := Lib.hid (HI.out.below hbn (HI.out.lt (Nat.zero_lt_succ _))); clear HI; have HI := Hx; clear Hx; have Hx := Lib.hid (HW.out.trans (hbn.mono HW.out.size)); clear HW; have HW := Hx; clear Hx; clear hbn; clear k0 k1 k2 k3 k4 k5 k6 k7 k8 k9 k10; have k0 := (HI.out 0 _ rfl).1; have k1 := (HI.out 1 _ rfl).1; have k2 := (HI.out 2 _ rfl).1; have k3 := (HI.out 3 _ rfl).1; have k4 := (HI.out 4 _ rfl).1; have k5 := (HI.out 5 _ rfl).1; have k6 := (HI.out 6 _ rfl).1; have k7 := (HI.out 7 _ rfl).1; have k8 := (HI.out 8 _ rfl).1; have k9 := (HI.out 9 _ rfl).1; have k10 := (HI.out 10 _ rfl).1) | (go_at_call 10; refine (HF.out _ (HT0.out.on HW.out)).mono ?_; rintro e wf ⟨rfl, hbn⟩; have Hx := Lib.hid (HI.out.below hbn (HI.out.lt (Nat.zero_lt_succ _))); clear HI; have HI := Hx; clear Hx; have Hx := Lib.hid (HW.out.trans (hbn.mono HW.out.size)); clear HW; have HW := Hx; clear Hx; clear hbn; clear k0 k1 k2 k3 k4 k5 k6 k7 k8 k9 k10; have k0 := (HI.out 0 _ rfl).1; have k1 := (HI.out 1 _ rfl).1; have k2 := (HI.out 2 _ rfl).1; have k3 := (HI.out 3 _ rfl).1; have k4 := (HI.out 4 _ rfl).1; have k5 := (HI.out 5 _ rfl).1; have k6 := (HI.out 6 _ rfl).1; have k7 := (HI.out 7 _ rfl).1; have k8 := (HI.out 8 _ rfl).1; have k9 := (HI.out 9 _ rfl).1; have k10 := (HI.out 10 _ rfl).1))
                go_ret
                first | exact ⟨rfl, HW.out⟩ | exact ⟨ret_bool (by rw [decide_eq_false (by omega)]; rfl), HW.out⟩
          · have hd0' : 0 ≤ d := by omega
            have hnn : ¬ (fm = false ∨ kind = 8 ∨ kind = 9) := fun h => hd0 (HDI.out.2 h)
            have hfm : fm = true := by cases fm; exact absurd (.inl rfl) hnn; rfl
            have hk8 : (kind == 8) = false := by simp only [beq_eq_false_iff_ne, ne_eq]; exact fun h => hnn (.inr (.inl h))
            have hk9 : (kind == 9) = false := by simp only [beq_eq_false_iff_ne, ne_eq]; exact fun h => hnn (.inr (.inr h))
            subst hfm
            clear hnn HDI
            by_cases hd5 : d < 50
            · go_wp2_with (first | (go_at_call 41; refine (HH.out _ (Below.refl _ _) hd0' hd5).mono ?_; rintro e wh ⟨rfl, hbn⟩; clear c14 d14; have Hx := Lib.hid (HI.out.below hbn (HI.out.lt (Nat.zero_lt_succ _))); clear HI; have HI := Hx; clear Hx; have Hx := Lib.hid (HW.out.trans (hbn.mono HW.out.size)); clear HW; have HW := Hx; clear Hx; clear hbn; clear k0 k1 k2 k3 k4 k5 k6 k7 k8 k9 k10; have k0 := (HI.out 0 _ rfl).1; have k1 := (HI.out 1 _ rfl).1; have k2 := (HI.out 2 _ rfl).1; have k3 := (HI.out 3 _ rfl).1; have k4 := (HI.out 4 _ rfl).1; have k5 := (HI.out 5 _ rfl).1; have k6 := (HI.out 6 _ rfl).1; have k7 := (HI.out 7 _ rfl).1; have k8 := (HI.out 8 _ rfl).1; have k9 := (HI.out 9 _ rfl).1; have k10 := (HI.out 10 _ rfl).1) | (go_at_call 17; refine (HV.out _ (HT0.out.on HW.out)).mono ?_; rintro e wv ⟨uv, rfl, hou, hbn⟩; obtain ⟨av, cv, rfl, -, -⟩ := is_of_ints hou; clear hou; have Hx := Lib.hid (HI.out.below hbn (HI.out.lt (Nat.zero_lt_succ _))); clear HI; have HI := Hx; clear Hx; have Hx := Lib.hid (HW.out.trans (hbn.mono HW.out.size)); clear HW; have HW := Hx; clear Hx; clear hbn; clear k0 k1 k2 k3 k4 k5 k6 k7 k8 k9 k10; have k0 := (HI.out 0 _ rfl).1; have k1 := (HI.out 1 _ rfl).1; have k2 := (HI.out 2 _ rfl).1; have k3 := (HI.out 3 _ rfl).1; have k4 := (HI.out 4 _ rfl).1; have k5 := (HI.out 5 _ rfl).1; have k6 := (HI.out 6 _ rfl).1; have k7 := (HI.out 7 _ rfl).1; have k8 := (HI.out 8 _ rfl).1; have k9 := (HI.out 9 _ rfl).1; have k10 := (HI.out 10 _ rfl).1) | (go_at_call 10; refine (HF.out _ (HT0.out.on HW.out)).mono ?_; rintro e wf ⟨rfl, hbn⟩; have Hx := Lib.hid (HI.out.below hbn (HI.out.lt (Nat.zero_lt_succ _))); clear HI; have HI := Hx; clear Hx; have Hx := Lib.hid (HW.out.trans (hbn.mono HW.out.size)); clear HW; have HW := Hx; clear Hx; clear hbn; clear k0 k1 k2 k3 k4 k5 k6 k7 k8 k9 k10; have k0 := (HI.out 0 _ rfl).1; have k1 := (HI.out 1 _ rfl).1; have k2 := (HI.out 2 _ rfl).1; have k3 := (HI.out 3 _ rfl).1; have k4 := (HI.out 4 _ rfl).1; have k5 := (HI.out 5 _ rfl).1; have k6 := (HI.out 6 _ rfl).1; have k7 := (HI.out 7 _ rfl).1; have k8 := (HI.out 8 _ rfl).1; have k9 := (HI.out 9 _ rfl).1; have k10 := (HI.out 10 _ rfl).1))
              go_ret
              first | exact ⟨rfl, HW.out⟩ | exact ⟨ret_bool (by rw [decide_eq_false (by omega)]; rfl), HW.out⟩
            · have hd5' : 50 ≤ d := by omega
              go_wp2_with (first | (go_at_call 17; refine (HV.out _ (HT0.out.on HW.out)).mono ?_; rintro e wv ⟨uv, rfl, hou, hbn⟩; obtain ⟨av, cv, rfl, -, -⟩ := is_of_ints hou; clear hou; have Hx := Lib.hid (HI.out.below hbn (HI.out.lt (Nat.zero_lt_succ _))); clear HI; have HI := Hx; clear Hx; have Hx := Lib.hid (HW.out.trans (hbn.mono HW.out.size)); clear HW; have HW := Hx; clear Hx; clear hbn; clear k0 k1 k2 k3 k4 k5 k6 k7 k8 k9 k10; have k0 := (HI.out 0 _ rfl).1; have k1 := (HI.out 1 _ rfl).1; have k2 := (HI.out 2 _ rfl).1; have k3 := (HI.out 3 _ rfl).1; have k4 := (HI.out 4 _ rfl).1; have k5 := (HI.out 5 _ rfl).1; have k6 := (HI.out 6 _ rfl).1; have k7 := (HI.out 7 _ rfl).1; have k8 := (HI.out 8 _ rfl).1; have k9 := (HI.out 9 _ rfl).1; have k10 := (HI.out 10 _ rfl).1) | (go_at_call 10; refine (HF.out _ (HT0.out.on HW.out)).mono ?_; rintro e wf ⟨rfl, hbn⟩; have Hx := Lib.hid (HI.out.below hbn (HI.out.lt (Nat.zero_lt_succ _))); clear HI; have HI := Hx; clear Hx; have Hx := Lib.hid (HW.out.trans (hbn.mono HW.out.size)); clear HW; have HW := Hx; clear Hx; clear hbn; clear k0 k1 k2 k3 k4 k5 k6 k7 k8 k9 k10; have k0 := (HI.out 0 _ rfl).1; have k1 := (HI.out 1 _ rfl).1; have k2 := (HI.out 2 _ rfl).1; have k3 := (HI.out 3 _ rfl).1; have k4 := (HI.out 4 _ rfl).1; have k5 := (HI.out 5 _ rfl).1; have k6 := (HI.out 6 _ rfl).1; have k7 := (HI.out 7 _ rfl).1; have k8 := (HI.out 8 _ rfl).1; have k9 := (HI.out 9 _ rfl).1; have k10 := (HI.out 10 _ rfl).1))
              go_ret
              first | exact ⟨rfl, HW.out⟩ | exact ⟨ret_bool (by rw [decide_eq_false (by omega)]; rfl), HW.out⟩
end Go.Proofs.YtmcbedlmgffckaaDoor.Bi
