import Derived.Test.YtcmncclibhjepaaEnvB
namespace Go.Proofs.Ytcmncclibhjepaa
open Go Go.RowKit Go.Sort

set_option maxHeartbeats 4000000 in
theorem filledS_any (n v : Int) (w : World) :
    Calls Try.prog 62 #[.int .i64 n, .int .i64 v] w fun e w' => ∃ g, e = .returned (.agg #[.bool true, .slice (some ⟨g, 0, none⟩) (clG n 64) (clG n 64)]) ∧
      FreshS 3 w.heap.size w' g (tabG (fun _ => v) (clG n 64)) ∧ Below w.heap.size w w' := by
  have HC : Hid (∀ W, Calls Try.prog 52 #[.int .i64 n, .int .i64 64] W fun e w' => e = .returned (.int .i64 ((clG n 64 : Nat) : Int)) ∧ Below W.heap.size W w') := fun W => within_any n 64 W (by decide)
  have hk := clG_le n 64
  generalize clG n 64 = k at *
  have hm := fun W => mk_runS k (by omega) W
  have BR := Box.new w (.bool false) (.slice none 0 0) 49
  have hW := below1 w (.cells #[.bool false, .slice none 0 0] 49)
  have hsz : (w.alloc (.cells #[.bool false, .slice none 0 0] 49)).heap.size = w.heap.size + 1 := by simp
  generalize hE : w.alloc (.cells #[.bool false, .slice none 0 0] 49) = W at *
  have HW := Lib.hid hW
  have HZ := Lib.hid hsz
  clear hW hsz
  go_enter Try.func62, Try.ntmps62
  go_wp2_with (go_at_call 52; refine (HC.out _).mono ?_; clear HC; rintro e w1 ⟨rfl, hb⟩; have BR1 := Lib.hid ((BR.below hb BR.lt).alloc (.cells (zerosS k) 3)); have HB := Lib.hid ((HW.out.trans (hb.mono HW.out.size)).alloc (HW.out.trans (hb.mono HW.out.size)).size (.cells (zerosS k) 3)); have HF := Lib.hid (freshS_zeros w.heap.size w1 k 3 (HW.out.trans (hb.mono HW.out.size)).size); have HS := Lib.hid hb.size; clear hb BR)
  have hne : w.heap.size < w1.heap.size := by have := HS.out; have := HZ.out; omega
  generalize w1.alloc (.cells (zerosS k) 3) = W1 at *
  generalize w1.heap.size = g at *
  clear hm hE HW HZ HS
  go_loopw [12] (fun i wr => ∃ j : Nat, j ≤ k ∧ i = .int .i64 j ∧ Hid (FreshS 3 w.heap.size wr g (midG (fun _ => v) 0 k j)) ∧ Hid (Box wr w.heap.size (.bool false) (.slice none 0 0)) ∧ Hid (Below w.heap.size w wr)) (fun i _ => k - (intOf i).toNat)
  case atStart => exact ⟨0, Nat.zero_le _, rfl, by rw [midG_zero]; exact HF, BR1, HB⟩
  case round =>
    clear HF BR1 HB
    obtain ⟨j, hj, rfl, hF, hR, hB⟩ := hrel
    by_cases hlt : j < k
    · have hl : j < (midG (fun _ => v) 0 k j).length := by rw [midG_length _ _ hj]; exact hlt
      have e0 := hF.out.cellAt hl
      have f0 := hF.out.frozenAt j
      have hji : (j : Int) < (k : Int) := by omega
      clear hl
      go_wp2_with fail
      go_roundw
      case rel =>
        refine ⟨j + 1, by omega, by go_num, ?_, ?_, ?_⟩
        · have := hF.out.set j v
          rw [midG_set (fun _ => v) 0 hlt] at this
          exact this
        · exact hR.out.far1 (by omega)
        · exact hB.out.setCell (p := ⟨g, j, none⟩) (by show w.heap.size ≤ g; omega) _
      case measure => simp [intOf]; omega
    · obtain rfl : j = k := by omega
      rw [midG_full] at hF
      obtain ⟨c0, c1, f0, f1⟩ := id hR.out
      go_wp2_with fail
      have hb2 := below_put2 hB.out (b := w.heap.size) (by omega) (.bool true) (.slice (some ⟨g, 0, none⟩) j j)
      exact bodyPost_ret (v := .agg #[.bool true, .slice (some ⟨g, 0, none⟩) j j]) (by simp [results, Try.results62, go_sem, c0, c1]) rfl ⟨g, rfl, hF.out.block (heap_put2 _ _ _ _ _ (by omega)), hb2⟩

set_option maxHeartbeats 2000000 in
theorem Flats_any (n : Int) (v : V) (w : World) :
    Calls Try.prog 21 #[.int .i64 n, v.val] w fun e w' => ∃ g, e = .returned (.agg #[.bool true, .slice (some ⟨g, 0, none⟩) (clG n 64) (clG n 64)]) ∧
      FreshF 32 w.heap.size w' g (tabG (fun _ => v.sn) (clG n 64)) ∧ Below w.heap.size w w' := by
  have HT := Lib.hid (fun W => etop_any v W)
  have HC := Lib.hid (fun W => filledF_any n v.sn W)
  generalize clG n 64 = k at *
  generalize v.sn = u at *
  obtain ⟨x, y⟩ := v
  obtain ⟨p, q⟩ := u
  unfold V.val at HT HC ⊢
  have BV := (Box.new w (.int .i64 x) (.int .i64 y) 32).alloc (.cells #[.bool false, .slice none 0 0] 30)
  have BR := Box.new (w.alloc (.cells #[.int .i64 x, .int .i64 y] 32)) (.bool false) (.slice none 0 0) 30
  have hW := below2 w (.cells #[.int .i64 x, .int .i64 y] 32) (.cells #[.bool false, .slice none 0 0] 30)
  rw [World.size_alloc] at BR
  have hsz : ((w.alloc (.cells #[.int .i64 x, .int .i64 y] 32)).alloc (.cells #[.bool false, .slice none 0 0] 30)).heap.size = w.heap.size + 2 := by simp
  generalize hE : (w.alloc (.cells #[.int .i64 x, .int .i64 y] 32)).alloc (.cells #[.bool false, .slice none 0 0] 30) = W at *
  have HW := Lib.hid hW
  have HZ := Lib.hid hsz
  obtain ⟨c0, c1, -, -⟩ := id BV
  clear hW hsz
  go_enter Try.func21, Try.ntmps21
  go_wp2_with (first
    | (go_at_call 41; refine (HT.out _).mono ?_; clear HT c0 c1; rintro e w1 ⟨rfl, hb⟩; have BR1 := BR.below hb BR.lt; have HB := Lib.hid (HW.out.trans (hb.mono HW.out.size)); have HS := Lib.hid hb.size; clear hb BV BR)
    | (go_at_call 51; refine (HC.out _).mono ?_; clear HC; rintro e w2 ⟨g, rfl, hF, hb⟩; obtain ⟨d2, d3, g2, g3⟩ := BR1.below hb BR1.lt; have HX := Lib.hid (HB.out.trans (hb.mono HB.out.size)); have HF := Lib.hid hF; clear hb BR1 hF))
  have hb2 := below_put2 HX.out (b := w.heap.size + 1) (by omega) (.bool true) (.slice (some ⟨g, 0, none⟩) k k)
  have h1 := HF.out.1
  have h2 := HS.out
  have h3 := HZ.out
  exact bodyPost_ret (v := .agg #[.bool true, .slice (some ⟨g, 0, none⟩) k k]) (by simp [results, Try.results21, go_sem, d2, d3]) rfl ⟨g, rfl, (HF.out.base HB.out.size).block (heap_put2 _ _ _ _ _ (by omega)), hb2⟩

set_option maxHeartbeats 2000000 in
theorem Signs_any (n v : Int) (w : World) :
    Calls Try.prog 36 #[.int .i64 n, .int .i64 v] w fun e w' => ∃ g, e = .returned (.agg #[.bool true, .slice (some ⟨g, 0, none⟩) (clG n 64) (clG n 64)]) ∧
      FreshS 3 w.heap.size w' g (tabG (fun _ => ((sS v : Nat) : Int)) (clG n 64)) ∧ Below w.heap.size w w' := by
  have HT := Lib.hid (fun W => eall_any v W)
  have HC := Lib.hid (fun W => filledS_any n (sS v : Nat) W)
  generalize clG n 64 = k at *
  generalize sS v = u at *
  have BR := Box.new w (.bool false) (.slice none 0 0) 49
  have hW := below1 w (.cells #[.bool false, .slice none 0 0] 49)
  have hsz : (w.alloc (.cells #[.bool false, .slice none 0 0] 49)).heap.size = w.heap.size + 1 := by simp
  generalize hE : w.alloc (.cells #[.bool false, .slice none 0 0] 49) = W at *
  have HW := Lib.hid hW
  have HZ := Lib.hid hsz
  clear hW hsz
  go_enter Try.func36, Try.ntmps36
  go_wp2_with (first
    | (go_at_call 53; refine (HT.out _).mono ?_; clear HT; rintro e w1 ⟨rfl, hb⟩; have BR1 := BR.below hb BR.lt; have HB := Lib.hid (HW.out.trans (hb.mono HW.out.size)); have HS := Lib.hid hb.size; clear hb BR)
    | (go_at_call 62; refine (HC.out _).mono ?_; clear HC; rintro e w2 ⟨g, rfl, hF, hb⟩; obtain ⟨d2, d3, g2, g3⟩ := BR1.below hb BR1.lt; have HX := Lib.hid (HB.out.trans (hb.mono HB.out.size)); have HF := Lib.hid hF; clear hb BR1 hF))
  have hb2 := below_put2 HX.out (b := w.heap.size) (by omega) (.bool true) (.slice (some ⟨g, 0, none⟩) k k)
  have h1 := HF.out.1
  have h2 := HS.out
  have h3 := HZ.out
  exact bodyPost_ret (v := .agg #[.bool true, .slice (some ⟨g, 0, none⟩) k k]) (by simp [results, Try.results36, go_sem, d2, d3]) rfl ⟨g, rfl, (HF.out.base HB.out.size).block (heap_put2 _ _ _ _ _ (by omega)), hb2⟩

set_option maxRecDepth 100000 in
set_option maxHeartbeats 4000000 in
theorem belowF_any (on1 : Bool) (a1 : Option Addr) (l1 : List V) (cap1 : Nat) (on2 : Bool) (a2 : Option Addr) (l2 : List V) (cap2 : Nat) (w : World) (h1 : FIs w.heap.size w a1 l1) (h2 : FIs w.heap.size w a2 l2) (hl : l1.length ≤ 200) :
    Calls Try.prog 44 #[.agg #[.bool on1, .slice a1 l1.length cap1], .agg #[.bool on2, .slice a2 l2.length cap2], .func (.func 45) #[] #[]] w fun e w' =>
      e = .returned (.bool (leqG vbot leq on1 l1 on2 l2)) ∧ Below w.heap.size w w' := by
  have H1 := Lib.hid (fun W (h : Below w.heap.size w W) (j : Nat) => fat_any on1 a1 l1 cap1 (j : Int) W ((h1.below h).mono h.size))
  have H2 := Lib.hid (fun W (h : Below w.heap.size w W) (j : Nat) => fat_any on2 a2 l2 cap2 (j : Int) W ((h2.below h).mono h.size))
  have HS := Lib.hid (fun W => fsize_any on1 a1 l1.length cap1 W)
  have HL := Lib.hid (fun (j : Nat) W => Leq_any (atG vbot on1 l1 (j : Int)) (atG vbot on2 l2 (j : Int)) W)
  unfold leqG
  obtain ⟨q, hq⟩ : ∃ q : Nat → Bool, (fun (k : Nat) => leq (atG vbot on1 l1 (k : Int)) (atG vbot on2 l2 (k : Int))) = q := ⟨_, rfl⟩
  have HQ : ∀ j : Nat, leq (atG vbot on1 l1 (j : Int)) (atG vbot on2 l2 (j : Int)) = q j := fun j => by rw [← hq]
  rw [hq]
  have hszl : szG on1 l1 ≤ 200 := by unfold szG; split <;> omega
  have HSZ : (if on1 then l1.length else 0) = szG on1 l1 := rfl
  rw [HSZ] at HS
  generalize szG on1 l1 = m at *
  have HL' : Hid (∀ (j : Nat) W, Calls Try.prog 45 #[(atG vbot on1 l1 (j : Int)).val, (atG vbot on2 l2 (j : Int)).val] W fun e w' => e = .returned (.bool (q j)) ∧ Below W.heap.size W w') := fun j W => by
    have := HL.out j W
    rw [← HQ j]; exact this
  clear HL HQ hq h1 h2 hl HSZ
  generalize l1.length = n1 at *
  generalize l2.length = n2 at *
  have BA := (Box.new w (.bool on1) (.slice a1 n1 cap1) 30).alloc (.cells #[.bool on2, .slice a2 n2 cap2] 30)
  have BB := Box.new (w.alloc (.cells #[.bool on1, .slice a1 n1 cap1] 30)) (.bool on2) (.slice a2 n2 cap2) 30
  have hW := below2 w (.cells #[.bool on1, .slice a1 n1 cap1] 30) (.cells #[.bool on2, .slice a2 n2 cap2] 30)
  rw [World.size_alloc] at BB
  generalize hE : (w.alloc (.cells #[.bool on1, .slice a1 n1 cap1] 30)).alloc (.cells #[.bool on2, .slice a2 n2 cap2] 30) = W at *
  have HW := Lib.hid hW
  clear hW
  obtain ⟨c0, c1, -, -⟩ := id BA
  obtain ⟨d0, d1, -, -⟩ := id BB
  by_cases hon : on1 = true ∧ on2 = false
  · obtain ⟨rfl, rfl⟩ := hon
    go_enter Try.func44, Try.ntmps44
    go_wp2_with fail
    go_ret
    exact ⟨rfl, HW.out⟩
  · have hcond : (!on1 || on2) = true := by cases on1 <;> cases on2 <;> simp_all
    rw [hcond, Bool.true_and]
    have HA := Lib.hid BA
    have HB := Lib.hid BB
    clear BA BB
    go_enter Try.func44, Try.ntmps44
    have hcut : True := trivial
    cases on1 <;> cases on2 <;> (try (exact absurd ⟨rfl, rfl⟩ hon))
    all_goals
      clear hon hcond hcut
      go_wp2_with (go_at_call 68; refine (HS.out _).mono ?_; clear HS c0 c1 d0 d1; rintro e w1 ⟨rfl, hb⟩; have HA1 := Lib.hid (HA.out.below hb HA.out.lt); have HB1 := Lib.hid (HB.out.below hb HB.out.lt); have HBN := Lib.hid (HW.out.trans (hb.mono HW.out.size)); clear hb HA HB HW hE)
      go_loopw [17] (fun i wr => ∃ j : Nat, j ≤ m ∧ i = .int .i64 j ∧ Hid (allG q j = true) ∧ Hid (Box wr w.heap.size _ (.slice a1 n1 cap1)) ∧ Hid (Box wr (w.heap.size + 1) _ (.slice a2 n2 cap2)) ∧ Hid (Below w.heap.size w wr)) (fun i _ => m - (intOf i).toNat)
      case atStart => exact ⟨0, Nat.zero_le _, rfl, Lib.hid rfl, HA1, HB1, HBN⟩
      case round =>
        clear HA1 HB1 HBN
        obtain ⟨j, hj, rfl, hall, hA, hB, hBw⟩ := hrel
        by_cases hlt : j < m
        · have hji : (j : Int) < (m : Int) := by omega
          obtain ⟨r, hr⟩ : ∃ r, q j = r := ⟨_, rfl⟩
          have q1 := fun d os => Calls.regrown_of (H1.out (grow (redrawn wr d) os) (hBw.out.trans ((below_regrown wr d os).mono hBw.out.size)) j)
          have q2 := fun d os => Calls.regrown_of (H2.out (grow (redrawn wr d) os) (hBw.out.trans ((below_regrown wr d os).mono hBw.out.size)) j)
          have q3 := fun d os => Calls.regrown_of (HL'.out j (grow (redrawn wr d) os))
          rw [hr] at q3
          have HR := Lib.hid hr
          have kA0 := cell_regrown hA.out.c0
          have kA1 := cell_regrown hA.out.c1
          have kB0 := cell_regrown hB.out.c0
          have kB1 := cell_regrown hB.out.c1
          generalize atG vbot _ l1 (j : Int) = v1 at *
          generalize atG vbot _ l2 (j : Int) = v2 at *
          clear hr H1 H2 HL'
          cases r
          all_goals
            go_wp2_with fail
            refine wp_region_quiet_below (by kernel_rfl) (by kernel_rfl) ?_
            repeat (first | go_big_quiet_step (first | with_reducible exact q1 _ _ | with_reducible exact q2 _ _ | with_reducible exact q3 _ _) | quiet_step (first | with_reducible exact q1 _ _ | with_reducible exact q2 _ _ | with_reducible exact q3 _ _))
            refine wpQuiet_nil ?_
            intro _ hw'
            obtain ⟨⟨dq, osq⟩, hw''⟩ := hw'
            subst hw''
            have hb := Lib.hid (below_regrown wr dq osq)
            clear q1 q2 q3 kA0 kA1 kB0 kB1
            generalize grow (redrawn wr dq) osq = wq at *
            go_wp2_with fail
          · go_ret
            refine ⟨ret_bool ?_, hBw.out.trans (hb.out.mono hBw.out.size)⟩
            exact (allG_false hlt HR.out).symm
          · go_roundw
            case rel =>
              refine ⟨j + 1, by omega, by go_num, ?_, Lib.hid (hA.out.below hb.out hA.out.lt), Lib.hid (hB.out.below hb.out hB.out.lt), Lib.hid (hBw.out.trans (hb.out.mono hBw.out.size))⟩
              show allG q (j + 1) = true
              rw [allG_succ, hall.out, HR.out]; rfl
            case measure => simp [intOf]; omega
        · obtain rfl : j = m := by omega
          go_wp2_with fail
          go_ret
          exact ⟨ret_bool hall.out.symm, hBw.out⟩

set_option maxRecDepth 100000 in
set_option maxHeartbeats 4000000 in
theorem belowS_any (on1 : Bool) (a1 : Option Addr) (l1 : List Int) (cap1 : Nat) (on2 : Bool) (a2 : Option Addr) (l2 : List Int) (cap2 : Nat) (w : World) (h1 : Is w.heap.size w a1 l1) (h2 : Is w.heap.size w a2 l2) (hl : l1.length ≤ 200) :
    Calls Try.prog 56 #[.agg #[.bool on1, .slice a1 l1.length cap1], .agg #[.bool on2, .slice a2 l2.length cap2], .func (.func 57) #[] #[]] w fun e w' =>
      e = .returned (.bool (leqG 0 (fun x y => leqN (sS x) (sS y)) on1 l1 on2 l2)) ∧ Below w.heap.size w w' := by
  have H1 := Lib.hid (fun W (h : Below w.heap.size w W) (j : Nat) => sat_any on1 a1 l1 cap1 (j : Int) W ((h1.below h).mono h.size))
  have H2 := Lib.hid (fun W (h : Below w.heap.size w W) (j : Nat) => sat_any on2 a2 l2 cap2 (j : Int) W ((h2.below h).mono h.size))
  have HS := Lib.hid (fun W => ssize_any on1 a1 l1.length cap1 W)
  have HL := Lib.hid (fun (j : Nat) W => gLeq_any (atG 0 on1 l1 (j : Int)) (atG 0 on2 l2 (j : Int)) W)
  unfold leqG
  obtain ⟨q, hq⟩ : ∃ q : Nat → Bool, (fun (k : Nat) => (fun x y => leqN (sS x) (sS y)) (atG 0 on1 l1 (k : Int)) (atG 0 on2 l2 (k : Int))) = q := ⟨_, rfl⟩
  have HQ : ∀ j : Nat, (fun x y => leqN (sS x) (sS y)) (atG 0 on1 l1 (j : Int)) (atG 0 on2 l2 (j : Int)) = q j := fun j => by rw [← hq]
  rw [hq]
  have hszl : szG on1 l1 ≤ 200 := by unfold szG; split <;> omega
  have HSZ : (if on1 then l1.length else 0) = szG on1 l1 := rfl
  rw [HSZ] at HS
  generalize szG on1 l1 = m at *
  simp only [] at HQ
  have HL' : Hid (∀ (j : Nat) W, Calls Try.prog 57 #[(.int .i64 (atG 0 on1 l1 (j : Int))), (.int .i64 (atG 0 on2 l2 (j : Int)))] W fun e w' => e = .returned (.bool (q j)) ∧ Below W.heap.size W w') := fun j W => by
    have := HL.out j W
    rw [← HQ j]; exact this
  clear HL HQ hq h1 h2 hl HSZ
  generalize l1.length = n1 at *
  generalize l2.length = n2 at *
  have BA := (Box.new w (.bool on1) (.slice a1 n1 cap1) 49).alloc (.cells #[.bool on2, .slice a2 n2 cap2] 49)
  have BB := Box.new (w.alloc (.cells #[.bool on1, .slice a1 n1 cap1] 49)) (.bool on2) (.slice a2 n2 cap2) 49
  have hW := below2 w (.cells #[.bool on1, .slice a1 n1 cap1] 49) (.cells #[.bool on2, .slice a2 n2 cap2] 49)
  rw [World.size_alloc] at BB
  generalize hE : (w.alloc (.cells #[.bool on1, .slice a1 n1 cap1] 49)).alloc (.cells #[.bool on2, .slice a2 n2 cap2] 49) = W at *
  have HW := Lib.hid hW
  clear hW
  obtain ⟨c0, c1, -, -⟩ := id BA
  obtain ⟨d0, d1, -, -⟩ := id BB
  by_cases hon : on1 = true ∧ on2 = false
  · obtain ⟨rfl, rfl⟩ := hon
    go_enter Try.func56, Try.ntmps56
    go_wp2_with fail
    go_ret
    exact ⟨rfl, HW.out⟩
  · have hcond : (!on1 || on2) = true := by cases on1 <;> cases on2 <;> simp_all
    rw [hcond, Bool.true_and]
    have HA := Lib.hid BA
    have HB := Lib.hid BB
    clear BA BB
    go_enter Try.func56, Try.ntmps56
    have hcut : True := trivial
    cases on1 <;> cases on2 <;> (try (exact absurd ⟨rfl, rfl⟩ hon))
    all_goals
      clear hon hcond hcut
      go_wp2_with (go_at_call 71; refine (HS.out _).mono ?_; clear HS c0 c1 d0 d1; rintro e w1 ⟨rfl, hb⟩; have HA1 := Lib.hid (HA.out.below hb HA.out.lt); have HB1 := Lib.hid (HB.out.below hb HB.out.lt); have HBN := Lib.hid (HW.out.trans (hb.mono HW.out.size)); clear hb HA HB HW hE)
      go_loopw [17] (fun i wr => ∃ j : Nat, j ≤ m ∧ i = .int .i64 j ∧ Hid (allG q j = true) ∧ Hid (Box wr w.heap.size _ (.slice a1 n1 cap1)) ∧ Hid (Box wr (w.heap.size + 1) _ (.slice a2 n2 cap2)) ∧ Hid (Below w.heap.size w wr)) (fun i _ => m - (intOf i).toNat)
      case atStart => exact ⟨0, Nat.zero_le _, rfl, Lib.hid rfl, HA1, HB1, HBN⟩
      case round =>
        clear HA1 HB1 HBN
        obtain ⟨j, hj, rfl, hall, hA, hB, hBw⟩ := hrel
        by_cases hlt : j < m
        · have hji : (j : Int) < (m : Int) := by omega
          obtain ⟨r, hr⟩ : ∃ r, q j = r := ⟨_, rfl⟩
          have q1 := fun d os => Calls.regrown_of (H1.out (grow (redrawn wr d) os) (hBw.out.trans ((below_regrown wr d os).mono hBw.out.size)) j)
          have q2 := fun d os => Calls.regrown_of (H2.out (grow (redrawn wr d) os) (hBw.out.trans ((below_regrown wr d os).mono hBw.out.size)) j)
          have q3 := fun d os => Calls.regrown_of (HL'.out j (grow (redrawn wr d) os))
          rw [hr] at q3
          have HR := Lib.hid hr
          have kA0 := cell_regrown hA.out.c0
          have kA1 := cell_regrown hA.out.c1
          have kB0 := cell_regrown hB.out.c0
          have kB1 := cell_regrown hB.out.c1
          generalize atG 0 _ l1 (j : Int) = v1 at *
          generalize atG 0 _ l2 (j : Int) = v2 at *
          clear hr H1 H2 HL'
          cases r
          all_goals
            go_wp2_with fail
            refine wp_region_quiet_below (by kernel_rfl) (by kernel_rfl) ?_
            repeat (first | go_big_quiet_step (first | with_reducible exact q1 _ _ | with_reducible exact q2 _ _ | with_reducible exact q3 _ _) | quiet_step (first | with_reducible exact q1 _ _ | with_reducible exact q2 _ _ | with_reducible exact q3 _ _))
            refine wpQuiet_nil ?_
            intro _ hw'
            obtain ⟨⟨dq, osq⟩, hw''⟩ := hw'
            subst hw''
            have hb := Lib.hid (below_regrown wr dq osq)
            clear q1 q2 q3 kA0 kA1 kB0 kB1
            generalize grow (redrawn wr dq) osq = wq at *
            go_wp2_with fail
          · go_ret
            refine ⟨ret_bool ?_, hBw.out.trans (hb.out.mono hBw.out.size)⟩
            exact (allG_false hlt HR.out).symm
          · go_roundw
            case rel =>
              refine ⟨j + 1, by omega, by go_num, ?_, Lib.hid (hA.out.below hb.out hA.out.lt), Lib.hid (hB.out.below hb.out hB.out.lt), Lib.hid (hBw.out.trans (hb.out.mono hBw.out.size))⟩
              show allG q (j + 1) = true
              rw [allG_succ, hall.out, HR.out]; rfl
            case measure => simp [intOf]; omega
        · obtain rfl : j = m := by omega
          go_wp2_with fail
          go_ret
          exact ⟨ret_bool hall.out.symm, hBw.out⟩

end Go.Proofs.Ytcmncclibhjepaa