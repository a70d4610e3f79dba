import Derived.Test.YtcmncclibhjepaaEnvI
import Derived.Test.YtcmncclibhjepaaEnvO
namespace Go.Proofs.Ytcmncclibhjepaa
open Go Go.RowKit Go.Sort

set_option maxHeartbeats 2000000 in
theorem rval_any (v : V) (w : World) :
    Calls Try.prog 43 #[v.val] w fun e w' => e = .returned v.sn.val ∧ Below w.heap.size w w' := by
  have HC : Hid (∀ W, Calls Try.prog 49 #[v.val, .agg #[.int .i64 0, .int .i64 0]] W fun e w' => e = .returned v.sn.val ∧ Below W.heap.size W w') := fun W => by
    have := rJoin_any v vbot W
    rw [join_bot_right] at this
    exact this
  generalize v.sn = u at *
  obtain ⟨k, c⟩ := v
  obtain ⟨x, y⟩ := u
  unfold V.val at HC ⊢
  have BV := (Box.new w (.int .i64 k) (.int .i64 c) 26).alloc (.cells #[.int .i64 0, .int .i64 0] 26)
  have BR := Box.new (w.alloc (.cells #[.int .i64 k, .int .i64 c] 26)) (.int .i64 0) (.int .i64 0) 26
  have hW := below2 w (.cells #[.int .i64 k, .int .i64 c] 26) (.cells #[.int .i64 0, .int .i64 0] 26)
  rw [World.size_alloc] at BR
  generalize hE : (w.alloc (.cells #[.int .i64 k, .int .i64 c] 26)).alloc (.cells #[.int .i64 0, .int .i64 0] 26) = W at *
  have HW := Lib.hid hW
  obtain ⟨c0, c1, -, -⟩ := id BV
  clear hW
  go_enter Try.func43, Try.ntmps43
  go_wp2_with (go_at_call 49; refine (HC.out _).mono ?_; clear HC c0 c1; rintro e w1 ⟨rfl, hb⟩; obtain ⟨d2, d3, g2, g3⟩ := BR.below hb BR.lt; have HB := Lib.hid (HW.out.trans (hb.mono HW.out.size)); clear hb BV BR)
  have hb2 := below_put2 HB.out (b := w.heap.size + 1) (by omega) (.int .i64 x) (.int .i64 y)
  exact bodyPost_ret (v := .agg #[.int .i64 x, .int .i64 y]) (by simp [results, Try.results43, go_sem, d2, d3]) rfl ⟨rfl, hb2⟩

set_option maxHeartbeats 2000000 in
theorem rset_any (s : Int) (w : World) :
    Calls Try.prog 55 #[.int .i64 s] w fun e w' => e = .returned (.int .i64 (sS s : Nat)) ∧ Below w.heap.size w w' := by
  have HC : Hid (∀ W, Calls Try.prog 72 #[.int .i64 s, .int .i64 0] W fun e w' => e = .returned (.int .i64 (sS s : Nat)) ∧ Below W.heap.size W w') := fun W => by
    have := hJoin_any s 0 W
    rw [sS_zero, Nat.or_zero] at this
    exact this
  generalize sS s = u at *
  go_enter Try.func55, Try.ntmps55
  go_wp2_with (go_at_call 72; refine (HC.out _).mono ?_; clear HC; rintro e w1 ⟨rfl, hb⟩)
  go_ret
  exact ⟨rfl, hb⟩

set_option maxRecDepth 100000 in
set_option maxHeartbeats 4000000 in
theorem rGetF_any (on : Bool) (a : Option Addr) (n cap : Nat) (l : List V) (i : Int) (w : World) (h : FE w a n l) :
    Calls Try.prog 12 #[.agg #[.bool on, .slice a n cap], .int .i64 i] w fun e w' => e = .returned (atG vbot on l i).sn.val ∧ Below w.heap.size w w' := by
  obtain ⟨hF, hn⟩ := h
  have HF := Lib.hid hF
  have HN := Lib.hid hn
  have BE := (Box.new w (.bool on) (.slice a n cap) 24).alloc (.cells #[.int .i64 0, .int .i64 0] 26)
  have BR := Box.new (w.alloc (.cells #[.bool on, .slice a n cap] 24)) (.int .i64 0) (.int .i64 0) 26
  have hW := below2 w (.cells #[.bool on, .slice a n cap] 24) (.cells #[.int .i64 0, .int .i64 0] 26)
  rw [World.size_alloc] at BR
  generalize hE : (w.alloc (.cells #[.bool on, .slice a n cap] 24)).alloc (.cells #[.int .i64 0, .int .i64 0] 26) = W at *
  have HW := Lib.hid hW
  clear hW hF hn
  obtain ⟨c0, c1, -, -⟩ := id BE
  cases on with
  | false =>
    rw [atG_off]
    rw [sn_of vbot_sane]
    obtain ⟨d2, d3, g2, g3⟩ := id BR
    have hbz := Lib.hid (below_put2 HW.out (b := w.heap.size + 1) (by omega) (.int .i64 0) (.int .i64 0))
    go_enter Try.func12, Try.ntmps12
    go_wp2_with fail
    exact bodyPost_ret (v := vbot.val) (by simp [results, Try.results12, go_sem, d2, d3, V.val, vbot]) rfl ⟨rfl, hbz.out⟩
  | true =>
    by_cases h0 : i < 0
    · rw [atG_neg h0]
      rw [sn_of vbot_sane]
      obtain ⟨d2, d3, g2, g3⟩ := id BR
      have hbz := Lib.hid (below_put2 HW.out (b := w.heap.size + 1) (by omega) (.int .i64 0) (.int .i64 0))
      go_enter Try.func12, Try.ntmps12
      go_wp2_with fail
      exact bodyPost_ret (v := vbot.val) (by simp [results, Try.results12, go_sem, d2, d3, V.val, vbot]) rfl ⟨rfl, hbz.out⟩
    · by_cases h1 : (n : Int) ≤ i
      · rw [atG_ge (show (szG true l : Int) ≤ i by unfold szG; rw [if_pos rfl, HN.out]; exact h1)]
        rw [sn_of vbot_sane]
        have h0' : 0 ≤ i := by omega
        clear h0
        obtain ⟨d2, d3, g2, g3⟩ := id BR
        have hbz := Lib.hid (below_put2 HW.out (b := w.heap.size + 1) (by omega) (.int .i64 0) (.int .i64 0))
        go_enter Try.func12, Try.ntmps12
        go_wp2_with fail
        exact bodyPost_ret (v := vbot.val) (by simp [results, Try.results12, go_sem, d2, d3, V.val, vbot]) rfl ⟨rfl, hbz.out⟩
      · obtain ⟨k, rfl⟩ : ∃ k : Nat, i = (k : Int) := ⟨i.toNat, by omega⟩
        have hk : k < l.length := by rw [HN.out]; omega
        have hkn : k < n := by omega
        have hki : (k : Int) < (n : Int) := by omega
        rw [atG_in hk]
        obtain ⟨b, o, rfl, hlt, e0, e1⟩ := HF.out k hk
        have HC := Lib.hid (fun W => rval_any (l[k]?.getD vbot) W)
        have HT : Hid (∃ u, (l[k]?.getD vbot).sn = u) := ⟨_, rfl⟩
        obtain ⟨u, hu⟩ := HT.out
        rw [hu] at HC ⊢
        generalize l[k]?.getD vbot = v at *
        obtain ⟨x, y⟩ := v
        obtain ⟨x', y'⟩ := u
        unfold V.val at HC ⊢
        have x0 := (HW.out.cell (p := ⟨b, o + k * 2, none⟩) hlt).trans e0
        have x1 := (HW.out.cell (p := ⟨b, o + k * 2 + 1, none⟩) hlt).trans e1
        clear e0 e1 h0 h1 hk hu HT HF
        go_enter Try.func12, Try.ntmps12
        go_wp2_with (go_at_call 43; refine (HC.out _).mono ?_; clear HC c0 c1 x0 x1; rintro e w1 ⟨rfl, hb⟩; obtain ⟨d2, d3, g2, g3⟩ := BR.below hb BR.lt; have HB := Lib.hid (HW.out.trans (hb.mono HW.out.size)); clear hb BE BR)
        have hb2 := below_put2 HB.out (b := w.heap.size + 1) (by omega) (.int .i64 x') (.int .i64 y')
        exact bodyPost_ret (v := .agg #[.int .i64 x', .int .i64 y']) (by simp [results, Try.results12, go_sem, d2, d3]) rfl ⟨rfl, hb2⟩

set_option maxRecDepth 100000 in
set_option maxHeartbeats 4000000 in
theorem rGetS_any (on : Bool) (a : Option Addr) (n cap : Nat) (l : List Int) (i : Int) (w : World) (h : SE w a n l) :
    Calls Try.prog 27 #[.agg #[.bool on, .slice a n cap], .int .i64 i] w fun e w' => e = .returned (.int .i64 (sS (atG 0 on l i) : Nat)) ∧ Below w.heap.size w w' := by
  obtain ⟨hF, hn⟩ := h
  have HF := Lib.hid hF
  have HN := Lib.hid hn
  have BE := Box.new w (.bool on) (.slice a n cap) 48
  have hW := below1 w (.cells #[.bool on, .slice a n cap] 48)
  generalize hE : w.alloc (.cells #[.bool on, .slice a n cap] 48) = W at *
  have HW := Lib.hid hW
  clear hW hF hn
  obtain ⟨c0, c1, -, -⟩ := id BE
  cases on with
  | false =>
    rw [atG_off]
    rw [sS_zero]
    go_enter Try.func27, Try.ntmps27
    go_wp2_with fail
    go_ret
    exact ⟨rfl, HW.out⟩
  | true =>
    by_cases h0 : i < 0
    · rw [atG_neg h0]
      rw [sS_zero]
      go_enter Try.func27, Try.ntmps27
      go_wp2_with fail
      go_ret
      exact ⟨rfl, HW.out⟩
    · by_cases h1 : (n : Int) ≤ i
      · rw [atG_ge (show (szG true l : Int) ≤ i by unfold szG; rw [if_pos rfl, HN.out]; exact h1)]
        rw [sS_zero]
        have h0' : 0 ≤ i := by omega
        clear h0
        go_enter Try.func27, Try.ntmps27
        go_wp2_with fail
        go_ret
        exact ⟨rfl, HW.out⟩
      · obtain ⟨k, rfl⟩ : ∃ k : Nat, i = (k : Int) := ⟨i.toNat, by omega⟩
        have hk : k < l.length := by rw [HN.out]; omega
        have hkn : k < n := by omega
        have hki : (k : Int) < (n : Int) := by omega
        rw [atG_in hk]
        obtain ⟨b, o, rfl, hlt, e0⟩ := HF.out k hk
        have HC := Lib.hid (fun W => rset_any (l[k]?.getD 0) W)
        generalize sS (l[k]?.getD 0) = u at *
        generalize l[k]?.getD 0 = x at *
        have x0 := (HW.out.cell (p := ⟨b, o + k, none⟩) hlt).trans e0
        clear e0 h0 h1 hk HF
        go_enter Try.func27, Try.ntmps27
        go_wp2_with (go_at_call 55; refine (HC.out _).mono ?_; clear HC c0 c1 x0; rintro e w1 ⟨rfl, hb⟩; have HB := Lib.hid (HW.out.trans (hb.mono HW.out.size)); clear hb BE)
        go_ret
        exact ⟨rfl, HB.out⟩

end Go.Proofs.Ytcmncclibhjepaa