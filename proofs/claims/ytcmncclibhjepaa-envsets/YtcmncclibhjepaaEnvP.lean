import Derived.Test.YtcmncclibhjepaaEnvF
namespace Go.Proofs.Ytcmncclibhjepaa
open Go Go.RowKit Go.Sort

set_option maxHeartbeats 2000000 in
theorem SetF_off (a1 : Option Addr) (n1 cap1 : Nat) (i : Int) (x y : Int) (w : World) :
    Calls Try.prog 19 #[.agg #[.bool false, .slice a1 n1 cap1], .int .i64 i, .agg #[.int .i64 x, .int .i64 y]] w fun e w' => e = .returned (.agg #[.bool false, .slice none 0 0]) ∧ Below w.heap.size w w' := by
  have HC := Lib.hid (fun W => changedF_off a1 n1 cap1 i x y W)
  have BR := Box.new ((w.alloc (.cells #[.bool false, .slice a1 n1 cap1] 30)).alloc (.cells #[.int .i64 x, .int .i64 y] 32)) (.bool false) (.slice none 0 0) 30
  have HW := Lib.hid (below3 w (.cells #[.bool false, .slice a1 n1 cap1] 30) (.cells #[.int .i64 x, .int .i64 y] 32) (.cells #[.bool false, .slice none 0 0] 30))
  simp only [World.size_alloc] at BR
  go_enter Try.func19, Try.ntmps19
  go_wp2_with (go_at_call 50; refine (HC.out _).mono ?_; clear HC; rintro e w1 ⟨rfl, hb⟩; obtain ⟨d2, d3, g2, g3⟩ := BR.below hb BR.lt; have HX := Lib.hid (HW.out.trans (hb.mono HW.out.size)); clear hb BR)
  have hb2 := below_put2 HX.out (b := w.heap.size + 1 + 1) (by omega) (.bool false) (.slice none 0 0)
  exact bodyPost_ret (v := .agg #[.bool false, .slice none 0 0]) (by simp [results, Try.results19, go_sem, d2, d3]) rfl ⟨rfl, hb2⟩

set_option maxHeartbeats 2000000 in
theorem SetS_off (a1 : Option Addr) (n1 cap1 : Nat) (i : Int) (v : Int) (w : World) :
    Calls Try.prog 34 #[.agg #[.bool false, .slice a1 n1 cap1], .int .i64 i, .int .i64 v] w fun e w' => e = .returned (.agg #[.bool false, .slice none 0 0]) ∧ Below w.heap.size w w' := by
  have HC := Lib.hid (fun W => changedS_off a1 n1 cap1 i v W)
  have BR := Box.new (w.alloc (.cells #[.bool false, .slice a1 n1 cap1] 49)) (.bool false) (.slice none 0 0) 49
  have HW := Lib.hid (below2 w (.cells #[.bool false, .slice a1 n1 cap1] 49) (.cells #[.bool false, .slice none 0 0] 49))
  simp only [World.size_alloc] at BR
  go_enter Try.func34, Try.ntmps34
  go_wp2_with (go_at_call 61; refine (HC.out _).mono ?_; clear HC; rintro e w1 ⟨rfl, hb⟩; obtain ⟨d2, d3, g2, g3⟩ := BR.below hb BR.lt; have HX := Lib.hid (HW.out.trans (hb.mono HW.out.size)); clear hb BR)
  have hb2 := below_put2 HX.out (b := w.heap.size + 1) (by omega) (.bool false) (.slice none 0 0)
  exact bodyPost_ret (v := .agg #[.bool false, .slice none 0 0]) (by simp [results, Try.results34, go_sem, d2, d3]) rfl ⟨rfl, hb2⟩
end Go.Proofs.Ytcmncclibhjepaa
