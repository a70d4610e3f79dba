import Derived.Test.YtcmncclibhjepaaFlatD
namespace Go.Proofs.Ytcmncclibhjepaa
open Go Go.RowKit Go.Sort









set_option maxHeartbeats 2000000 in
theorem rJoin_any (a b : V) (w : World) :
    Calls Try.prog 49 #[a.val, b.val] w fun e w' => e = .returned (join a b).val ∧ Below w.heap.size w w' := by
  unfold join
  have HA := Lib.hid (fun W => rsn_any a W)
  have HB := Lib.hid (fun W => rsn_any b W)
  have HL := Lib.hid (fun W => rLeq_any a b W)
  have HM := Lib.hid (fun W => rLeq_any b a W)
  generalize a.sn = a' at *
  generalize b.sn = b' at *
  generalize leq a b = r at *
  generalize leq b a = s at *
  obtain ⟨k, c⟩ := a
  obtain ⟨l, d⟩ := b
  obtain ⟨k', c'⟩ := a'
  obtain ⟨l', d'⟩ := b'
  unfold V.val at HA HB HL HM ⊢
  have BA := ((Box.new w (.int .i64 k) (.int .i64 c) 26).alloc (.cells #[.int .i64 l, .int .i64 d] 26)).alloc (.cells #[.int .i64 0, .int .i64 0] 26)
  have BB := (Box.new (w.alloc (.cells #[.int .i64 k, .int .i64 c] 26)) (.int .i64 l) (.int .i64 d) 26).alloc (.cells #[.int .i64 0, .int .i64 0] 26)
  have BR := Box.new ((w.alloc (.cells #[.int .i64 k, .int .i64 c] 26)).alloc (.cells #[.int .i64 l, .int .i64 d] 26)) (.int .i64 0) (.int .i64 0) 26
  have hW := below3 w (.cells #[.int .i64 k, .int .i64 c] 26) (.cells #[.int .i64 l, .int .i64 d] 26) (.cells #[.int .i64 0, .int .i64 0] 26)
  simp only [World.size_alloc] at BB BR
  generalize hE : ((w.alloc (.cells #[.int .i64 k, .int .i64 c] 26)).alloc (.cells #[.int .i64 l, .int .i64 d] 26)).alloc (.cells #[.int .i64 0, .int .i64 0] 26) = W at *
  have HW := Lib.hid hW
  obtain ⟨x0, x1, -, -⟩ := id BA
  obtain ⟨y0, y1, -, -⟩ := id BB
  clear hW
  have tok1 : True := trivial
  cases r with
  | true =>
    go_enter Try.func49, Try.ntmps49
    go_wp2_with (first
      | (go_at_call 46; refine (HL.out _).mono ?_; clear HL HM x0 x1 y0 y1; rintro e w1 ⟨rfl, hb⟩; have B1 := BB.below hb BB.lt; have R1 := BR.below hb BR.lt; obtain ⟨y0, y1, -, -⟩ := id B1; have HX := Lib.hid (HW.out.trans (hb.mono HW.out.size)); clear hb BA BB BR HW)
      | (go_at_call 69; refine (HB.out _).mono ?_; clear HB HA y0 y1; rintro e w2 ⟨rfl, hb⟩; obtain ⟨z0, z1, z2, z3⟩ := R1.below hb R1.lt; have HY := Lib.hid (HX.out.trans (hb.mono HX.out.size)); clear hb B1 R1 HX))
    exact bodyPost_ret (v := .agg #[.int .i64 l', .int .i64 d']) (by simp [results, Try.results49, go_sem, z0, z1]) rfl ⟨rfl, below_put2 HY.out (b := w.heap.size + 1 + 1) (by omega) _ _⟩
  | false =>
    cases s with
    | true =>
      go_enter Try.func49, Try.ntmps49
      go_wp2_with (first
        | (have _t := tok1; go_at_call 46; refine (HL.out _).mono ?_; clear HL _t tok1 x0 x1 y0 y1; rintro e w1 ⟨rfl, hb⟩; have A1 := BA.below hb BA.lt; have B1 := BB.below hb BB.lt; have R1 := BR.below hb BR.lt; obtain ⟨x0, x1, -, -⟩ := id A1; obtain ⟨y0, y1, -, -⟩ := id B1; have HX := Lib.hid (HW.out.trans (hb.mono HW.out.size)); clear hb BA BB BR HW)
        | (go_at_call 46; refine (HM.out _).mono ?_; clear HM x0 x1 y0 y1; rintro e w2 ⟨rfl, hb⟩; have A2 := A1.below hb A1.lt; have R2 := R1.below hb R1.lt; obtain ⟨x0, x1, -, -⟩ := id A2; have HY := Lib.hid (HX.out.trans (hb.mono HX.out.size)); clear hb A1 B1 R1 HX)
        | (go_at_call 69; refine (HA.out _).mono ?_; clear HB HA x0 x1; rintro e w3 ⟨rfl, hb⟩; obtain ⟨z0, z1, z2, z3⟩ := R2.below hb R2.lt; have HZ := Lib.hid (HY.out.trans (hb.mono HY.out.size)); clear hb A2 R2 HY))
      exact bodyPost_ret (v := .agg #[.int .i64 k', .int .i64 c']) (by simp [results, Try.results49, go_sem, z0, z1]) rfl ⟨rfl, below_put2 HZ.out (b := w.heap.size + 1 + 1) (by omega) _ _⟩
    | false =>
      go_enter Try.func49, Try.ntmps49
      go_wp2_with (first
        | (have _t := tok1; go_at_call 46; refine (HL.out _).mono ?_; clear HL _t tok1 x0 x1 y0 y1; rintro e w1 ⟨rfl, hb⟩; have A1 := BA.below hb BA.lt; have B1 := BB.below hb BB.lt; have R1 := BR.below hb BR.lt; obtain ⟨x0, x1, -, -⟩ := id A1; obtain ⟨y0, y1, -, -⟩ := id B1; have HX := Lib.hid (HW.out.trans (hb.mono HW.out.size)); clear hb BA BB BR HW)
        | (go_at_call 46; refine (HM.out _).mono ?_; clear HM x0 x1 y0 y1; rintro e w2 ⟨rfl, hb⟩; obtain ⟨z0, z1, z2, z3⟩ := R1.below hb R1.lt; have HY := Lib.hid (HX.out.trans (hb.mono HX.out.size)); clear hb A1 B1 R1 HX))
      exact bodyPost_ret (v := .agg #[.int .i64 2, .int .i64 0]) (by simp [results, Try.results49, go_sem, z0, z1]) rfl ⟨rfl, below_put2 HY.out (b := w.heap.size + 1 + 1) (by omega) _ _⟩
end Go.Proofs.Ytcmncclibhjepaa
