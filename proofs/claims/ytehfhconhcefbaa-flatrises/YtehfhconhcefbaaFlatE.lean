import Derived.Test.YtehfhconhcefbaaFlatD
namespace Go.Proofs.Ytehfhconhcefbaa
open Go Go.RowKit Go.Sort

set_option maxHeartbeats 2000000 in
theorem Add_any (a b : V) (w : World) :
    Calls Try.prog 26 #[a.val, b.val] w fun e w' => e = .returned (addV a b).val ∧ Below w.heap.size w w' := by
  have HC := Lib.hid (fun W => combA_any a b W)
  rw [show comb _ a b = addV a b from rfl] at HC
  generalize addV a b = r at *
  obtain ⟨k, c⟩ := a
  obtain ⟨l, d⟩ := b
  obtain ⟨k', c'⟩ := r
  unfold V.val at HC ⊢
  have BR := Box.new ((w.alloc (.cells #[.int .i64 k, .int .i64 c] 25)).alloc (.cells #[.int .i64 l, .int .i64 d] 25)) (.int .i64 0) (.int .i64 0) 25
  have HW := Lib.hid (below3 w (.cells #[.int .i64 k, .int .i64 c] 25) (.cells #[.int .i64 l, .int .i64 d] 25) (.cells #[.int .i64 0, .int .i64 0] 25))
  simp only [World.size_alloc] at BR
  go_enter Try.func26, Try.ntmps26
  go_wp2_with (go_at_call 37; refine (HC.out _).mono ?_; clear HC; rintro e w1 ⟨rfl, hb⟩; obtain ⟨z0, z1, z2, z3⟩ := BR.below hb BR.lt; have HX := Lib.hid (HW.out.trans (hb.mono HW.out.size)); clear hb BR HW)
  exact bodyPost_ret (v := .agg #[.int .i64 k', .int .i64 c']) (by simp [results, Try.results26, go_sem, z0, z1]) rfl ⟨rfl, below_put2 HX.out (b := w.heap.size + 1 + 1) (by omega) _ _⟩

set_option maxHeartbeats 2000000 in
theorem Sub_any (a b : V) (w : World) :
    Calls Try.prog 28 #[a.val, b.val] w fun e w' => e = .returned (subV a b).val ∧ Below w.heap.size w w' := by
  have HC := Lib.hid (fun W => combS_any a b W)
  rw [show comb _ a b = subV a b from rfl] at HC
  generalize subV a b = r at *
  obtain ⟨k, c⟩ := a
  obtain ⟨l, d⟩ := b
  obtain ⟨k', c'⟩ := r
  unfold V.val at HC ⊢
  have BR := Box.new ((w.alloc (.cells #[.int .i64 k, .int .i64 c] 25)).alloc (.cells #[.int .i64 l, .int .i64 d] 25)) (.int .i64 0) (.int .i64 0) 25
  have HW := Lib.hid (below3 w (.cells #[.int .i64 k, .int .i64 c] 25) (.cells #[.int .i64 l, .int .i64 d] 25) (.cells #[.int .i64 0, .int .i64 0] 25))
  simp only [World.size_alloc] at BR
  go_enter Try.func28, Try.ntmps28
  go_wp2_with (go_at_call 37; refine (HC.out _).mono ?_; clear HC; rintro e w1 ⟨rfl, hb⟩; obtain ⟨z0, z1, z2, z3⟩ := BR.below hb BR.lt; have HX := Lib.hid (HW.out.trans (hb.mono HW.out.size)); clear hb BR HW)
  exact bodyPost_ret (v := .agg #[.int .i64 k', .int .i64 c']) (by simp [results, Try.results28, go_sem, z0, z1]) rfl ⟨rfl, below_put2 HX.out (b := w.heap.size + 1 + 1) (by omega) _ _⟩

set_option maxHeartbeats 2000000 in
theorem Mul_any (a b : V) (w : World) :
    Calls Try.prog 30 #[a.val, b.val] w fun e w' => e = .returned (mulV a b).val ∧ Below w.heap.size w w' := by
  have HC := Lib.hid (fun W => combM_any a b W)
  rw [show comb _ a b = mulV a b from rfl] at HC
  generalize mulV a b = r at *
  obtain ⟨k, c⟩ := a
  obtain ⟨l, d⟩ := b
  obtain ⟨k', c'⟩ := r
  unfold V.val at HC ⊢
  have BR := Box.new ((w.alloc (.cells #[.int .i64 k, .int .i64 c] 25)).alloc (.cells #[.int .i64 l, .int .i64 d] 25)) (.int .i64 0) (.int .i64 0) 25
  have HW := Lib.hid (below3 w (.cells #[.int .i64 k, .int .i64 c] 25) (.cells #[.int .i64 l, .int .i64 d] 25) (.cells #[.int .i64 0, .int .i64 0] 25))
  simp only [World.size_alloc] at BR
  go_enter Try.func30, Try.ntmps30
  go_wp2_with (go_at_call 37; refine (HC.out _).mono ?_; clear HC; rintro e w1 ⟨rfl, hb⟩; obtain ⟨z0, z1, z2, z3⟩ := BR.below hb BR.lt; have HX := Lib.hid (HW.out.trans (hb.mono HW.out.size)); clear hb BR HW)
  exact bodyPost_ret (v := .agg #[.int .i64 k', .int .i64 c']) (by simp [results, Try.results30, go_sem, z0, z1]) rfl ⟨rfl, below_put2 HX.out (b := w.heap.size + 1 + 1) (by omega) _ _⟩

set_option maxHeartbeats 2000000 in
theorem Neg_any (a : V) (w : World) :
    Calls Try.prog 24 #[a.val] w fun e w' => e = .returned (negV a).val ∧ Below w.heap.size w w' := by
  unfold negV
  have HO := Lib.hid (fun W => Of_any 0 W)
  have HC := Lib.hid (fun W => Sub_any (vone 0) a W)
  generalize subV (vone 0) a = r at *
  generalize vone 0 = z at *
  obtain ⟨k, c⟩ := a
  obtain ⟨l, d⟩ := z
  obtain ⟨k', c'⟩ := r
  unfold V.val at HC HO ⊢
  have BA := (Box.new w (.int .i64 k) (.int .i64 c) 25).alloc (.cells #[.int .i64 0, .int .i64 0] 25)
  have BR := Box.new (w.alloc (.cells #[.int .i64 k, .int .i64 c] 25)) (.int .i64 0) (.int .i64 0) 25
  have hW := below2 w (.cells #[.int .i64 k, .int .i64 c] 25) (.cells #[.int .i64 0, .int .i64 0] 25)
  rw [World.size_alloc] at BR
  generalize hE : (w.alloc (.cells #[.int .i64 k, .int .i64 c] 25)).alloc (.cells #[.int .i64 0, .int .i64 0] 25) = W at *
  have BA := BA.drew
  have BR := BR.drew
  have HW := Lib.hid hW.drew
  obtain ⟨a0, a1, -, -⟩ := id BA
  clear hW
  go_enter Try.func24, Try.ntmps24
  go_upto_region 1 with fail
  clear hE
  go_region_with (first
    | (go_at_call 20; refine (HO.out _).mono ?_; clear HO; rintro e w1 ⟨rfl, hb⟩; have BA1 := BA.below hb BA.lt; have BR1 := BR.below hb BR.lt; obtain ⟨b0, b1, -, -⟩ := id BA1; have HX := Lib.hid (HW.out.trans (hb.mono HW.out.size)); clear hb BA BR)
    | (go_at_call 28; refine (HC.out _).mono ?_; clear HC; rintro e w2 ⟨rfl, hb⟩; obtain ⟨z0, z1, z2, z3⟩ := BR1.below hb BR1.lt; have HY := Lib.hid (HX.out.trans (hb.mono HX.out.size)); clear hb BR1 BA1))
  all_goals
    go_wp2_with fail
    exact bodyPost_ret (v := .agg #[.int .i64 k', .int .i64 c']) (by simp [results, Try.results24, go_sem, z0, z1]) rfl ⟨rfl, below_put2 HY.out (b := w.heap.size + 1) (by omega) _ _⟩

set_option maxHeartbeats 2000000 in
theorem rJoin_any (a b : V) (w : World) :
    Calls Try.prog 15 #[a.val, b.val] w fun e w' => e = .returned (join a b).val ∧ Below w.heap.size w w' := by
  unfold join
  have HA := Lib.hid (fun W => rsn_any a W)
  have HB := Lib.hid (fun W => rsn_any b W)
  have HL := Lib.hid (fun W => rLeq_any a b W)
  have HM := Lib.hid (fun W => rLeq_any b a W)
  generalize a.sn = a' at *
  generalize b.sn = b' at *
  generalize leq a b = r at *
  generalize leq b a = s at *
  obtain ⟨k, c⟩ := a
  obtain ⟨l, d⟩ := b
  obtain ⟨k', c'⟩ := a'
  obtain ⟨l', d'⟩ := b'
  unfold V.val at HA HB HL HM ⊢
  have BA := ((Box.new w (.int .i64 k) (.int .i64 c) 23).alloc (.cells #[.int .i64 l, .int .i64 d] 23)).alloc (.cells #[.int .i64 0, .int .i64 0] 23)
  have BB := (Box.new (w.alloc (.cells #[.int .i64 k, .int .i64 c] 23)) (.int .i64 l) (.int .i64 d) 23).alloc (.cells #[.int .i64 0, .int .i64 0] 23)
  have BR := Box.new ((w.alloc (.cells #[.int .i64 k, .int .i64 c] 23)).alloc (.cells #[.int .i64 l, .int .i64 d] 23)) (.int .i64 0) (.int .i64 0) 23
  have hW := below3 w (.cells #[.int .i64 k, .int .i64 c] 23) (.cells #[.int .i64 l, .int .i64 d] 23) (.cells #[.int .i64 0, .int .i64 0] 23)
  simp only [World.size_alloc] at BB BR
  generalize hE : ((w.alloc (.cells #[.int .i64 k, .int .i64 c] 23)).alloc (.cells #[.int .i64 l, .int .i64 d] 23)).alloc (.cells #[.int .i64 0, .int .i64 0] 23) = W at *
  have HW := Lib.hid hW
  obtain ⟨x0, x1, -, -⟩ := id BA
  obtain ⟨y0, y1, -, -⟩ := id BB
  clear hW
  have tok1 : True := trivial
  cases r with
  | true =>
    go_enter Try.func15, Try.ntmps15
    go_wp2_with (first
      | (go_at_call 17; refine (HL.out _).mono ?_; clear HL HM x0 x1 y0 y1; rintro e w1 ⟨rfl, hb⟩; have B1 := BB.below hb BB.lt; have R1 := BR.below hb BR.lt; obtain ⟨y0, y1, -, -⟩ := id B1; have HX := Lib.hid (HW.out.trans (hb.mono HW.out.size)); clear hb BA BB BR HW)
      | (go_at_call 34; refine (HB.out _).mono ?_; clear HB HA y0 y1; rintro e w2 ⟨rfl, hb⟩; obtain ⟨z0, z1, z2, z3⟩ := R1.below hb R1.lt; have HY := Lib.hid (HX.out.trans (hb.mono HX.out.size)); clear hb B1 R1 HX))
    exact bodyPost_ret (v := .agg #[.int .i64 l', .int .i64 d']) (by simp [results, Try.results15, go_sem, z0, z1]) rfl ⟨rfl, below_put2 HY.out (b := w.heap.size + 1 + 1) (by omega) _ _⟩
  | false =>
    cases s with
    | true =>
      go_enter Try.func15, Try.ntmps15
      go_wp2_with (first
        | (have _t := tok1; go_at_call 17; refine (HL.out _).mono ?_; clear HL _t tok1 x0 x1 y0 y1; rintro e w1 ⟨rfl, hb⟩; have A1 := BA.below hb BA.lt; have B1 := BB.below hb BB.lt; have R1 := BR.below hb BR.lt; obtain ⟨x0, x1, -, -⟩ := id A1; obtain ⟨y0, y1, -, -⟩ := id B1; have HX := Lib.hid (HW.out.trans (hb.mono HW.out.size)); clear hb BA BB BR HW)
        | (go_at_call 17; refine (HM.out _).mono ?_; clear HM x0 x1 y0 y1; rintro e w2 ⟨rfl, hb⟩; have A2 := A1.below hb A1.lt; have R2 := R1.below hb R1.lt; obtain ⟨x0, x1, -, -⟩ := id A2; have HY := Lib.hid (HX.out.trans (hb.mono HX.out.size)); clear hb A1 B1 R1 HX)
        | (go_at_call 34; refine (HA.out _).mono ?_; clear HB HA x0 x1; rintro e w3 ⟨rfl, hb⟩; obtain ⟨z0, z1, z2, z3⟩ := R2.below hb R2.lt; have HZ := Lib.hid (HY.out.trans (hb.mono HY.out.size)); clear hb A2 R2 HY))
      exact bodyPost_ret (v := .agg #[.int .i64 k', .int .i64 c']) (by simp [results, Try.results15, go_sem, z0, z1]) rfl ⟨rfl, below_put2 HZ.out (b := w.heap.size + 1 + 1) (by omega) _ _⟩
    | false =>
      go_enter Try.func15, Try.ntmps15
      go_wp2_with (first
        | (have _t := tok1; go_at_call 17; refine (HL.out _).mono ?_; clear HL _t tok1 x0 x1 y0 y1; rintro e w1 ⟨rfl, hb⟩; have A1 := BA.below hb BA.lt; have B1 := BB.below hb BB.lt; have R1 := BR.below hb BR.lt; obtain ⟨x0, x1, -, -⟩ := id A1; obtain ⟨y0, y1, -, -⟩ := id B1; have HX := Lib.hid (HW.out.trans (hb.mono HW.out.size)); clear hb BA BB BR HW)
        | (go_at_call 17; refine (HM.out _).mono ?_; clear HM x0 x1 y0 y1; rintro e w2 ⟨rfl, hb⟩; obtain ⟨z0, z1, z2, z3⟩ := R1.below hb R1.lt; have HY := Lib.hid (HX.out.trans (hb.mono HX.out.size)); clear hb A1 B1 R1 HX))
      exact bodyPost_ret (v := .agg #[.int .i64 2, .int .i64 0]) (by simp [results, Try.results15, go_sem, z0, z1]) rfl ⟨rfl, below_put2 HY.out (b := w.heap.size + 1 + 1) (by omega) _ _⟩
end Go.Proofs.Ytehfhconhcefbaa
