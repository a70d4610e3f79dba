import Derived.Deep.RegionHeld3
import Derived.Test.YtcmncclibhjepaaFlatB
namespace Go.Proofs.Ytcmncclibhjepaa
open Go Go.RowKit Go.Sort

set_option maxHeartbeats 2000000 in
theorem Leq_any (a b : V) (w : World) :
    Calls Try.prog 45 #[a.val, b.val] w fun e w' => e = .returned (.bool (leq a b)) ∧ Below w.heap.size w w' := by
  unfold leq
  have hA := fun W => sn_any a W
  have hB := fun W => sn_any b W
  have hL := fun W => leqL_any a.sn b.sn W
  generalize leV a.sn b.sn = r at *
  generalize a.sn = a' at *
  generalize b.sn = b' at *
  obtain ⟨k, c⟩ := a
  obtain ⟨l, d⟩ := b
  unfold V.val at hA hB ⊢
  have BA := (Box.new w (.int .i64 k) (.int .i64 c) 32).alloc (.cells #[.int .i64 l, .int .i64 d] 32)
  have BB := Box.new (w.alloc (.cells #[.int .i64 k, .int .i64 c] 32)) (.int .i64 l) (.int .i64 d) 32
  have hW := below2 w (.cells #[.int .i64 k, .int .i64 c] 32) (.cells #[.int .i64 l, .int .i64 d] 32)
  rw [World.size_alloc] at BB
  generalize hE : (w.alloc (.cells #[.int .i64 k, .int .i64 c] 32)).alloc (.cells #[.int .i64 l, .int .i64 d] 32) = W at *
  have HW := Lib.hid hW
  have k0 := cell_regrown BA.c0
  have k1 := cell_regrown BA.c1
  have k2 := cell_regrown BB.c0
  have k3 := cell_regrown BB.c1
  have c1 := fun d os => Calls.regrown_of (hA (grow (redrawn W d) os))
  have c2 := fun d os => Calls.regrown_of (hB (grow (redrawn W d) os))
  have c3 := fun d os => Calls.regrown_of (hL (grow (redrawn W d) os))
  clear hA hB hL hW BA BB
  unfold V.val at c1 c2 c3
  go_enter Try.func45, Try.ntmps45
  go_wp2_with fail
  clear hE
  refine wp_region_quiet_below (by kernel_rfl) (by kernel_rfl) ?_
  repeat (first | go_big_quiet_step (first | with_reducible exact c1 _ _ | with_reducible exact c2 _ _ | with_reducible exact c3 _ _) | quiet_step (first | with_reducible exact c1 _ _ | with_reducible exact c2 _ _ | with_reducible exact c3 _ _))
  refine wpQuiet_nil ?_
  intro _ hw'
  obtain ⟨⟨dq, osq⟩, hw''⟩ := hw'
  subst hw''
  go_wp2_with fail
  go_ret
  exact ⟨rfl, HW.out.trans ((below_regrown W dq osq).mono HW.out.size)⟩

set_option maxHeartbeats 2000000 in
theorem rLeq_any (a b : V) (w : World) :
    Calls Try.prog 46 #[a.val, b.val] w fun e w' => e = .returned (.bool (leq a b)) ∧ Below w.heap.size w w' := by
  unfold leq
  have HA := Lib.hid (fun W => rsn_any a W)
  have HB := Lib.hid (fun W => rsn_any b W)
  generalize a.sn = a' at *
  generalize b.sn = b' at *
  obtain ⟨k, c⟩ := a
  obtain ⟨l, d⟩ := b
  obtain ⟨k', c'⟩ := a'
  obtain ⟨l', d'⟩ := b'
  unfold V.val at HA HB ⊢
  have BA := (Box.new w (.int .i64 k) (.int .i64 c) 26).alloc (.cells #[.int .i64 l, .int .i64 d] 26)
  have BB := Box.new (w.alloc (.cells #[.int .i64 k, .int .i64 c] 26)) (.int .i64 l) (.int .i64 d) 26
  have hW := below2 w (.cells #[.int .i64 k, .int .i64 c] 26) (.cells #[.int .i64 l, .int .i64 d] 26)
  rw [World.size_alloc] at BB
  generalize hE : (w.alloc (.cells #[.int .i64 k, .int .i64 c] 26)).alloc (.cells #[.int .i64 l, .int .i64 d] 26) = W at *
  have HW := Lib.hid hW
  obtain ⟨a0, a1, -, -⟩ := id BA
  clear hW
  go_enter Try.func46, Try.ntmps46
  go_wp2_with (fail)
  refine (HA.out _).mono ?_
  clear HA a0 a1
  rintro e w1 ⟨rfl, hb⟩
  have A1 := BA.below hb BA.lt
  have B1 := BB.below hb BB.lt
  have h1 := below_put2 (HW.out.trans (hb.mono HW.out.size)) (b := w.heap.size) (Nat.le_refl _) (.int .i64 k') (.int .i64 c')
  have A2 := A1.put (.int .i64 k') (.int .i64 c')
  have B2 := B1.other (b' := w.heap.size) (by omega) (.int .i64 k') (.int .i64 c')
  clear BA BB HW hE hb
  obtain ⟨-, -, f0, f1⟩ := id A1
  obtain ⟨x0, x1, -, -⟩ := id A1
  obtain ⟨y0, y1, -, -⟩ := id B1
  have H1 := Lib.hid h1
  clear h1 A1 B1
  have HA2 := Lib.hid A2
  have HB2 := Lib.hid B2
  clear A2 B2
  go_wp2_with fail
  generalize (w1.setCell ⟨w.heap.size, 0, none⟩ (.int .i64 k')).setCell ⟨w.heap.size, 1, none⟩ (.int .i64 c') = w2 at *
  clear x0 x1 y0 y1 f0 f1
  refine (HB.out _).mono ?_
  clear HB
  rintro e w3 ⟨rfl, hb⟩
  have A3 := HA2.out.below hb HA2.out.lt
  have B3 := HB2.out.below hb HB2.out.lt
  have H3 := Lib.hid (H1.out.trans (hb.mono H1.out.size))
  clear HA2 HB2 H1 hb
  obtain ⟨x0, x1, f0, f1⟩ := A3
  obtain ⟨y0, y1, f2, f3⟩ := B3
  go_wp2_with fail
  all_goals
    go_ret
    refine ⟨ret_bool ?_, below_put2 H3.out (b := w.heap.size + 1) (by omega) _ _⟩
    clear x0 x1 y0 y1 f0 f1 f2 f3 H3
    rw [Bool.eq_iff_iff]
    simp [leV] at *
    try omega

set_option maxHeartbeats 4000000 in
theorem Join_any (a b : V) (w : World) :
    Calls Try.prog 38 #[a.val, b.val] w fun e w' => e = .returned (join a b).val ∧ Below w.heap.size w w' := by
  unfold join leq
  have HA := Lib.hid (fun W => sn_any a W)
  have HB := Lib.hid (fun W => sn_any b W)
  have HL := Lib.hid (fun W => leqL_any a.sn b.sn W)
  have HM := Lib.hid (fun W => leqL_any b.sn a.sn W)
  generalize a.sn = a' at *
  generalize b.sn = b' at *
  generalize leV a' b' = r at *
  generalize leV b' a' = s at *
  obtain ⟨k, c⟩ := a
  obtain ⟨l, d⟩ := b
  obtain ⟨k', c'⟩ := a'
  obtain ⟨l', d'⟩ := b'
  unfold V.val at HA HB HL HM ⊢
  have BA := ((Box.new w (.int .i64 k) (.int .i64 c) 32).alloc (.cells #[.int .i64 l, .int .i64 d] 32)).alloc (.cells #[.int .i64 0, .int .i64 0] 32)
  have BB := (Box.new (w.alloc (.cells #[.int .i64 k, .int .i64 c] 32)) (.int .i64 l) (.int .i64 d) 32).alloc (.cells #[.int .i64 0, .int .i64 0] 32)
  have BR := Box.new ((w.alloc (.cells #[.int .i64 k, .int .i64 c] 32)).alloc (.cells #[.int .i64 l, .int .i64 d] 32)) (.int .i64 0) (.int .i64 0) 32
  have hW := below3 w (.cells #[.int .i64 k, .int .i64 c] 32) (.cells #[.int .i64 l, .int .i64 d] 32) (.cells #[.int .i64 0, .int .i64 0] 32)
  simp only [World.size_alloc] at BB BR
  generalize hE : ((w.alloc (.cells #[.int .i64 k, .int .i64 c] 32)).alloc (.cells #[.int .i64 l, .int .i64 d] 32)).alloc (.cells #[.int .i64 0, .int .i64 0] 32) = W at *
  have BA := BA.drew
  have BB := BB.drew
  have BR := BR.drew
  have HW := Lib.hid hW.drew
  obtain ⟨a0, a1, a2, a3⟩ := id BA
  obtain ⟨b0, b1, b2, b3⟩ := id BB
  clear hW
  go_enter Try.func38, Try.ntmps38
  go_upto_region 1 with fail
  go_cut [] (fun wx => Box wx w.heap.size (.int .i64 k') (.int .i64 c') ∧ Box wx (w.heap.size + 1) (.int .i64 l') (.int .i64 d') ∧ Box wx (w.heap.size + 1 + 1) (.int .i64 0) (.int .i64 0) ∧ Below w.heap.size w wx)
  case first =>
    clear HL HM hE
    have tok1 : True := trivial
    have tok2 : True := trivial
    go_region_with (first
      | (have _t := tok1; go_at_call 63; refine (HA.out _).mono ?_; clear HA _t tok1; rintro e w1 ⟨rfl, hb⟩; have BB1 := BB.below hb BB.lt; have BA1 := BA.below hb BA.lt; have BR1 := BR.below hb BR.lt; obtain ⟨b01, b11, b21, b31⟩ := id BB1; have HBW := Lib.hid (HW.out.trans (hb.mono HW.out.size)); clear hb BA BB BR)
      | (have _t := tok2; go_at_call 63; refine (HB.out _).mono ?_; clear HB _t tok2; rintro e w2 ⟨rfl, hb⟩; have BB2 := BB1.below hb BB1.lt; have BA2 := BA1.below hb BA1.lt; have BR2 := BR1.below hb BR1.lt; obtain ⟨b02, b12, b22, b32⟩ := id BB2; obtain ⟨a02, a12, a22, a32⟩ := id BA2; have HBW2 := Lib.hid (HBW.out.trans (hb.mono HBW.out.size)); clear hb))
    all_goals
      go_wp2_with fail
      go_meet
      have HP := below_put2 (below_put2 HBW2.out (b := w.heap.size) (Nat.le_refl _) (.int .i64 k') (.int .i64 c')) (b := w.heap.size + 1) (by omega) (.int .i64 l') (.int .i64 d')
      exact ⟨(BA2.put _ _).other (by omega) _ _, (BB2.other (by omega) _ _).put _ _, (BR2.other (by omega) _ _).other (by omega) _ _, HP⟩
  case rest =>
    obtain ⟨A, B, R, hB⟩ := hcut
    have HW := Lib.hid hB
    clear hE HA HB BA BB BR a0 a1 a2 a3 b0 b1 b2 b3 hB
    obtain ⟨x0, x1, -, -⟩ := id A
    obtain ⟨y0, y1, -, -⟩ := id B
    cases r with
    | true =>
      go_wp2_with (go_at_call 64; refine (HL.out _).mono ?_; clear HL HM x0 x1 y0 y1; rintro e w1 ⟨rfl, hb⟩; obtain ⟨y0, y1, -, -⟩ := B.below hb B.lt; obtain ⟨z0, z1, z2, z3⟩ := R.below hb R.lt; have HX := Lib.hid (HW.out.trans (hb.mono HW.out.size)); clear hb A B R HW)
      exact bodyPost_ret (v := .agg #[.int .i64 l', .int .i64 d']) (by simp [results, Try.results38, go_sem, z0, z1]) rfl ⟨rfl, below_put2 HX.out (b := w.heap.size + 1 + 1) (by omega) _ _⟩
    | false =>
      have tok1 : True := trivial
      cases s with
      | true =>
        go_wp2_with (first
          | (have _t := tok1; go_at_call 64; refine (HL.out _).mono ?_; clear HL _t tok1 x0 x1 y0 y1; rintro e w1 ⟨rfl, hb⟩; have A1 := A.below hb A.lt; have B1 := B.below hb B.lt; have R1 := R.below hb R.lt; obtain ⟨x0, x1, -, -⟩ := id A1; obtain ⟨y0, y1, -, -⟩ := id B1; have HX := Lib.hid (HW.out.trans (hb.mono HW.out.size)); clear hb A B R HW)
          | (go_at_call 64; refine (HM.out _).mono ?_; clear HM x0 x1 y0 y1; rintro e w2 ⟨rfl, hb⟩; have A2 := A1.below hb A1.lt; have R2 := R1.below hb R1.lt; obtain ⟨x0, x1, -, -⟩ := id A2; obtain ⟨z0, z1, z2, z3⟩ := id R2; have HY := Lib.hid (HX.out.trans (hb.mono HX.out.size)); clear hb A1 B1 R1 HX))
        exact bodyPost_ret (v := .agg #[.int .i64 k', .int .i64 c']) (by simp [results, Try.results38, go_sem, z0, z1]) rfl ⟨rfl, below_put2 HY.out (b := w.heap.size + 1 + 1) (by omega) _ _⟩
      | false =>
        go_wp2_with (first
          | (have _t := tok1; go_at_call 64; refine (HL.out _).mono ?_; clear HL _t tok1 x0 x1 y0 y1; rintro e w1 ⟨rfl, hb⟩; have A1 := A.below hb A.lt; have B1 := B.below hb B.lt; have R1 := R.below hb R.lt; obtain ⟨x0, x1, -, -⟩ := id A1; obtain ⟨y0, y1, -, -⟩ := id B1; have HX := Lib.hid (HW.out.trans (hb.mono HW.out.size)); clear hb A B R HW)
          | (go_at_call 64; refine (HM.out _).mono ?_; clear HM x0 x1 y0 y1; rintro e w2 ⟨rfl, hb⟩; have A2 := A1.below hb A1.lt; have R2 := R1.below hb R1.lt; obtain ⟨x0, x1, -, -⟩ := id A2; obtain ⟨z0, z1, z2, z3⟩ := id R2; have HY := Lib.hid (HX.out.trans (hb.mono HX.out.size)); clear hb A1 B1 R1 HX))
        exact bodyPost_ret (v := .agg #[.int .i64 2, .int .i64 0]) (by simp [results, Try.results38, go_sem, z0, z1]) rfl ⟨rfl, below_put2 HY.out (b := w.heap.size + 1 + 1) (by omega) _ _⟩
end Go.Proofs.Ytcmncclibhjepaa
