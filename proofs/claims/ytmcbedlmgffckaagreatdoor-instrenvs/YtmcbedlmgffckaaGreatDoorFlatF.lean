import Derived.Test.YtmcbedlmgffckaaGreatDoorFlaG
namespace Go.Proofs.YtmcbedlmgffckaaGreatDoor
open Go Go.RowKit Go.Sort

set_option maxHeartbeats 2000000 in
theorem rNeg_any (a : V) (w : World) :
    Calls Tryz.prog 50 #[a.val] w fun e w' => e = .returned (negV a).val ∧ Below w.heap.size w w' := by
  rw [← neg_made]
  have hc := sn_c a
  have HA := Lib.hid (fun W => rsn_any a W)
  have HC := Lib.hid (fun W => made_any a.sn.k (-a.sn.c) W)
  generalize a.sn = s at *
  obtain ⟨k', c'⟩ := s
  simp only at hc HC
  generalize made k' (-c') = r at *
  obtain ⟨k, c⟩ := a
  obtain ⟨l, d⟩ := r
  unfold V.val at HA HC ⊢
  have BA := (Box.new w (.int .i64 k) (.int .i64 c) 53).alloc (.cells #[.int .i64 0, .int .i64 0] 53)
  have BR := Box.new (w.alloc (.cells #[.int .i64 k, .int .i64 c] 53)) (.int .i64 0) (.int .i64 0) 53
  have hW := below2 w (.cells #[.int .i64 k, .int .i64 c] 53) (.cells #[.int .i64 0, .int .i64 0] 53)
  rw [World.size_alloc] at BR
  generalize hE : (w.alloc (.cells #[.int .i64 k, .int .i64 c] 53)).alloc (.cells #[.int .i64 0, .int .i64 0] 53) = W at *
  have HW := Lib.hid hW
  obtain ⟨a0, a1, -, -⟩ := id BA
  clear hW
  go_enter Tryz.func50, Tryz.ntmps50
  go_wp2_with fail
  refine (HA.out _).mono ?_
  clear HA a0 a1
  rintro e w1 ⟨rfl, hb⟩
  have A1 := BA.below hb BA.lt
  have R1 := BR.below hb BR.lt
  have HX := Lib.hid (below_put2 (HW.out.trans (hb.mono HW.out.size)) (b := w.heap.size) (Nat.le_refl _) (.int .i64 k') (.int .i64 c'))
  have R2 := Lib.hid (R1.other (b' := w.heap.size) (by omega) (.int .i64 k') (.int .i64 c'))
  obtain ⟨x0, x1, f0, f1⟩ := A1
  clear BA BR HW hE hb R1
  go_wp2_with fail
  generalize (w1.setCell ⟨w.heap.size, 0, none⟩ (.int .i64 k')).setCell ⟨w.heap.size, 1, none⟩ (.int .i64 c') = w2 at *
  clear x0 x1 f0 f1
  refine (HC.out _).mono ?_
  rintro e w3 ⟨rfl, hb⟩
  obtain ⟨z0, z1, z2, z3⟩ := R2.out.below hb R2.out.lt
  have HY := Lib.hid (HX.out.trans (hb.mono HX.out.size))
  clear hb R2 HX HC
  go_wp2_with fail
  exact bodyPost_ret (v := .agg #[.int .i64 l, .int .i64 d]) (by simp [results, Tryz.results50, go_sem, z0, z1]) rfl ⟨rfl, below_put2 HY.out (b := w.heap.size + 1) (by omega) _ _⟩

set_option maxHeartbeats 4000000 in
theorem rAdd_any (a b : V) (w : World) :
    Calls Tryz.prog 51 #[a.val, b.val] w fun e w' => e = .returned (addV a b).val ∧ Below w.heap.size w w' := by
  unfold addV
  rw [← comb_made]
  have hc := sn_c a
  have hd := sn_c b
  have HA := Lib.hid (fun W => rsn_any a W)
  have HB := Lib.hid (fun W => rsn_any b W)
  have HK := Lib.hid (fun W => kind_any a.sn b.sn W)
  have HC := Lib.hid (fun W => made_any (kindZ a.sn.k b.sn.k) (a.sn.c + b.sn.c) W)
  generalize a.sn = s at *
  generalize b.sn = t at *
  obtain ⟨k', c'⟩ := s
  obtain ⟨l', d'⟩ := t
  simp only at hc hd HC HK ⊢
  skip
  generalize made (kindZ k' l') (c' + d') = r at *
  generalize kindZ k' l' = q at *
  rw [← show IntKind.i64.wrap (c' + d') = c' + d' from IntWalk.i64_in _ (by omega)] at HC
  obtain ⟨k, c⟩ := a
  obtain ⟨l, d⟩ := b
  obtain ⟨rk, rc⟩ := r
  unfold V.val at HA HB HK HC ⊢
  have BA := ((Box.new w (.int .i64 k) (.int .i64 c) 53).alloc (.cells #[.int .i64 l, .int .i64 d] 53)).alloc (.cells #[.int .i64 0, .int .i64 0] 53)
  have BB := (Box.new (w.alloc (.cells #[.int .i64 k, .int .i64 c] 53)) (.int .i64 l) (.int .i64 d) 53).alloc (.cells #[.int .i64 0, .int .i64 0] 53)
  have BR := Box.new ((w.alloc (.cells #[.int .i64 k, .int .i64 c] 53)).alloc (.cells #[.int .i64 l, .int .i64 d] 53)) (.int .i64 0) (.int .i64 0) 53
  have hW := below3 w (.cells #[.int .i64 k, .int .i64 c] 53) (.cells #[.int .i64 l, .int .i64 d] 53) (.cells #[.int .i64 0, .int .i64 0] 53)
  simp only [World.size_alloc] at BB BR
  generalize hE : ((w.alloc (.cells #[.int .i64 k, .int .i64 c] 53)).alloc (.cells #[.int .i64 l, .int .i64 d] 53)).alloc (.cells #[.int .i64 0, .int .i64 0] 53) = W at *
  have HW := Lib.hid hW
  obtain ⟨a0, a1, -, -⟩ := id BA
  clear hW
  go_enter Tryz.func51, Tryz.ntmps51
  go_wp2_with fail
  refine (HA.out _).mono ?_
  clear HA a0 a1
  rintro e w1 ⟨rfl, hb⟩
  have A1 := BA.below hb BA.lt
  have B1 := BB.below hb BB.lt
  have R1 := BR.below hb BR.lt
  have HX := Lib.hid (below_put2 (HW.out.trans (hb.mono HW.out.size)) (b := w.heap.size) (Nat.le_refl _) (.int .i64 k') (.int .i64 c'))
  have A2 := Lib.hid (A1.put (.int .i64 k') (.int .i64 c'))
  have B2 := Lib.hid (B1.other (b' := w.heap.size) (by omega) (.int .i64 k') (.int .i64 c'))
  have R2 := Lib.hid (R1.other (b' := w.heap.size) (by omega) (.int .i64 k') (.int .i64 c'))
  obtain ⟨x0, x1, f0, f1⟩ := A1
  obtain ⟨y0, y1, -, -⟩ := B1
  clear BA BB BR HW hE hb R1
  go_wp2_with fail
  generalize (w1.setCell ⟨w.heap.size, 0, none⟩ (.int .i64 k')).setCell ⟨w.heap.size, 1, none⟩ (.int .i64 c') = w2 at *
  clear x0 x1 f0 f1 y0 y1
  refine (HB.out _).mono ?_
  clear HB
  rintro e w3 ⟨rfl, hb⟩
  have A3 := A2.out.below hb A2.out.lt
  have B3 := B2.out.below hb B2.out.lt
  have R3 := R2.out.below hb R2.out.lt
  have HY := Lib.hid (below_put2 (HX.out.trans (hb.mono HX.out.size)) (b := w.heap.size + 1) (by omega) (.int .i64 l') (.int .i64 d'))
  have A4 := Lib.hid (A3.other (b' := w.heap.size + 1) (by omega) (.int .i64 l') (.int .i64 d'))
  have B4 := Lib.hid (B3.put (.int .i64 l') (.int .i64 d'))
  have R4 := Lib.hid (R3.other (b' := w.heap.size + 1) (by omega) (.int .i64 l') (.int .i64 d'))
  obtain ⟨x0, x1, -, -⟩ := A3
  obtain ⟨y0, y1, f2, f3⟩ := B3
  clear A2 B2 R2 HX hb R3
  go_wp2_with fail
  clear x0 x1 y0 y1 f2 f3
  generalize (w3.setCell ⟨w.heap.size + 1, 0, none⟩ (.int .i64 l')).setCell ⟨w.heap.size + 1, 1, none⟩ (.int .i64 d') = w4 at *
  have hS : Hid (∀ w', Below (w.heap.size + 1 + 1) w4 w' → w'.cell? ⟨w.heap.size, 0, none⟩ = some (.int .i64 k') ∧ w'.cell? ⟨w.heap.size, 1, none⟩ = some (.int .i64 c') ∧ w'.cell? ⟨w.heap.size + 1, 0, none⟩ = some (.int .i64 l') ∧ w'.cell? ⟨w.heap.size + 1, 1, none⟩ = some (.int .i64 d')) := fun W h =>
    ⟨(A4.out.below h (by omega)).c0, (A4.out.below h (by omega)).c1, (B4.out.below h (by omega)).c0, (B4.out.below h (by omega)).c1⟩
  have HBN : Hid (Below w4.heap.size w4 w4.drew) := (Below.refl _ _).drew
  have HRL := Lib.hid (Nat.le_of_lt R4.out.lt)
  clear A4 B4
  go_region_held3 (fun w' => w'.cell? ⟨w.heap.size, 0, none⟩ = some (.int .i64 k') ∧ w'.cell? ⟨w.heap.size, 1, none⟩ = some (.int .i64 c') ∧ w'.cell? ⟨w.heap.size + 1, 0, none⟩ = some (.int .i64 l') ∧ w'.cell? ⟨w.heap.size + 1, 1, none⟩ = some (.int .i64 d'))
    (first | with_reducible exact hS.out _ (HBN.out.mono HRL.out) | with_reducible exact hS.out _ HPN.out)
    (first
      | (go_at_call 87; with_reducible refine (HK.out _).mono ?_; clear HK; rintro e w5 ⟨rfl, hb⟩; have hbx := HBN.out.trans (hb.mono HBN.out.size); clear HBN hb; have HBN := Lib.hid hbx; clear hbx)
      | (go_at_call 86; with_reducible refine (HC.out _).mono ?_; clear HC; rintro e w6 ⟨rfl, hb⟩; have hbx := HBN.out.trans (hb.mono HBN.out.size); clear HBN hb; obtain ⟨z0, z1, z2, z3⟩ := R4.out.below hbx R4.out.lt; have HPN := Lib.hid (below_put2 (hbx.mono HRL.out) (b := w.heap.size + 1 + 1) (Nat.le_refl _) (.int .i64 rk) (.int .i64 rc)); have HBN := Lib.hid hbx; clear hbx R4))
  all_goals
    go_wp2_with fail
    exact bodyPost_ret (v := .agg #[.int .i64 rk, .int .i64 rc]) (by simp [results, Tryz.results51, go_sem, z0, z1]) rfl ⟨rfl, below_put2 (HY.out.trans (HBN.out.mono HY.out.size)) (b := w.heap.size + 1 + 1) (by omega) _ _⟩

set_option maxHeartbeats 4000000 in
theorem rSub_any (a b : V) (w : World) :
    Calls Tryz.prog 52 #[a.val, b.val] w fun e w' => e = .returned (subV a b).val ∧ Below w.heap.size w w' := by
  unfold subV
  rw [← comb_made]
  have hc := sn_c a
  have hd := sn_c b
  have HA := Lib.hid (fun W => rsn_any a W)
  have HB := Lib.hid (fun W => rsn_any b W)
  have HK := Lib.hid (fun W => kind_any a.sn b.sn W)
  have HC := Lib.hid (fun W => made_any (kindZ a.sn.k b.sn.k) (a.sn.c - b.sn.c) W)
  generalize a.sn = s at *
  generalize b.sn = t at *
  obtain ⟨k', c'⟩ := s
  obtain ⟨l', d'⟩ := t
  simp only at hc hd HC HK ⊢
  skip
  generalize made (kindZ k' l') (c' - d') = r at *
  generalize kindZ k' l' = q at *
  rw [← show IntKind.i64.wrap (c' - d') = c' - d' from IntWalk.i64_in _ (by omega)] at HC
  obtain ⟨k, c⟩ := a
  obtain ⟨l, d⟩ := b
  obtain ⟨rk, rc⟩ := r
  unfold V.val at HA HB HK HC ⊢
  have BA := ((Box.new w (.int .i64 k) (.int .i64 c) 53).alloc (.cells #[.int .i64 l, .int .i64 d] 53)).alloc (.cells #[.int .i64 0, .int .i64 0] 53)
  have BB := (Box.new (w.alloc (.cells #[.int .i64 k, .int .i64 c] 53)) (.int .i64 l) (.int .i64 d) 53).alloc (.cells #[.int .i64 0, .int .i64 0] 53)
  have BR := Box.new ((w.alloc (.cells #[.int .i64 k, .int .i64 c] 53)).alloc (.cells #[.int .i64 l, .int .i64 d] 53)) (.int .i64 0) (.int .i64 0) 53
  have hW := below3 w (.cells #[.int .i64 k, .int .i64 c] 53) (.cells #[.int .i64 l, .int .i64 d] 53) (.cells #[.int .i64 0, .int .i64 0] 53)
  simp only [World.size_alloc] at BB BR
  generalize hE : ((w.alloc (.cells #[.int .i64 k, .int .i64 c] 53)).alloc (.cells #[.int .i64 l, .int .i64 d] 53)).alloc (.cells #[.int .i64 0, .int .i64 0] 53) = W at *
  have HW := Lib.hid hW
  obtain ⟨a0, a1, -, -⟩ := id BA
  clear hW
  go_enter Tryz.func52, Tryz.ntmps52
  go_wp2_with fail
  refine (HA.out _).mono ?_
  clear HA a0 a1
  rintro e w1 ⟨rfl, hb⟩
  have A1 := BA.below hb BA.lt
  have B1 := BB.below hb BB.lt
  have R1 := BR.below hb BR.lt
  have HX := Lib.hid (below_put2 (HW.out.trans (hb.mono HW.out.size)) (b := w.heap.size) (Nat.le_refl _) (.int .i64 k') (.int .i64 c'))
  have A2 := Lib.hid (A1.put (.int .i64 k') (.int .i64 c'))
  have B2 := Lib.hid (B1.other (b' := w.heap.size) (by omega) (.int .i64 k') (.int .i64 c'))
  have R2 := Lib.hid (R1.other (b' := w.heap.size) (by omega) (.int .i64 k') (.int .i64 c'))
  obtain ⟨x0, x1, f0, f1⟩ := A1
  obtain ⟨y0, y1, -, -⟩ := B1
  clear BA BB BR HW hE hb R1
  go_wp2_with fail
  generalize (w1.setCell ⟨w.heap.size, 0, none⟩ (.int .i64 k')).setCell ⟨w.heap.size, 1, none⟩ (.int .i64 c') = w2 at *
  clear x0 x1 f0 f1 y0 y1
  refine (HB.out _).mono ?_
  clear HB
  rintro e w3 ⟨rfl, hb⟩
  have A3 := A2.out.below hb A2.out.lt
  have B3 := B2.out.below hb B2.out.lt
  have R3 := R2.out.below hb R2.out.lt
  have HY := Lib.hid (below_put2 (HX.out.trans (hb.mono HX.out.size)) (b := w.heap.size + 1) (by omega) (.int .i64 l') (.int .i64 d'))
  have A4 := Lib.hid (A3.other (b' := w.heap.size + 1) (by omega) (.int .i64 l') (.int .i64 d'))
  have B4 := Lib.hid (B3.put (.int .i64 l') (.int .i64 d'))
  have R4 := Lib.hid (R3.other (b' := w.heap.size + 1) (by omega) (.int .i64 l') (.int .i64 d'))
  obtain ⟨x0, x1, -, -⟩ := A3
  obtain ⟨y0, y1, f2, f3⟩ := B3
  clear A2 B2 R2 HX hb R3
  go_wp2_with fail
  clear x0 x1 y0 y1 f2 f3
  generalize (w3.setCell ⟨w.heap.size + 1, 0, none⟩ (.int .i64 l')).setCell ⟨w.heap.size + 1, 1, none⟩ (.int .i64 d') = w4 at *
  have hS : Hid (∀ w', Below (w.heap.size + 1 + 1) w4 w' → w'.cell? ⟨w.heap.size, 0, none⟩ = some (.int .i64 k') ∧ w'.cell? ⟨w.heap.size, 1, none⟩ = some (.int .i64 c') ∧ w'.cell? ⟨w.heap.size + 1, 0, none⟩ = some (.int .i64 l') ∧ w'.cell? ⟨w.heap.size + 1, 1, none⟩ = some (.int .i64 d')) := fun W h =>
    ⟨(A4.out.below h (by omega)).c0, (A4.out.below h (by omega)).c1, (B4.out.below h (by omega)).c0, (B4.out.below h (by omega)).c1⟩
  have HBN : Hid (Below w4.heap.size w4 w4.drew) := (Below.refl _ _).drew
  have HRL := Lib.hid (Nat.le_of_lt R4.out.lt)
  clear A4 B4
  go_region_held3 (fun w' => w'.cell? ⟨w.heap.size, 0, none⟩ = some (.int .i64 k') ∧ w'.cell? ⟨w.heap.size, 1, none⟩ = some (.int .i64 c') ∧ w'.cell? ⟨w.heap.size + 1, 0, none⟩ = some (.int .i64 l') ∧ w'.cell? ⟨w.heap.size + 1, 1, none⟩ = some (.int .i64 d'))
    (first | with_reducible exact hS.out _ (HBN.out.mono HRL.out) | with_reducible exact hS.out _ HPN.out)
    (first
      | (go_at_call 87; with_reducible refine (HK.out _).mono ?_; clear HK; rintro e w5 ⟨rfl, hb⟩; have hbx := HBN.out.trans (hb.mono HBN.out.size); clear HBN hb; have HBN := Lib.hid hbx; clear hbx)
      | (go_at_call 86; with_reducible refine (HC.out _).mono ?_; clear HC; rintro e w6 ⟨rfl, hb⟩; have hbx := HBN.out.trans (hb.mono HBN.out.size); clear HBN hb; obtain ⟨z0, z1, z2, z3⟩ := R4.out.below hbx R4.out.lt; have HPN := Lib.hid (below_put2 (hbx.mono HRL.out) (b := w.heap.size + 1 + 1) (Nat.le_refl _) (.int .i64 rk) (.int .i64 rc)); have HBN := Lib.hid hbx; clear hbx R4))
  all_goals
    go_wp2_with fail
    exact bodyPost_ret (v := .agg #[.int .i64 rk, .int .i64 rc]) (by simp [results, Tryz.results52, go_sem, z0, z1]) rfl ⟨rfl, below_put2 (HY.out.trans (HBN.out.mono HY.out.size)) (b := w.heap.size + 1 + 1) (by omega) _ _⟩

set_option maxHeartbeats 4000000 in
theorem rMul_any (a b : V) (w : World) :
    Calls Tryz.prog 53 #[a.val, b.val] w fun e w' => e = .returned (mulV a b).val ∧ Below w.heap.size w w' := by
  unfold mulV
  rw [← comb_made]
  have hc := sn_c a
  have hd := sn_c b
  have HA := Lib.hid (fun W => rsn_any a W)
  have HB := Lib.hid (fun W => rsn_any b W)
  have HK := Lib.hid (fun W => kind_any a.sn b.sn W)
  have HC := Lib.hid (fun W => made_any (kindZ a.sn.k b.sn.k) (a.sn.c * b.sn.c) W)
  generalize a.sn = s at *
  generalize b.sn = t at *
  obtain ⟨k', c'⟩ := s
  obtain ⟨l', d'⟩ := t
  simp only at hc hd HC HK ⊢
  have hm := mul_in hc hd
  generalize made (kindZ k' l') (c' * d') = r at *
  generalize kindZ k' l' = q at *
  rw [← show IntKind.i64.wrap (c' * d') = c' * d' from IntWalk.i64_in _ (by omega)] at HC
  obtain ⟨k, c⟩ := a
  obtain ⟨l, d⟩ := b
  obtain ⟨rk, rc⟩ := r
  unfold V.val at HA HB HK HC ⊢
  have BA := ((Box.new w (.int .i64 k) (.int .i64 c) 53).alloc (.cells #[.int .i64 l, .int .i64 d] 53)).alloc (.cells #[.int .i64 0, .int .i64 0] 53)
  have BB := (Box.new (w.alloc (.cells #[.int .i64 k, .int .i64 c] 53)) (.int .i64 l) (.int .i64 d) 53).alloc (.cells #[.int .i64 0, .int .i64 0] 53)
  have BR := Box.new ((w.alloc (.cells #[.int .i64 k, .int .i64 c] 53)).alloc (.cells #[.int .i64 l, .int .i64 d] 53)) (.int .i64 0) (.int .i64 0) 53
  have hW := below3 w (.cells #[.int .i64 k, .int .i64 c] 53) (.cells #[.int .i64 l, .int .i64 d] 53) (.cells #[.int .i64 0, .int .i64 0] 53)
  simp only [World.size_alloc] at BB BR
  generalize hE : ((w.alloc (.cells #[.int .i64 k, .int .i64 c] 53)).alloc (.cells #[.int .i64 l, .int .i64 d] 53)).alloc (.cells #[.int .i64 0, .int .i64 0] 53) = W at *
  have HW := Lib.hid hW
  obtain ⟨a0, a1, -, -⟩ := id BA
  clear hW
  go_enter Tryz.func53, Tryz.ntmps53
  go_wp2_with fail
  refine (HA.out _).mono ?_
  clear HA a0 a1
  rintro e w1 ⟨rfl, hb⟩
  have A1 := BA.below hb BA.lt
  have B1 := BB.below hb BB.lt
  have R1 := BR.below hb BR.lt
  have HX := Lib.hid (below_put2 (HW.out.trans (hb.mono HW.out.size)) (b := w.heap.size) (Nat.le_refl _) (.int .i64 k') (.int .i64 c'))
  have A2 := Lib.hid (A1.put (.int .i64 k') (.int .i64 c'))
  have B2 := Lib.hid (B1.other (b' := w.heap.size) (by omega) (.int .i64 k') (.int .i64 c'))
  have R2 := Lib.hid (R1.other (b' := w.heap.size) (by omega) (.int .i64 k') (.int .i64 c'))
  obtain ⟨x0, x1, f0, f1⟩ := A1
  obtain ⟨y0, y1, -, -⟩ := B1
  clear BA BB BR HW hE hb R1
  go_wp2_with fail
  generalize (w1.setCell ⟨w.heap.size, 0, none⟩ (.int .i64 k')).setCell ⟨w.heap.size, 1, none⟩ (.int .i64 c') = w2 at *
  clear x0 x1 f0 f1 y0 y1
  refine (HB.out _).mono ?_
  clear HB
  rintro e w3 ⟨rfl, hb⟩
  have A3 := A2.out.below hb A2.out.lt
  have B3 := B2.out.below hb B2.out.lt
  have R3 := R2.out.below hb R2.out.lt
  have HY := Lib.hid (below_put2 (HX.out.trans (hb.mono HX.out.size)) (b := w.heap.size + 1) (by omega) (.int .i64 l') (.int .i64 d'))
  have A4 := Lib.hid (A3.other (b' := w.heap.size + 1) (by omega) (.int .i64 l') (.int .i64 d'))
  have B4 := Lib.hid (B3.put (.int .i64 l') (.int .i64 d'))
  have R4 := Lib.hid (R3.other (b' := w.heap.size + 1) (by omega) (.int .i64 l') (.int .i64 d'))
  obtain ⟨x0, x1, -, -⟩ := A3
  obtain ⟨y0, y1, f2, f3⟩ := B3
  clear A2 B2 R2 HX hb R3
  go_wp2_with fail
  clear x0 x1 y0 y1 f2 f3
  generalize (w3.setCell ⟨w.heap.size + 1, 0, none⟩ (.int .i64 l')).setCell ⟨w.heap.size + 1, 1, none⟩ (.int .i64 d') = w4 at *
  have hS : Hid (∀ w', Below (w.heap.size + 1 + 1) w4 w' → w'.cell? ⟨w.heap.size, 0, none⟩ = some (.int .i64 k') ∧ w'.cell? ⟨w.heap.size, 1, none⟩ = some (.int .i64 c') ∧ w'.cell? ⟨w.heap.size + 1, 0, none⟩ = some (.int .i64 l') ∧ w'.cell? ⟨w.heap.size + 1, 1, none⟩ = some (.int .i64 d')) := fun W h =>
    ⟨(A4.out.below h (by omega)).c0, (A4.out.below h (by omega)).c1, (B4.out.below h (by omega)).c0, (B4.out.below h (by omega)).c1⟩
  have HBN : Hid (Below w4.heap.size w4 w4.drew) := (Below.refl _ _).drew
  have HRL := Lib.hid (Nat.le_of_lt R4.out.lt)
  clear A4 B4
  go_region_held3 (fun w' => w'.cell? ⟨w.heap.size, 0, none⟩ = some (.int .i64 k') ∧ w'.cell? ⟨w.heap.size, 1, none⟩ = some (.int .i64 c') ∧ w'.cell? ⟨w.heap.size + 1, 0, none⟩ = some (.int .i64 l') ∧ w'.cell? ⟨w.heap.size + 1, 1, none⟩ = some (.int .i64 d'))
    (first | with_reducible exact hS.out _ (HBN.out.mono HRL.out) | with_reducible exact hS.out _ HPN.out)
    (first
      | (go_at_call 87; with_reducible refine (HK.out _).mono ?_; clear HK; rintro e w5 ⟨rfl, hb⟩; have hbx := HBN.out.trans (hb.mono HBN.out.size); clear HBN hb; have HBN := Lib.hid hbx; clear hbx)
      | (go_at_call 86; with_reducible refine (HC.out _).mono ?_; clear HC; rintro e w6 ⟨rfl, hb⟩; have hbx := HBN.out.trans (hb.mono HBN.out.size); clear HBN hb; obtain ⟨z0, z1, z2, z3⟩ := R4.out.below hbx R4.out.lt; have HPN := Lib.hid (below_put2 (hbx.mono HRL.out) (b := w.heap.size + 1 + 1) (Nat.le_refl _) (.int .i64 rk) (.int .i64 rc)); have HBN := Lib.hid hbx; clear hbx R4))
  all_goals
    go_wp2_with fail
    exact bodyPost_ret (v := .agg #[.int .i64 rk, .int .i64 rc]) (by simp [results, Tryz.results53, go_sem, z0, z1]) rfl ⟨rfl, below_put2 (HY.out.trans (HBN.out.mono HY.out.size)) (b := w.heap.size + 1 + 1) (by omega) _ _⟩
end Go.Proofs.YtmcbedlmgffckaaGreatDoor
