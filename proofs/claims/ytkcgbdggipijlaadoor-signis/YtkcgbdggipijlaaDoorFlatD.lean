import Derived.Test.YtkcgbdggipijlaaDoorFlatC
namespace Go.Proofs.YtkcgbdggipijlaaDoor
open Go Go.RowKit Go.Sort

set_option maxHeartbeats 4000000 in
theorem combA_any (a b : V) (w : World) :
    Calls Tryd.prog 51 #[a.val, b.val, .func (Fn.func 50) #[] #[]] w fun e w' => e = .returned (comb (fun x y => x + y) a b).val ∧ Below w.heap.size w w' := by
  have hca := sn_c a
  have hcb := sn_c b
  have HF := Lib.hid (fun W => sum_any a.sn.c b.sn.c W hca hcb)
  have HO := Lib.hid (fun W => Of_any (a.sn.c + b.sn.c) W)
  have hka := sn_k a
  have hkb := sn_k b
  unfold comb
  have HA := Lib.hid (fun W => sn_any a W)
  have HB := Lib.hid (fun W => sn_any b W)
  clear hca hcb
  generalize a.sn = a' at *
  generalize b.sn = b' at *
  obtain ⟨k, c⟩ := a
  obtain ⟨l, d⟩ := b
  obtain ⟨k', c'⟩ := a'
  obtain ⟨l', d'⟩ := b'
  obtain ⟨q, hq⟩ : ∃ q, (if k' = 0 ∨ l' = 0 then vbot else if k' = 2 ∨ l' = 2 then vtop else vone (c' + d')) = q := ⟨_, rfl⟩
  have HQ := Lib.hid hq
  have HK := Lib.hid (And.intro hka hkb)
  simp only at HF HO
  rw [hq]
  clear hq hka hkb
  unfold V.val at HA HB HO ⊢
  have BA := ((Box.new w (.int .i64 k) (.int .i64 c) 33).alloc (.cells #[.int .i64 l, .int .i64 d] 33)).alloc (.cells #[.int .i64 0, .int .i64 0] 33)
  have BB := (Box.new (w.alloc (.cells #[.int .i64 k, .int .i64 c] 33)) (.int .i64 l) (.int .i64 d) 33).alloc (.cells #[.int .i64 0, .int .i64 0] 33)
  have BR := Box.new ((w.alloc (.cells #[.int .i64 k, .int .i64 c] 33)).alloc (.cells #[.int .i64 l, .int .i64 d] 33)) (.int .i64 0) (.int .i64 0) 33
  have hW := below3 w (.cells #[.int .i64 k, .int .i64 c] 33) (.cells #[.int .i64 l, .int .i64 d] 33) (.cells #[.int .i64 0, .int .i64 0] 33)
  simp only [World.size_alloc] at BB BR
  generalize hE : ((w.alloc (.cells #[.int .i64 k, .int .i64 c] 33)).alloc (.cells #[.int .i64 l, .int .i64 d] 33)).alloc (.cells #[.int .i64 0, .int .i64 0] 33) = W at *
  have BA := BA.drew
  have BB := BB.drew
  have BR := BR.drew
  have HW := Lib.hid hW.drew
  obtain ⟨a0, a1, a2, a3⟩ := id BA
  obtain ⟨b0, b1, b2, b3⟩ := id BB
  clear hW
  go_enter Tryd.func51, Tryd.ntmps51
  go_upto_region 1 with fail
  go_cut [] (fun wx => Box wx w.heap.size (.int .i64 k') (.int .i64 c') ∧ Box wx (w.heap.size + 1) (.int .i64 l') (.int .i64 d') ∧ Box wx (w.heap.size + 1 + 1) (.int .i64 0) (.int .i64 0) ∧ Below w.heap.size w wx)
  case first =>
    clear HF HO HQ HK hE
    have tok1 : True := trivial
    have tok2 : True := trivial
    go_region_with (first
      | (have _t := tok1; go_at_call 49; refine (HA.out _).mono ?_; clear HA _t tok1; rintro e w1 ⟨rfl, hb⟩; have BB1 := BB.below hb BB.lt; have BA1 := BA.below hb BA.lt; have BR1 := BR.below hb BR.lt; obtain ⟨b01, b11, b21, b31⟩ := id BB1; have HBW := Lib.hid (HW.out.trans (hb.mono HW.out.size)); clear hb BA BB BR)
      | (have _t := tok2; go_at_call 49; refine (HB.out _).mono ?_; clear HB _t tok2; rintro e w2 ⟨rfl, hb⟩; have BB2 := BB1.below hb BB1.lt; have BA2 := BA1.below hb BA1.lt; have BR2 := BR1.below hb BR1.lt; obtain ⟨b02, b12, b22, b32⟩ := id BB2; obtain ⟨a02, a12, a22, a32⟩ := id BA2; have HBW2 := Lib.hid (HBW.out.trans (hb.mono HBW.out.size)); clear hb))
    all_goals
      go_wp2_with fail
      go_meet
      have HP := below_put2 (below_put2 HBW2.out (b := w.heap.size) (Nat.le_refl _) (.int .i64 k') (.int .i64 c')) (b := w.heap.size + 1) (by omega) (.int .i64 l') (.int .i64 d')
      exact ⟨(BA2.put _ _).other (by omega) _ _, (BB2.other (by omega) _ _).put _ _, (BR2.other (by omega) _ _).other (by omega) _ _, HP⟩
  case rest =>
    obtain ⟨A, B, R, hB⟩ := hcut
    have HW := Lib.hid hB
    clear hE HA HB BA BB BR a0 a1 a2 a3 b0 b1 b2 b3 hB
    obtain ⟨x0, x1, -, -⟩ := id A
    obtain ⟨y0, y1, -, -⟩ := id B
    by_cases hk0 : k' = 0
    · subst hk0
      obtain rfl : vbot = q := by rw [← HQ.out, if_pos (.inl rfl)]
      obtain ⟨z0, z1, z2, z3⟩ := id R
      clear HF HO HQ HK
      go_wp2_with fail
      exact bodyPost_ret (v := .agg #[.int .i64 0, .int .i64 0]) (by simp [results, Tryd.results51, go_sem, z0, z1]) rfl ⟨rfl, below_put2 HW.out (b := w.heap.size + 1 + 1) (by omega) _ _⟩
    have d0 : (k' == 0) = false := by simpa using hk0
    by_cases hl0 : l' = 0
    · subst hl0
      obtain rfl : vbot = q := by rw [← HQ.out, if_pos (.inr rfl)]
      obtain ⟨z0, z1, z2, z3⟩ := id R
      clear HF HO HQ HK hk0
      go_wp2_with fail
      exact bodyPost_ret (v := .agg #[.int .i64 0, .int .i64 0]) (by simp [results, Tryd.results51, go_sem, z0, z1]) rfl ⟨rfl, below_put2 HW.out (b := w.heap.size + 1 + 1) (by omega) _ _⟩
    have d1 : (l' == 0) = false := by simpa using hl0
    have HQ2 := Lib.hid (HQ.out.symm.trans (if_neg (fun h => h.elim hk0 hl0)))
    by_cases hk2 : k' = 2
    · subst hk2
      obtain rfl : vtop = q := by rw [HQ2.out, if_pos (.inl rfl)]
      obtain ⟨z0, z1, z2, z3⟩ := id R
      clear HF HO HQ HQ2 HK hk0 hl0
      go_wp2_with fail
      exact bodyPost_ret (v := .agg #[.int .i64 2, .int .i64 0]) (by simp [results, Tryd.results51, go_sem, z0, z1]) rfl ⟨rfl, below_put2 HW.out (b := w.heap.size + 1 + 1) (by omega) _ _⟩
    have d2 : (k' == 2) = false := by simpa using hk2
    by_cases hl2 : l' = 2
    · subst hl2
      obtain rfl : vtop = q := by rw [HQ2.out, if_pos (.inr rfl)]
      obtain ⟨z0, z1, z2, z3⟩ := id R
      clear HF HO HQ HQ2 HK hk0 hl0 hk2
      go_wp2_with fail
      exact bodyPost_ret (v := .agg #[.int .i64 2, .int .i64 0]) (by simp [results, Tryd.results51, go_sem, z0, z1]) rfl ⟨rfl, below_put2 HW.out (b := w.heap.size + 1 + 1) (by omega) _ _⟩
    have d3 : (l' == 2) = false := by simpa using hl2
    obtain rfl : vone (c' + d') = q := by rw [HQ2.out, if_neg (fun h => h.elim hk2 hl2)]
    clear HQ HQ2 HK hk0 hl0 hk2 hl2
    go_wp2_with (first
      | (go_at_call 50; refine (HF.out _).mono ?_; clear HF x0 x1 y0 y1; rintro e w1 ⟨rfl, hb⟩; have R1 := R.below hb R.lt; have HX := Lib.hid (HW.out.trans (hb.mono HW.out.size)); clear hb A B R HW)
      | (go_at_call 33; refine (HO.out _).mono ?_; clear HO; rintro e w2 ⟨rfl, hb⟩; obtain ⟨z0, z1, z2, z3⟩ := R1.below hb R1.lt; have HY := Lib.hid (HX.out.trans (hb.mono HX.out.size)); clear hb R1 HX))
    exact bodyPost_ret (v := .agg #[.int .i64 1, .int .i64 (w32 (c' + d'))]) (by simp [results, Tryd.results51, go_sem, z0, z1, vone]) rfl ⟨rfl, below_put2 HY.out (b := w.heap.size + 1 + 1) (by omega) _ _⟩

set_option maxHeartbeats 4000000 in
theorem combS_any (a b : V) (w : World) :
    Calls Tryd.prog 51 #[a.val, b.val, .func (Fn.func 52) #[] #[]] w fun e w' => e = .returned (comb (fun x y => x - y) a b).val ∧ Below w.heap.size w w' := by
  have hca := sn_c a
  have hcb := sn_c b
  have HF := Lib.hid (fun W => difference_any a.sn.c b.sn.c W hca hcb)
  have HO := Lib.hid (fun W => Of_any (a.sn.c - b.sn.c) W)
  have hka := sn_k a
  have hkb := sn_k b
  unfold comb
  have HA := Lib.hid (fun W => sn_any a W)
  have HB := Lib.hid (fun W => sn_any b W)
  clear hca hcb
  generalize a.sn = a' at *
  generalize b.sn = b' at *
  obtain ⟨k, c⟩ := a
  obtain ⟨l, d⟩ := b
  obtain ⟨k', c'⟩ := a'
  obtain ⟨l', d'⟩ := b'
  obtain ⟨q, hq⟩ : ∃ q, (if k' = 0 ∨ l' = 0 then vbot else if k' = 2 ∨ l' = 2 then vtop else vone (c' - d')) = q := ⟨_, rfl⟩
  have HQ := Lib.hid hq
  have HK := Lib.hid (And.intro hka hkb)
  simp only at HF HO
  rw [hq]
  clear hq hka hkb
  unfold V.val at HA HB HO ⊢
  have BA := ((Box.new w (.int .i64 k) (.int .i64 c) 33).alloc (.cells #[.int .i64 l, .int .i64 d] 33)).alloc (.cells #[.int .i64 0, .int .i64 0] 33)
  have BB := (Box.new (w.alloc (.cells #[.int .i64 k, .int .i64 c] 33)) (.int .i64 l) (.int .i64 d) 33).alloc (.cells #[.int .i64 0, .int .i64 0] 33)
  have BR := Box.new ((w.alloc (.cells #[.int .i64 k, .int .i64 c] 33)).alloc (.cells #[.int .i64 l, .int .i64 d] 33)) (.int .i64 0) (.int .i64 0) 33
  have hW := below3 w (.cells #[.int .i64 k, .int .i64 c] 33) (.cells #[.int .i64 l, .int .i64 d] 33) (.cells #[.int .i64 0, .int .i64 0] 33)
  simp only [World.size_alloc] at BB BR
  generalize hE : ((w.alloc (.cells #[.int .i64 k, .int .i64 c] 33)).alloc (.cells #[.int .i64 l, .int .i64 d] 33)).alloc (.cells #[.int .i64 0, .int .i64 0] 33) = W at *
  have BA := BA.drew
  have BB := BB.drew
  have BR := BR.drew
  have HW := Lib.hid hW.drew
  obtain ⟨a0, a1, a2, a3⟩ := id BA
  obtain ⟨b0, b1, b2, b3⟩ := id BB
  clear hW
  go_enter Tryd.func51, Tryd.ntmps51
  go_upto_region 1 with fail
  go_cut [] (fun wx => Box wx w.heap.size (.int .i64 k') (.int .i64 c') ∧ Box wx (w.heap.size + 1) (.int .i64 l') (.int .i64 d') ∧ Box wx (w.heap.size + 1 + 1) (.int .i64 0) (.int .i64 0) ∧ Below w.heap.size w wx)
  case first =>
    clear HF HO HQ HK hE
    have tok1 : True := trivial
    have tok2 : True := trivial
    go_region_with (first
      | (have _t := tok1; go_at_call 49; refine (HA.out _).mono ?_; clear HA _t tok1; rintro e w1 ⟨rfl, hb⟩; have BB1 := BB.below hb BB.lt; have BA1 := BA.below hb BA.lt; have BR1 := BR.below hb BR.lt; obtain ⟨b01, b11, b21, b31⟩ := id BB1; have HBW := Lib.hid (HW.out.trans (hb.mono HW.out.size)); clear hb BA BB BR)
      | (have _t := tok2; go_at_call 49; refine (HB.out _).mono ?_; clear HB _t tok2; rintro e w2 ⟨rfl, hb⟩; have BB2 := BB1.below hb BB1.lt; have BA2 := BA1.below hb BA1.lt; have BR2 := BR1.below hb BR1.lt; obtain ⟨b02, b12, b22, b32⟩ := id BB2; obtain ⟨a02, a12, a22, a32⟩ := id BA2; have HBW2 := Lib.hid (HBW.out.trans (hb.mono HBW.out.size)); clear hb))
    all_goals
      go_wp2_with fail
      go_meet
      have HP := below_put2 (below_put2 HBW2.out (b := w.heap.size) (Nat.le_refl _) (.int .i64 k') (.int .i64 c')) (b := w.heap.size + 1) (by omega) (.int .i64 l') (.int .i64 d')
      exact ⟨(BA2.put _ _).other (by omega) _ _, (BB2.other (by omega) _ _).put _ _, (BR2.other (by omega) _ _).other (by omega) _ _, HP⟩
  case rest =>
    obtain ⟨A, B, R, hB⟩ := hcut
    have HW := Lib.hid hB
    clear hE HA HB BA BB BR a0 a1 a2 a3 b0 b1 b2 b3 hB
    obtain ⟨x0, x1, -, -⟩ := id A
    obtain ⟨y0, y1, -, -⟩ := id B
    by_cases hk0 : k' = 0
    · subst hk0
      obtain rfl : vbot = q := by rw [← HQ.out, if_pos (.inl rfl)]
      obtain ⟨z0, z1, z2, z3⟩ := id R
      clear HF HO HQ HK
      go_wp2_with fail
      exact bodyPost_ret (v := .agg #[.int .i64 0, .int .i64 0]) (by simp [results, Tryd.results51, go_sem, z0, z1]) rfl ⟨rfl, below_put2 HW.out (b := w.heap.size + 1 + 1) (by omega) _ _⟩
    have d0 : (k' == 0) = false := by simpa using hk0
    by_cases hl0 : l' = 0
    · subst hl0
      obtain rfl : vbot = q := by rw [← HQ.out, if_pos (.inr rfl)]
      obtain ⟨z0, z1, z2, z3⟩ := id R
      clear HF HO HQ HK hk0
      go_wp2_with fail
      exact bodyPost_ret (v := .agg #[.int .i64 0, .int .i64 0]) (by simp [results, Tryd.results51, go_sem, z0, z1]) rfl ⟨rfl, below_put2 HW.out (b := w.heap.size + 1 + 1) (by omega) _ _⟩
    have d1 : (l' == 0) = false := by simpa using hl0
    have HQ2 := Lib.hid (HQ.out.symm.trans (if_neg (fun h => h.elim hk0 hl0)))
    by_cases hk2 : k' = 2
    · subst hk2
      obtain rfl : vtop = q := by rw [HQ2.out, if_pos (.inl rfl)]
      obtain ⟨z0, z1, z2, z3⟩ := id R
      clear HF HO HQ HQ2 HK hk0 hl0
      go_wp2_with fail
      exact bodyPost_ret (v := .agg #[.int .i64 2, .int .i64 0]) (by simp [results, Tryd.results51, go_sem, z0, z1]) rfl ⟨rfl, below_put2 HW.out (b := w.heap.size + 1 + 1) (by omega) _ _⟩
    have d2 : (k' == 2) = false := by simpa using hk2
    by_cases hl2 : l' = 2
    · subst hl2
      obtain rfl : vtop = q := by rw [HQ2.out, if_pos (.inr rfl)]
      obtain ⟨z0, z1, z2, z3⟩ := id R
      clear HF HO HQ HQ2 HK hk0 hl0 hk2
      go_wp2_with fail
      exact bodyPost_ret (v := .agg #[.int .i64 2, .int .i64 0]) (by simp [results, Tryd.results51, go_sem, z0, z1]) rfl ⟨rfl, below_put2 HW.out (b := w.heap.size + 1 + 1) (by omega) _ _⟩
    have d3 : (l' == 2) = false := by simpa using hl2
    obtain rfl : vone (c' - d') = q := by rw [HQ2.out, if_neg (fun h => h.elim hk2 hl2)]
    clear HQ HQ2 HK hk0 hl0 hk2 hl2
    go_wp2_with (first
      | (go_at_call 52; refine (HF.out _).mono ?_; clear HF x0 x1 y0 y1; rintro e w1 ⟨rfl, hb⟩; have R1 := R.below hb R.lt; have HX := Lib.hid (HW.out.trans (hb.mono HW.out.size)); clear hb A B R HW)
      | (go_at_call 33; refine (HO.out _).mono ?_; clear HO; rintro e w2 ⟨rfl, hb⟩; obtain ⟨z0, z1, z2, z3⟩ := R1.below hb R1.lt; have HY := Lib.hid (HX.out.trans (hb.mono HX.out.size)); clear hb R1 HX))
    exact bodyPost_ret (v := .agg #[.int .i64 1, .int .i64 (w32 (c' - d'))]) (by simp [results, Tryd.results51, go_sem, z0, z1, vone]) rfl ⟨rfl, below_put2 HY.out (b := w.heap.size + 1 + 1) (by omega) _ _⟩

end Go.Proofs.YtkcgbdggipijlaaDoor