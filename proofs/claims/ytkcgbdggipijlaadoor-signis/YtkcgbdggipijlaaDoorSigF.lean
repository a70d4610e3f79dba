import Derived.Test.YtkcgbdggipijlaaDoorSigE
import Derived.Test.YtkcgbdggipijlaaDoorFlatE
namespace Go.Proofs.YtkcgbdggipijlaaDoor
open Go Go.RowKit Go.Sort

/-- Signs of a value. -/
def fromV (v : V) : Nat := if v.sn.k = 2 then 7 else if v.sn.k = 0 then 0 else sg v.sn.c
theorem fromV_lt (v : V) : fromV v < 8 := by
  unfold fromV
  split
  · decide
  · split
    · decide
    · exact sg_lt _

set_option maxHeartbeats 1000000 in
theorem hAdd_any (a b : Int) (w : World) :
    Calls Tryd.prog 26 #[.int .i64 a, .int .i64 b] w fun e w' => e = .returned (.int .i64 (addN (sS a) (sS b) : Nat)) ∧ Below w.heap.size w w' := by
  have HA := Lib.hid (fun W => pairs_add a b W)
  have HBN : Hid (Below w.heap.size w w) := Below.refl _ _
  go_enter Tryd.func26, Tryd.ntmps26
  go_wp2_with (go_at_call 43; refine (HA.out _).mono ?_; rintro e wn ⟨rfl, hbn⟩; have hbx := HBN.out.trans (hbn.mono HBN.out.size); clear HBN hbn; have HBN := Lib.hid hbx; clear hbx)
  go_ret
  exact ⟨rfl, HBN.out⟩

set_option maxHeartbeats 1000000 in
theorem hMul_any (a b : Int) (w : World) :
    Calls Tryd.prog 30 #[.int .i64 a, .int .i64 b] w fun e w' => e = .returned (.int .i64 (mulN (sS a) (sS b) : Nat)) ∧ Below w.heap.size w w' := by
  have HA := Lib.hid (fun W => pairs_mul a b W)
  have HBN : Hid (Below w.heap.size w w) := Below.refl _ _
  go_enter Tryd.func30, Tryd.ntmps30
  go_wp2_with (go_at_call 43; refine (HA.out _).mono ?_; rintro e wn ⟨rfl, hbn⟩; have hbx := HBN.out.trans (hbn.mono HBN.out.size); clear HBN hbn; have HBN := Lib.hid hbx; clear hbx)
  go_ret
  exact ⟨rfl, HBN.out⟩

set_option maxHeartbeats 1000000 in
theorem hSub_any (a b : Int) (w : World) :
    Calls Tryd.prog 28 #[.int .i64 a, .int .i64 b] w fun e w' => e = .returned (.int .i64 (subN (sS a) (sS b) : Nat)) ∧ Below w.heap.size w w' := by
  have HA := Lib.hid (fun W => hNeg_any b W)
  have HB : Hid (∀ W, Calls Tryd.prog 43 #[.int .i64 a, .int .i64 (negN (sS b) : Nat), .bool false] W fun e w' => e = .returned (.int .i64 (subN (sS a) (sS b) : Nat)) ∧ Below W.heap.size W w') := fun W => by
    have h := pairs_add a (negN (sS b) : Nat) W
    rw [sS_of (negN_lt (sS_lt b))] at h
    exact h
  have HBN : Hid (Below w.heap.size w w) := Below.refl _ _
  generalize negN (sS b) = z at *
  generalize subN (sS a) (sS b) = r at *
  go_enter Tryd.func28, Tryd.ntmps28
  go_wp2_with (first
    | (go_at_call 24; refine (HA.out _).mono ?_; rintro e wn ⟨rfl, hbn⟩; have hbx := HBN.out.trans (hbn.mono HBN.out.size); clear HBN hbn; have HBN := Lib.hid hbx; clear hbx)
    | (go_at_call 43; refine (HB.out _).mono ?_; rintro e wn ⟨rfl, hbn⟩; have hbx := HBN.out.trans (hbn.mono HBN.out.size); clear HBN hbn; have HBN := Lib.hid hbx; clear hbx))
  go_ret
  exact ⟨rfl, HBN.out⟩

set_option maxHeartbeats 2000000 in
theorem gFrom_any (v : V) (w : World) :
    Calls Tryd.prog 31 #[v.val] w fun e w' => e = .returned (.int .i64 (fromV v : Nat)) ∧ Below w.heap.size w w' := by
  have HC := Lib.hid (fun W => Sane_any v W)
  have HO := Lib.hid (fun W => gOf_any v.c W)
  have key : (¬ v.sane ∧ fromV v = 7) ∨ (v = ⟨0, 0⟩ ∧ fromV v = 0) ∨ (v = ⟨2, 0⟩ ∧ fromV v = 7) ∨ (∃ n, v = ⟨1, n⟩ ∧ fromV v = sg n) := by
    by_cases hs : v.sane
    · rcases V.cases hs with h | h | ⟨n, _, _, h⟩
      · exact .inr (.inl ⟨h, by subst h; rfl⟩)
      · exact .inr (.inr (.inl ⟨h, by subst h; rfl⟩))
      · exact .inr (.inr (.inr ⟨n, h, by unfold fromV; rw [sn_of hs, h]; rfl⟩))
    · exact .inl ⟨hs, by unfold fromV V.sn; rw [if_neg hs]; rfl⟩
  have hsane : (v = ⟨0, 0⟩ ∨ v = ⟨2, 0⟩) → decide v.sane = true := by rintro (rfl | rfl) <;> rfl
  by_cases hs : v.sane
  · rw [decide_eq_true hs] at HC
    rcases key with ⟨h, -⟩ | ⟨h, he⟩ | ⟨h, he⟩ | ⟨n, h, he⟩
    · exact absurd hs h
    · rw [he]
      subst h
      clear hs he hsane
      unfold V.val at HC ⊢
      have B0 := Box.new w (.int .i64 0) (.int .i64 0) 33
      have hW := below1 w (.cells #[.int .i64 0, .int .i64 0] 33)
      generalize hE : w.alloc (.cells #[.int .i64 0, .int .i64 0] 33) = W at *
      have HW := Lib.hid hW
      obtain ⟨c0, c1, -, -⟩ := id B0
      clear hW
      go_enter Tryd.func31, Tryd.ntmps31
      go_wp2_with (first
        | (go_at_call 45; refine (HC.out _).mono ?_; clear HC c0 c1; rintro e w1 ⟨rfl, hb⟩; obtain ⟨d0, d1, -, -⟩ := B0.below hb B0.lt; have HB := Lib.hid (HW.out.trans (hb.mono HW.out.size)); clear hb B0)
        | (go_at_call 12; refine (HO.out _).mono ?_; clear HO; rintro e w2 ⟨rfl, hb⟩; have HB2 := Lib.hid (HB.out.trans (hb.mono HB.out.size)); clear hb))
      go_ret
      exact ⟨rfl, HB.out⟩
    · rw [he]
      subst h
      clear hs he hsane
      unfold V.val at HC ⊢
      have B0 := Box.new w (.int .i64 2) (.int .i64 0) 33
      have hW := below1 w (.cells #[.int .i64 2, .int .i64 0] 33)
      generalize hE : w.alloc (.cells #[.int .i64 2, .int .i64 0] 33) = W at *
      have HW := Lib.hid hW
      obtain ⟨c0, c1, -, -⟩ := id B0
      clear hW
      go_enter Tryd.func31, Tryd.ntmps31
      go_wp2_with (first
        | (go_at_call 45; refine (HC.out _).mono ?_; clear HC c0 c1; rintro e w1 ⟨rfl, hb⟩; obtain ⟨d0, d1, -, -⟩ := B0.below hb B0.lt; have HB := Lib.hid (HW.out.trans (hb.mono HW.out.size)); clear hb B0)
        | (go_at_call 12; refine (HO.out _).mono ?_; clear HO; rintro e w2 ⟨rfl, hb⟩; have HB2 := Lib.hid (HB.out.trans (hb.mono HB.out.size)); clear hb))
      go_ret
      exact ⟨rfl, HB.out⟩
    · rw [he]
      subst h
      clear hs he hsane
      simp only at HO
      generalize sg n = gn at *
      unfold V.val at HC ⊢
      have B0 := Box.new w (.int .i64 1) (.int .i64 n) 33
      have hW := below1 w (.cells #[.int .i64 1, .int .i64 n] 33)
      generalize hE : w.alloc (.cells #[.int .i64 1, .int .i64 n] 33) = W at *
      have HW := Lib.hid hW
      obtain ⟨c0, c1, -, -⟩ := id B0
      clear hW
      go_enter Tryd.func31, Tryd.ntmps31
      go_wp2_with (first
        | (go_at_call 45; refine (HC.out _).mono ?_; clear HC c0 c1; rintro e w1 ⟨rfl, hb⟩; obtain ⟨d0, d1, -, -⟩ := B0.below hb B0.lt; have HB := Lib.hid (HW.out.trans (hb.mono HW.out.size)); clear hb B0)
        | (go_at_call 12; refine (HO.out _).mono ?_; clear HO; rintro e w2 ⟨rfl, hb⟩; have HB2 := Lib.hid (HB.out.trans (hb.mono HB.out.size)); clear hb))
      go_ret
      exact ⟨rfl, HB2.out⟩
  · rw [decide_eq_false hs] at HC
    have he : fromV v = 7 := by
      rcases key with ⟨_, he⟩ | ⟨h, he⟩ | ⟨h, he⟩ | ⟨n, h, he⟩
      · exact he
      · exact absurd (of_decide_eq_true (hsane (.inl h))) hs
      · exact he
      · unfold fromV V.sn; rw [if_neg hs]; rfl
    rw [he]
    clear key hs he hsane HO
    obtain ⟨k, c⟩ := v
    unfold V.val at HC ⊢
    have B0 := Box.new w (.int .i64 k) (.int .i64 c) 33
    have hW := below1 w (.cells #[.int .i64 k, .int .i64 c] 33)
    generalize hE : w.alloc (.cells #[.int .i64 k, .int .i64 c] 33) = W at *
    have HW := Lib.hid hW
    obtain ⟨c0, c1, -, -⟩ := id B0
    clear hW
    go_enter Tryd.func31, Tryd.ntmps31
    go_wp2_with (first
      | (go_at_call 45; refine (HC.out _).mono ?_; clear HC c0 c1; rintro e w1 ⟨rfl, hb⟩; obtain ⟨d0, d1, -, -⟩ := B0.below hb B0.lt; have HB := Lib.hid (HW.out.trans (hb.mono HW.out.size)); clear hb B0)
      | (go_at_call 12; refine (HO.out _).mono ?_; clear HO; rintro e w2 ⟨rfl, hb⟩; have HB2 := Lib.hid (HB.out.trans (hb.mono HB.out.size)); clear hb))
    go_ret
    exact ⟨rfl, HB.out⟩

set_option maxHeartbeats 2000000 in
theorem hFrom_any (v : V) (w : World) :
    Calls Tryd.prog 32 #[v.val] w fun e w' => e = .returned (.int .i64 (fromV v : Nat)) ∧ Below w.heap.size w w' := by
  have HC := Lib.hid (fun W => rSane_any v W)
  have HO := Lib.hid (fun W => hOf_any v.c W)
  have key : (¬ v.sane ∧ fromV v = 7) ∨ (v = ⟨0, 0⟩ ∧ fromV v = 0) ∨ (v = ⟨2, 0⟩ ∧ fromV v = 7) ∨ (∃ n, v = ⟨1, n⟩ ∧ fromV v = sg n) := by
    by_cases hs : v.sane
    · rcases V.cases hs with h | h | ⟨n, _, _, h⟩
      · exact .inr (.inl ⟨h, by subst h; rfl⟩)
      · exact .inr (.inr (.inl ⟨h, by subst h; rfl⟩))
      · exact .inr (.inr (.inr ⟨n, h, by unfold fromV; rw [sn_of hs, h]; rfl⟩))
    · exact .inl ⟨hs, by unfold fromV V.sn; rw [if_neg hs]; rfl⟩
  have hsane : (v = ⟨0, 0⟩ ∨ v = ⟨2, 0⟩) → decide v.sane = true := by rintro (rfl | rfl) <;> rfl
  by_cases hs : v.sane
  · rw [decide_eq_true hs] at HC
    rcases key with ⟨h, -⟩ | ⟨h, he⟩ | ⟨h, he⟩ | ⟨n, h, he⟩
    · exact absurd hs h
    · rw [he]
      subst h
      clear hs he hsane
      unfold V.val at HC ⊢
      have B0 := Box.new w (.int .i64 0) (.int .i64 0) 23
      have hW := below1 w (.cells #[.int .i64 0, .int .i64 0] 23)
      generalize hE : w.alloc (.cells #[.int .i64 0, .int .i64 0] 23) = W at *
      have HW := Lib.hid hW
      obtain ⟨c0, c1, -, -⟩ := id B0
      clear hW
      go_enter Tryd.func32, Tryd.ntmps32
      go_wp2_with (first
        | (go_at_call 46; refine (HC.out _).mono ?_; clear HC c0 c1; rintro e w1 ⟨rfl, hb⟩; obtain ⟨d0, d1, -, -⟩ := B0.below hb B0.lt; have HB := Lib.hid (HW.out.trans (hb.mono HW.out.size)); clear hb B0)
        | (go_at_call 13; refine (HO.out _).mono ?_; clear HO; rintro e w2 ⟨rfl, hb⟩; have HB2 := Lib.hid (HB.out.trans (hb.mono HB.out.size)); clear hb))
      go_ret
      exact ⟨rfl, HB.out⟩
    · rw [he]
      subst h
      clear hs he hsane
      unfold V.val at HC ⊢
      have B0 := Box.new w (.int .i64 2) (.int .i64 0) 23
      have hW := below1 w (.cells #[.int .i64 2, .int .i64 0] 23)
      generalize hE : w.alloc (.cells #[.int .i64 2, .int .i64 0] 23) = W at *
      have HW := Lib.hid hW
      obtain ⟨c0, c1, -, -⟩ := id B0
      clear hW
      go_enter Tryd.func32, Tryd.ntmps32
      go_wp2_with (first
        | (go_at_call 46; refine (HC.out _).mono ?_; clear HC c0 c1; rintro e w1 ⟨rfl, hb⟩; obtain ⟨d0, d1, -, -⟩ := B0.below hb B0.lt; have HB := Lib.hid (HW.out.trans (hb.mono HW.out.size)); clear hb B0)
        | (go_at_call 13; refine (HO.out _).mono ?_; clear HO; rintro e w2 ⟨rfl, hb⟩; have HB2 := Lib.hid (HB.out.trans (hb.mono HB.out.size)); clear hb))
      go_ret
      exact ⟨rfl, HB.out⟩
    · rw [he]
      subst h
      clear hs he hsane
      simp only at HO
      generalize sg n = gn at *
      unfold V.val at HC ⊢
      have B0 := Box.new w (.int .i64 1) (.int .i64 n) 23
      have hW := below1 w (.cells #[.int .i64 1, .int .i64 n] 23)
      generalize hE : w.alloc (.cells #[.int .i64 1, .int .i64 n] 23) = W at *
      have HW := Lib.hid hW
      obtain ⟨c0, c1, -, -⟩ := id B0
      clear hW
      go_enter Tryd.func32, Tryd.ntmps32
      go_wp2_with (first
        | (go_at_call 46; refine (HC.out _).mono ?_; clear HC c0 c1; rintro e w1 ⟨rfl, hb⟩; obtain ⟨d0, d1, -, -⟩ := B0.below hb B0.lt; have HB := Lib.hid (HW.out.trans (hb.mono HW.out.size)); clear hb B0)
        | (go_at_call 13; refine (HO.out _).mono ?_; clear HO; rintro e w2 ⟨rfl, hb⟩; have HB2 := Lib.hid (HB.out.trans (hb.mono HB.out.size)); clear hb))
      go_ret
      exact ⟨rfl, HB2.out⟩
  · rw [decide_eq_false hs] at HC
    have he : fromV v = 7 := by
      rcases key with ⟨_, he⟩ | ⟨h, he⟩ | ⟨h, he⟩ | ⟨n, h, he⟩
      · exact he
      · exact absurd (of_decide_eq_true (hsane (.inl h))) hs
      · exact he
      · unfold fromV V.sn; rw [if_neg hs]; rfl
    rw [he]
    clear key hs he hsane HO
    obtain ⟨k, c⟩ := v
    unfold V.val at HC ⊢
    have B0 := Box.new w (.int .i64 k) (.int .i64 c) 23
    have hW := below1 w (.cells #[.int .i64 k, .int .i64 c] 23)
    generalize hE : w.alloc (.cells #[.int .i64 k, .int .i64 c] 23) = W at *
    have HW := Lib.hid hW
    obtain ⟨c0, c1, -, -⟩ := id B0
    clear hW
    go_enter Tryd.func32, Tryd.ntmps32
    go_wp2_with (first
      | (go_at_call 46; refine (HC.out _).mono ?_; clear HC c0 c1; rintro e w1 ⟨rfl, hb⟩; obtain ⟨d0, d1, -, -⟩ := B0.below hb B0.lt; have HB := Lib.hid (HW.out.trans (hb.mono HW.out.size)); clear hb B0)
      | (go_at_call 13; refine (HO.out _).mono ?_; clear HO; rintro e w2 ⟨rfl, hb⟩; have HB2 := Lib.hid (HB.out.trans (hb.mono HB.out.size)); clear hb))
    go_ret
    exact ⟨rfl, HB.out⟩

set_option maxHeartbeats 1000000 in
theorem gawake_any (w : World) (hT : Tabs w) :
    Calls Tryd.prog 9 #[] w fun e w' => e = .returned (.bool true) ∧ Below w.heap.size w w' := by
  have H1 : Hid (∀ W, Below w.heap.size w W → Calls Tryd.prog 25 #[.int .i64 4, .int .i64 1] W fun e w' => e = .returned (.int .i64 7) ∧ Below W.heap.size W w') := fun W hW => gAdd_any 4 1 W (hT.on hW)
  have H2 : Hid (∀ W, Below w.heap.size w W → Calls Tryd.prog 29 #[.int .i64 4, .int .i64 1] W fun e w' => e = .returned (.int .i64 1) ∧ Below W.heap.size W w') := fun W hW => gMul_any 4 1 W (hT.on hW)
  have H3 : Hid (∀ W, Below w.heap.size w W → Calls Tryd.prog 12 #[.int .i64 0] W fun e w' => e = .returned (.int .i64 2) ∧ Below W.heap.size W w') := fun W hW => gOf_any 0 W
  have HBN : Hid (Below w.heap.size w w) := Below.refl _ _
  clear hT
  go_enter Tryd.func9, Tryd.ntmps9
  go_wp2_with (first
    | (go_at_call 25; refine (H1.out _ HBN.out).mono ?_; rintro e wn ⟨rfl, hbn⟩; have hbx := HBN.out.trans (hbn.mono HBN.out.size); clear HBN hbn; have HBN := Lib.hid hbx; clear hbx)
    | (go_at_call 29; refine (H2.out _ HBN.out).mono ?_; rintro e wn ⟨rfl, hbn⟩; have hbx := HBN.out.trans (hbn.mono HBN.out.size); clear HBN hbn; have HBN := Lib.hid hbx; clear hbx)
    | (go_at_call 12; refine (H3.out _ HBN.out).mono ?_; rintro e wn ⟨rfl, hbn⟩; have hbx := HBN.out.trans (hbn.mono HBN.out.size); clear HBN hbn; have HBN := Lib.hid hbx; clear hbx))
  go_ret
  exact ⟨rfl, HBN.out⟩
end Go.Proofs.YtkcgbdggipijlaaDoor
