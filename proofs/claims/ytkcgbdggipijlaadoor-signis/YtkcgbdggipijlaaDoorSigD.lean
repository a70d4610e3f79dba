import Derived.Test.YtkcgbdggipijlaaDoorSigC
namespace Go.Proofs.YtkcgbdggipijlaaDoor
open Go Go.RowKit Go.Sort

set_option maxHeartbeats 1000000 in
theorem gAdd_any (a b : Int) (w : World) (hT : Tabs w) :
    Calls Tryd.prog 25 #[.int .i64 a, .int .i64 b] w fun e w' => e = .returned (.int .i64 (addN (sS a) (sS b) : Nat)) ∧ Below w.heap.size w w' := by
  have HA := Lib.hid (show ∀ W, Below w.heap.size w W → _ from fun W hW => gcomb_sum a b W (hT.on hW))
  have HBN : Hid (Below w.heap.size w w) := Below.refl _ _
  go_enter Tryd.func25, Tryd.ntmps25
  go_wp2_with (go_at_call 41; refine (HA.out _ HBN.out).mono ?_; rintro e wn ⟨rfl, hbn⟩; have hbx := HBN.out.trans (hbn.mono HBN.out.size); clear HBN hbn; have HBN := Lib.hid hbx; clear hbx)
  go_ret
  exact ⟨rfl, HBN.out⟩

set_option maxHeartbeats 1000000 in
theorem gMul_any (a b : Int) (w : World) (hT : Tabs w) :
    Calls Tryd.prog 29 #[.int .i64 a, .int .i64 b] w fun e w' => e = .returned (.int .i64 (mulN (sS a) (sS b) : Nat)) ∧ Below w.heap.size w w' := by
  have HA := Lib.hid (show ∀ W, Below w.heap.size w W → _ from fun W hW => gcomb_product a b W (hT.on hW))
  have HBN : Hid (Below w.heap.size w w) := Below.refl _ _
  go_enter Tryd.func29, Tryd.ntmps29
  go_wp2_with (go_at_call 41; refine (HA.out _ HBN.out).mono ?_; rintro e wn ⟨rfl, hbn⟩; have hbx := HBN.out.trans (hbn.mono HBN.out.size); clear HBN hbn; have HBN := Lib.hid hbx; clear hbx)
  go_ret
  exact ⟨rfl, HBN.out⟩

set_option maxHeartbeats 1000000 in
theorem gNeg_any (a : Int) (w : World) (hT : Tabs w) :
    Calls Tryd.prog 23 #[.int .i64 a] w fun e w' => e = .returned (.int .i64 (negN (sS a) : Nat)) ∧ Below w.heap.size w w' := by
  have HA := Lib.hid (show ∀ W, Below w.heap.size w W → _ from fun W hW => gMul_any 1 a W (hT.on hW))
  have HBN : Hid (Below w.heap.size w w) := Below.refl _ _
  go_enter Tryd.func23, Tryd.ntmps23
  go_wp2_with (go_at_call 29; refine (HA.out _ HBN.out).mono ?_; rintro e wn ⟨rfl, hbn⟩; have hbx := HBN.out.trans (hbn.mono HBN.out.size); clear HBN hbn; have HBN := Lib.hid hbx; clear hbx)
  go_ret
  exact ⟨rfl, HBN.out⟩

set_option maxHeartbeats 1000000 in
theorem gSub_any (a b : Int) (w : World) (hT : Tabs w) :
    Calls Tryd.prog 27 #[.int .i64 a, .int .i64 b] w fun e w' => e = .returned (.int .i64 (subN (sS a) (sS b) : Nat)) ∧ Below w.heap.size w w' := by
  have HA := Lib.hid (show ∀ W, Below w.heap.size w W → _ from fun W hW => gNeg_any b W (hT.on hW))
  have HB : Hid (∀ W, Below w.heap.size w W → Calls Tryd.prog 25 #[.int .i64 a, .int .i64 (negN (sS b) : Nat)] W fun e w' => e = .returned (.int .i64 (subN (sS a) (sS b) : Nat)) ∧ Below W.heap.size W w') := fun W hW => by
    have h := gAdd_any a (negN (sS b) : Nat) W (hT.on hW)
    rw [sS_of (negN_lt (sS_lt b))] at h
    exact h
  have HBN : Hid (Below w.heap.size w w) := Below.refl _ _
  generalize negN (sS b) = z at *
  generalize subN (sS a) (sS b) = r at *
  clear hT
  go_enter Tryd.func27, Tryd.ntmps27
  go_wp2_with (first
    | (go_at_call 23; refine (HA.out _ HBN.out).mono ?_; rintro e wn ⟨rfl, hbn⟩; have hbx := HBN.out.trans (hbn.mono HBN.out.size); clear HBN hbn; have HBN := Lib.hid hbx; clear hbx)
    | (go_at_call 25; refine (HB.out _ HBN.out).mono ?_; rintro e wn ⟨rfl, hbn⟩; have hbx := HBN.out.trans (hbn.mono HBN.out.size); clear HBN hbn; have HBN := Lib.hid hbx; clear hbx))
  go_ret
  exact ⟨rfl, HBN.out⟩

set_option maxHeartbeats 1000000 in
theorem gHeight_any (a : Int) (w : World) :
    Calls Tryd.prog 21 #[.int .i64 a] w fun e w' => e = .returned (.int .i64 ((lst (sS a)).length : Nat)) ∧ Below w.heap.size w w' := by
  have HA : Hid (∀ W, Calls Tryd.prog 19 #[.int .i64 a] W fun e w' => ∃ u, e = .returned u ∧ w'.ownsRow W.heap.size 3 1 u (lst (sS a)).length ((lst (sS a)).map (Value.int .i64)) ∧ Below W.heap.size W w') := fun W => gList_any a W
  generalize lst (sS a) = l at *
  obtain ⟨T, hTl⟩ : ∃ T, l.length = T := ⟨_, rfl⟩
  rw [hTl] at HA ⊢
  clear hTl
  go_enter Tryd.func21, Tryd.ntmps21
  go_wp2_with fail
  refine (HA.out _).mono ?_
  clear HA
  rintro e w1 ⟨u, rfl, hown, hb⟩
  obtain ⟨a1, c1, rfl, -, hIs⟩ := is_of_ints hown
  clear hown hIs
  go_wp2_with fail
  go_ret
  exact ⟨rfl, hb⟩

set_option maxHeartbeats 1000000 in
theorem hHeight_any (a : Int) (w : World) :
    Calls Tryd.prog 22 #[.int .i64 a] w fun e w' => e = .returned (.int .i64 ((lst (sS a)).length : Nat)) ∧ Below w.heap.size w w' := by
  have HA : Hid (∀ W, Calls Tryd.prog 20 #[.int .i64 a] W fun e w' => ∃ u, e = .returned u ∧ w'.ownsRow W.heap.size 3 1 u (lst (sS a)).length ((lst (sS a)).map (Value.int .i64)) ∧ Below W.heap.size W w') := fun W => hList_any a W
  generalize lst (sS a) = l at *
  obtain ⟨T, hTl⟩ : ∃ T, l.length = T := ⟨_, rfl⟩
  rw [hTl] at HA ⊢
  clear hTl
  go_enter Tryd.func22, Tryd.ntmps22
  go_wp2_with fail
  refine (HA.out _).mono ?_
  clear HA
  rintro e w1 ⟨u, rfl, hown, hb⟩
  obtain ⟨a1, c1, rfl, -, hIs⟩ := is_of_ints hown
  clear hown hIs
  go_wp2_with fail
  go_ret
  exact ⟨rfl, hb⟩

def negL (l : List Int) : Nat := l.foldl (fun m x => m ||| sg (-x)) 0
theorem negL_lt (l : List Int) : negL l < 8 := by
  have : ∀ (l : List Int) m, m < 8 → l.foldl (fun m x => m ||| sg (-x)) m < 8 := by
    intro l
    induction l with
    | nil => intro m h; exact h
    | cons y r ih => intro m h; exact ih _ (or_lt h (sg_lt _))
  exact this l 0 (by decide)
theorem negL_lst {a : Nat} (ha : a < 8) : negL (lst a) = negN a := by
  have h : ∀ x : Fin 8, negL (lst x.val) = negN x.val := by decide
  exact h ⟨a, ha⟩
theorem som_mem {s : Nat} {x : Int} (h : x ∈ som s) : -2 ≤ x ∧ x ≤ 2 := by
  have := (List.mem_filter.1 h).1
  simp [List.range_succ] at this
  omega
theorem som_add {a b : Nat} (ha : a < 8) (hb : b < 8) : cmb (fun x y => sg (x + y)) (som a) (som b) = addN a b := by
  have h : ∀ x y : Fin 8, cmb (fun x y => sg (x + y)) (som x.val) (som y.val) = addN x.val y.val := by decide +kernel
  exact h ⟨a, ha⟩ ⟨b, hb⟩
theorem som_mul {a b : Nat} (ha : a < 8) (hb : b < 8) : cmb (fun x y => sg (x * y)) (som a) (som b) = mulN a b := by
  have h : ∀ x y : Fin 8, cmb (fun x y => sg (x * y)) (som x.val) (som y.val) = mulN x.val y.val := by decide +kernel
  exact h ⟨a, ha⟩ ⟨b, hb⟩
theorem mul_small {x y : Int} (hx : -2 ≤ x ∧ x ≤ 2) (hy : -2 ≤ y ∧ y ≤ 2) : -4 ≤ x * y ∧ x * y ≤ 4 := by
  have h1 : (x * y).natAbs ≤ 2 * 2 := by
    rw [Int.natAbs_mul]
    exact Nat.mul_le_mul (by omega) (by omega)
  omega

set_option maxRecDepth 100000 in
set_option maxHeartbeats 2000000 in
theorem hNeg_any (a : Int) (w : World) :
    Calls Tryd.prog 24 #[.int .i64 a] w fun e w' => e = .returned (.int .i64 (negN (sS a) : Nat)) ∧ Below w.heap.size w w' := by
  rw [← negL_lst (sS_lt a)]
  have HA : Hid (∀ W, Calls Tryd.prog 20 #[.int .i64 a] W fun e w' => ∃ u, e = .returned u ∧ w'.ownsRow W.heap.size 3 1 u (lst (sS a)).length ((lst (sS a)).map (Value.int .i64)) ∧ Below W.heap.size W w') := fun W => hList_any a W
  have HM : Hid (∀ x ∈ lst (sS a), x = -1 ∨ x = 0 ∨ x = 1) := fun x h => lst_mem h
  have HL : Hid ((lst (sS a)).length ≤ 3) := tol_le _ _ _
  generalize lst (sS a) = l at *
  obtain ⟨T, hTl⟩ : ∃ T, l.length = T := ⟨_, rfl⟩
  rw [hTl] at HA
  have hT3 : T ≤ 3 := by rw [← hTl]; exact HL.out
  have HTl := Lib.hid hTl
  clear hTl HL
  go_enter Tryd.func24, Tryd.ntmps24
  go_wp2_with fail
  refine (HA.out _).mono ?_
  clear HA
  rintro e w1 ⟨u, rfl, hown, hb⟩
  obtain ⟨a1, c1, rfl, -, hIs⟩ := is_of_ints hown
  have HI1 := Lib.hid hIs
  have HB1 := Lib.hid hb
  clear hown hIs hb
  go_wp2_with fail
  go_loopw [3, 5] (fun m i wr => ∃ q : Nat, q ≤ T ∧ i = .int .i64 q ∧ m = .int .i64 (negL (l.take q) : Nat) ∧ Hid (Below w1.heap.size w1 wr)) (fun _ i _ => T - (intOf i).toNat)
  case atStart => exact ⟨0, Nat.zero_le _, rfl, rfl, Below.refl _ _⟩
  case round =>
    obtain ⟨q, hq, rfl, rfl, hBw⟩ := hrel
    by_cases hlt : q < T
    · obtain ⟨b, o, rfl, hbl, hcell⟩ := HI1.out q (by rw [HTl.out]; exact hlt)
      have hcx := (hBw.out.cell (p := ⟨b, o + q, none⟩) hbl).trans hcell
      obtain ⟨x, hx⟩ : ∃ x, l[q]?.getD 0 = x := ⟨_, rfl⟩
      rw [hx] at hcx
      have hqk : q < l.length := by rw [HTl.out]; exact hlt
      have HX := Lib.hid (take_next hqk hx)
      have hxm : -1 ≤ x ∧ x ≤ 1 := by rcases HM.out x (get_mem hqk hx) with h | h | h <;> omega
      obtain ⟨hx1, hx2⟩ := hxm
      have HM0 := Lib.hid (negL_lt (l.take q))
      have HE : Hid (negL (l.take (q + 1)) = negL (l.take q) ||| sg (-x)) := by rw [Hid, HX.out]; simp [negL]
      have HC := Lib.hid (fun W => hOf_any (-x) W)
      have HG := Lib.hid (sg_lt (-x))
      generalize negL (l.take q) = m0 at *
      generalize sg (-x) = gv at *
      have hqi : (q : Int) < (T : Int) := by omega
      clear hcell hx hqk
      go_wp2_with (go_at_call 13; refine (HC.out _).mono ?_; rintro e w3 ⟨rfl, hb⟩; have HB3 := Lib.hid (hBw.out.trans (hb.mono hBw.out.size)); clear hb)
      go_roundw
      case rel =>
        refine ⟨q + 1, by omega, by go_num, ?_, HB3⟩
        rw [HE.out, bits_or HM0.out HG.out]
      case measure => simp [intOf]; omega
    · obtain rfl : q = T := by omega
      go_wp2_with fail
      go_ret
      refine ⟨ret_int ?_, HB1.out.trans (hBw.out.mono HB1.out.size)⟩
      rw [List.take_of_length_le (by rw [HTl.out]; exact Nat.le_refl _)]

end Go.Proofs.YtkcgbdggipijlaaDoor
