import Derived.Test.YtkcgbdggipijlaaDoorSigB
namespace Go.Proofs.YtkcgbdggipijlaaDoor
open Go Go.RowKit Go.Sort

/-- The two tables, as they are laid. -/
structure Tabs (W : World) : Prop where
  s : ∀ j, j < 9 → W.cell? ⟨0, j, none⟩ = some (.int .i64 ((sumsL.getD j 0 : Nat) : Int))
  p : ∀ j, j < 9 → W.cell? ⟨1, j, none⟩ = some (.int .i64 ((prodsL.getD j 0 : Nat) : Int))

theorem Tabs.below {W W' : World} (h : Tabs W) {B : Nat} (hb : Below B W W') (hB : 1 < B) : Tabs W' :=
  ⟨fun j hj => (hb.cell (p := ⟨0, j, none⟩) (Nat.lt_trans Nat.zero_lt_one hB)).trans (h.s j hj), fun j hj => (hb.cell (p := ⟨1, j, none⟩) hB).trans (h.p j hj)⟩
theorem Tabs.lt {W : World} (h : Tabs W) : 1 < W.heap.size := block_lt_of_cell (h.p 0 (by decide))
theorem Tabs.on {w W : World} (h : Tabs w) (hb : Below w.heap.size w W) : Tabs W := h.below hb h.lt

theorem getD_lt {l : List Nat} (h : ∀ n ∈ l, n < 8) (j : Nat) : l.getD j 0 < 8 := by
  rw [List.getD_eq_getElem?_getD]
  cases e : l[j]? with
  | none => simp
  | some n => exact h n (List.mem_of_getElem? e)
theorem tbl_s (x y : Int) : tbl sumsL x y < 8 := getD_lt (by decide) _
theorem tbl_p (x y : Int) : tbl prodsL x y < 8 := getD_lt (by decide) _
theorem row_lt {f : Int → Int → Nat} (hf : ∀ x y, f x y < 8) (x : Int) (l : List Int) : ∀ m, m < 8 → row f x l m < 8 := by
  induction l with
  | nil => intro m h; exact h
  | cons y r ih => intro m h; exact ih _ (or_lt h (hf x y))
def cmbTo (f : Int → Int → Nat) (k l : List Int) : Nat := k.foldl (fun m x => row f x l m) 0
theorem foldl_lt {f : Int → Int → Nat} (hf : ∀ x y, f x y < 8) (l k : List Int) : ∀ m, m < 8 → k.foldl (fun m x => row f x l m) m < 8 := by
  induction k with
  | nil => intro m h; exact h
  | cons y r ih => intro m h; exact ih _ (row_lt hf y l m h)
theorem cmbTo_lt {f : Int → Int → Nat} (hf : ∀ x y, f x y < 8) (k l : List Int) : cmbTo f k l < 8 := foldl_lt hf l k 0 (by decide)
theorem take_next {l : List Int} {q : Nat} {x : Int} (hq : q < l.length) (hx : l[q]?.getD 0 = x) : l.take (q + 1) = l.take q ++ [x] := by
  rw [List.take_succ_eq_append_getElem hq, ← hx]; simp [hq]
theorem lst_mem {s : Nat} {x : Int} (h : x ∈ lst s) : x = -1 ∨ x = 0 ∨ x = 1 := by
  have := (List.mem_filter.1 h).1
  simpa [List.range_succ] using this
theorem get_mem {l : List Int} {q : Nat} {x : Int} (hq : q < l.length) (hx : l[q]?.getD 0 = x) : x ∈ l := by
  have e : l[q] = x := by simpa [hq] using hx
  exact e ▸ List.getElem_mem hq

set_option maxHeartbeats 2000000 in
theorem gsum_any (x y : Int) (w : World) (hT : Tabs w) (hx : x = -1 ∨ x = 0 ∨ x = 1) (hy : y = -1 ∨ y = 0 ∨ y = 1) :
    Calls Tryd.prog 42 #[.int .i64 x, .int .i64 y] w fun e w' => e = .returned (.int .i64 (tbl sumsL x y : Nat)) ∧ Below w.heap.size w w' := by
  have t0 := hT.s 0 (by decide)
  have t1 := hT.s 1 (by decide)
  have t2 := hT.s 2 (by decide)
  have t3 := hT.s 3 (by decide)
  have t4 := hT.s 4 (by decide)
  have t5 := hT.s 5 (by decide)
  have t6 := hT.s 6 (by decide)
  have t7 := hT.s 7 (by decide)
  have t8 := hT.s 8 (by decide)
  simp only [sumsL, List.getD_cons_zero, List.getD_cons_succ] at t0 t1 t2 t3 t4 t5 t6 t7 t8
  clear hT
  rcases hx with rfl | rfl | rfl <;> rcases hy with rfl | rfl | rfl
  all_goals
    go_enter Tryd.func42, Tryd.ntmps42
    go_wp2
    go_ret
    exact ⟨rfl, Below.refl _ _⟩

set_option maxHeartbeats 2000000 in
theorem gproduct_any (x y : Int) (w : World) (hT : Tabs w) (hx : x = -1 ∨ x = 0 ∨ x = 1) (hy : y = -1 ∨ y = 0 ∨ y = 1) :
    Calls Tryd.prog 44 #[.int .i64 x, .int .i64 y] w fun e w' => e = .returned (.int .i64 (tbl prodsL x y : Nat)) ∧ Below w.heap.size w w' := by
  have t0 := hT.p 0 (by decide)
  have t1 := hT.p 1 (by decide)
  have t2 := hT.p 2 (by decide)
  have t3 := hT.p 3 (by decide)
  have t4 := hT.p 4 (by decide)
  have t5 := hT.p 5 (by decide)
  have t6 := hT.p 6 (by decide)
  have t7 := hT.p 7 (by decide)
  have t8 := hT.p 8 (by decide)
  simp only [prodsL, List.getD_cons_zero, List.getD_cons_succ] at t0 t1 t2 t3 t4 t5 t6 t7 t8
  clear hT
  rcases hx with rfl | rfl | rfl <;> rcases hy with rfl | rfl | rfl
  all_goals
    go_enter Tryd.func44, Tryd.ntmps44
    go_wp2
    go_ret
    exact ⟨rfl, Below.refl _ _⟩

set_option maxRecDepth 100000 in
set_option maxHeartbeats 4000000 in
theorem gcomb_sum (a b : Int) (w : World) (hT : Tabs w) :
    Calls Tryd.prog 41 #[.int .i64 a, .int .i64 b, .func (Fn.func 42) #[] #[]] w fun e w' => e = .returned (.int .i64 (cmb (tbl sumsL) (lst (sS a)) (lst (sS b)) : Nat)) ∧ Below w.heap.size w w' := by
  have HA := Lib.hid (fun W => gList_any a W)
  have HB := Lib.hid (fun W => gList_any b W)
  have HMa : Hid (∀ x ∈ lst (sS a), x = -1 ∨ x = 0 ∨ x = 1) := fun x h => lst_mem h
  have HMb : Hid (∀ x ∈ lst (sS b), x = -1 ∨ x = 0 ∨ x = 1) := fun x h => lst_mem h
  have HLa : Hid ((lst (sS a)).length ≤ 3) := tol_le _ _ _
  have HLb : Hid ((lst (sS b)).length ≤ 3) := tol_le _ _ _
  change Hid (∀ W, Calls Tryd.prog 19 #[.int .i64 a] W fun e w' => ∃ u, e = .returned u ∧ w'.ownsRow W.heap.size 3 1 u (lst (sS a)).length ((lst (sS a)).map (Value.int .i64)) ∧ Below W.heap.size W w') at HA
  change Hid (∀ W, Calls Tryd.prog 19 #[.int .i64 b] W fun e w' => ∃ u, e = .returned u ∧ w'.ownsRow W.heap.size 3 1 u (lst (sS b)).length ((lst (sS b)).map (Value.int .i64)) ∧ Below W.heap.size W w') at HB
  generalize lst (sS a) = k at *
  generalize lst (sS b) = l at *
  have HF : Hid (∀ x y W, Below w.heap.size w W → (x = -1 ∨ x = 0 ∨ x = 1) → (y = -1 ∨ y = 0 ∨ y = 1) → Calls Tryd.prog 42 #[.int .i64 x, .int .i64 y] W fun e w' => e = .returned (.int .i64 (tbl sumsL x y : Nat)) ∧ Below W.heap.size W w') := fun x y W hW hx hy => gsum_any x y W (hT.on hW) hx hy
  have hf : Hid (∀ x y, tbl sumsL x y < 8) := tbl_s
  clear hT
  change Calls Tryd.prog _ _ w fun e w' => e = .returned (.int .i64 (cmbTo (tbl sumsL) k l : Nat)) ∧ _
  generalize tbl sumsL = f at *
  obtain ⟨T, hTl⟩ : ∃ T, k.length = T := ⟨_, rfl⟩
  obtain ⟨U, hUl⟩ : ∃ U, l.length = U := ⟨_, rfl⟩
  rw [hTl] at HA
  rw [hUl] at HB
  have hT3 : T ≤ 3 := by rw [← hTl]; exact HLa.out
  have hU3 : U ≤ 3 := by rw [← hUl]; exact HLb.out
  have HTl := Lib.hid hTl
  have HUl := Lib.hid hUl
  clear hTl hUl HLa HLb
  go_enter Tryd.func41, Tryd.ntmps41
  go_wp2_with fail
  refine (HA.out _).mono ?_
  clear HA
  rintro e w1 ⟨u, rfl, hown, hb⟩
  obtain ⟨a1, c1, rfl, -, hIs⟩ := is_of_ints hown
  have HI1 := Lib.hid hIs
  have HB1 := Lib.hid hb
  clear hown hIs hb
  go_wp2_with fail
  go_loopw [7, 15] (fun m i wr => ∃ q : Nat, q ≤ T ∧ i = .int .i64 q ∧ m = .int .i64 (cmbTo f (k.take q) l : Nat) ∧ Hid (Below w1.heap.size w1 wr)) (fun _ i _ => T - (intOf i).toNat)
  case atStart => exact ⟨0, Nat.zero_le _, rfl, rfl, Below.refl _ _⟩
  case round =>
    obtain ⟨q, hq, rfl, rfl, hBw⟩ := hrel
    by_cases hlt : q < T
    · obtain ⟨b, o, rfl, hbl, hcell⟩ := HI1.out q (by rw [HTl.out]; exact hlt)
      have hcx := (hBw.out.cell (p := ⟨b, o + q, none⟩) hbl).trans hcell
      obtain ⟨x, hx⟩ : ∃ x, k[q]?.getD 0 = x := ⟨_, rfl⟩
      rw [hx] at hcx
      have hqk : q < k.length := by rw [HTl.out]; exact hlt
      have HX := Lib.hid (take_next hqk hx)
      have HXm := Lib.hid (HMa.out x (get_mem hqk hx))
      have HM0 := Lib.hid (cmbTo_lt hf.out (k.take q) l)
      have HE : Hid (cmbTo f (k.take (q + 1)) l = row f x l (cmbTo f (k.take q) l)) := by rw [Hid, HX.out]; simp [cmbTo]
      generalize cmbTo f (k.take q) l = m0 at *
      have hqi : (q : Int) < (T : Int) := by omega
      clear hcell hx hqk
      go_wp2_with fail
      refine (HB.out _).mono ?_
      rintro e w2 ⟨u, rfl, hown, hb⟩
      obtain ⟨a2, c2, rfl, -, hIs⟩ := is_of_ints hown
      have HI2 := Lib.hid hIs
      have HB2 := Lib.hid (hBw.out.trans (hb.mono hBw.out.size))
      clear hown hIs hb hcx
      go_wp2_with fail
      go_loopw [7, 22] (fun m i wr => ∃ r : Nat, r ≤ U ∧ i = .int .i64 r ∧ m = .int .i64 (row f x (l.take r) m0 : Nat) ∧ Hid (Below w2.heap.size w2 wr)) (fun _ i _ => U - (intOf i).toNat)
      case atStart => exact ⟨0, Nat.zero_le _, rfl, rfl, Below.refl _ _⟩
      case round =>
        obtain ⟨r, hr, rfl, rfl, hBr⟩ := hrel
        by_cases hlr : r < U
        · obtain ⟨b2, o2, rfl, hbl2, hcell2⟩ := HI2.out r (by rw [HUl.out]; exact hlr)
          have hcy := (hBr.out.cell (p := ⟨b2, o2 + r, none⟩) hbl2).trans hcell2
          obtain ⟨y, hy⟩ : ∃ y, l[r]?.getD 0 = y := ⟨_, rfl⟩
          rw [hy] at hcy
          have hrk : r < l.length := by rw [HUl.out]; exact hlr
          have HY := Lib.hid (take_next hrk hy)
          have HYm := Lib.hid (HMb.out y (get_mem hrk hy))
          have HM1 := Lib.hid (row_lt hf.out x (l.take r) m0 HM0.out)
          have HE2 : Hid (row f x (l.take (r + 1)) m0 = row f x (l.take r) m0 ||| f x y) := by rw [Hid, HY.out]; simp [row]
          have HC := Lib.hid (HF.out x y wr (HB1.out.trans ((HB2.out.trans (hBr.out.mono HB2.out.size)).mono HB1.out.size)) HXm.out HYm.out)
          have HFL := Lib.hid (hf.out x y)
          generalize row f x (l.take r) m0 = m1 at *
          generalize f x y = fv at *
          have hri : (r : Int) < (U : Int) := by omega
          clear hcell2 hy hrk
          go_wp2_with (go_at_call 42; refine HC.out.mono ?_; rintro e w3 ⟨rfl, hb⟩; have HB3 := Lib.hid (hBr.out.trans (hb.mono hBr.out.size)); clear hb)
          go_roundw
          case rel =>
            refine ⟨r + 1, by omega, by go_num, ?_, HB3⟩
            rw [HE2.out, bits_or HM1.out HFL.out]
          case measure => simp [intOf]; omega
        · obtain rfl : r = U := by omega
          go_wp2_with fail
          go_roundw
          case rel =>
            refine ⟨q + 1, by omega, by go_num, ?_, HB2.out.trans (hBr.out.mono HB2.out.size)⟩
            rw [HE.out, List.take_of_length_le (by rw [HUl.out]; exact Nat.le_refl _)]
          case measure => simp [intOf]; omega
    · obtain rfl : q = T := by omega
      go_wp2_with fail
      go_ret
      refine ⟨ret_int ?_, HB1.out.trans (hBw.out.mono HB1.out.size)⟩
      rw [List.take_of_length_le (by rw [HTl.out]; exact Nat.le_refl _)]

set_option maxRecDepth 100000 in
set_option maxHeartbeats 4000000 in
theorem gcomb_product (a b : Int) (w : World) (hT : Tabs w) :
    Calls Tryd.prog 41 #[.int .i64 a, .int .i64 b, .func (Fn.func 44) #[] #[]] w fun e w' => e = .returned (.int .i64 (cmb (tbl prodsL) (lst (sS a)) (lst (sS b)) : Nat)) ∧ Below w.heap.size w w' := by
  have HA := Lib.hid (fun W => gList_any a W)
  have HB := Lib.hid (fun W => gList_any b W)
  have HMa : Hid (∀ x ∈ lst (sS a), x = -1 ∨ x = 0 ∨ x = 1) := fun x h => lst_mem h
  have HMb : Hid (∀ x ∈ lst (sS b), x = -1 ∨ x = 0 ∨ x = 1) := fun x h => lst_mem h
  have HLa : Hid ((lst (sS a)).length ≤ 3) := tol_le _ _ _
  have HLb : Hid ((lst (sS b)).length ≤ 3) := tol_le _ _ _
  change Hid (∀ W, Calls Tryd.prog 19 #[.int .i64 a] W fun e w' => ∃ u, e = .returned u ∧ w'.ownsRow W.heap.size 3 1 u (lst (sS a)).length ((lst (sS a)).map (Value.int .i64)) ∧ Below W.heap.size W w') at HA
  change Hid (∀ W, Calls Tryd.prog 19 #[.int .i64 b] W fun e w' => ∃ u, e = .returned u ∧ w'.ownsRow W.heap.size 3 1 u (lst (sS b)).length ((lst (sS b)).map (Value.int .i64)) ∧ Below W.heap.size W w') at HB
  generalize lst (sS a) = k at *
  generalize lst (sS b) = l at *
  have HF : Hid (∀ x y W, Below w.heap.size w W → (x = -1 ∨ x = 0 ∨ x = 1) → (y = -1 ∨ y = 0 ∨ y = 1) → Calls Tryd.prog 44 #[.int .i64 x, .int .i64 y] W fun e w' => e = .returned (.int .i64 (tbl prodsL x y : Nat)) ∧ Below W.heap.size W w') := fun x y W hW hx hy => gproduct_any x y W (hT.on hW) hx hy
  have hf : Hid (∀ x y, tbl prodsL x y < 8) := tbl_p
  clear hT
  change Calls Tryd.prog _ _ w fun e w' => e = .returned (.int .i64 (cmbTo (tbl prodsL) k l : Nat)) ∧ _
  generalize tbl prodsL = f at *
  obtain ⟨T, hTl⟩ : ∃ T, k.length = T := ⟨_, rfl⟩
  obtain ⟨U, hUl⟩ : ∃ U, l.length = U := ⟨_, rfl⟩
  rw [hTl] at HA
  rw [hUl] at HB
  have hT3 : T ≤ 3 := by rw [← hTl]; exact HLa.out
  have hU3 : U ≤ 3 := by rw [← hUl]; exact HLb.out
  have HTl := Lib.hid hTl
  have HUl := Lib.hid hUl
  clear hTl hUl HLa HLb
  go_enter Tryd.func41, Tryd.ntmps41
  go_wp2_with fail
  refine (HA.out _).mono ?_
  clear HA
  rintro e w1 ⟨u, rfl, hown, hb⟩
  obtain ⟨a1, c1, rfl, -, hIs⟩ := is_of_ints hown
  have HI1 := Lib.hid hIs
  have HB1 := Lib.hid hb
  clear hown hIs hb
  go_wp2_with fail
  go_loopw [7, 15] (fun m i wr => ∃ q : Nat, q ≤ T ∧ i = .int .i64 q ∧ m = .int .i64 (cmbTo f (k.take q) l : Nat) ∧ Hid (Below w1.heap.size w1 wr)) (fun _ i _ => T - (intOf i).toNat)
  case atStart => exact ⟨0, Nat.zero_le _, rfl, rfl, Below.refl _ _⟩
  case round =>
    obtain ⟨q, hq, rfl, rfl, hBw⟩ := hrel
    by_cases hlt : q < T
    · obtain ⟨b, o, rfl, hbl, hcell⟩ := HI1.out q (by rw [HTl.out]; exact hlt)
      have hcx := (hBw.out.cell (p := ⟨b, o + q, none⟩) hbl).trans hcell
      obtain ⟨x, hx⟩ : ∃ x, k[q]?.getD 0 = x := ⟨_, rfl⟩
      rw [hx] at hcx
      have hqk : q < k.length := by rw [HTl.out]; exact hlt
      have HX := Lib.hid (take_next hqk hx)
      have HXm := Lib.hid (HMa.out x (get_mem hqk hx))
      have HM0 := Lib.hid (cmbTo_lt hf.out (k.take q) l)
      have HE : Hid (cmbTo f (k.take (q + 1)) l = row f x l (cmbTo f (k.take q) l)) := by rw [Hid, HX.out]; simp [cmbTo]
      generalize cmbTo f (k.take q) l = m0 at *
      have hqi : (q : Int) < (T : Int) := by omega
      clear hcell hx hqk
      go_wp2_with fail
      refine (HB.out _).mono ?_
      rintro e w2 ⟨u, rfl, hown, hb⟩
      obtain ⟨a2, c2, rfl, -, hIs⟩ := is_of_ints hown
      have HI2 := Lib.hid hIs
      have HB2 := Lib.hid (hBw.out.trans (hb.mono hBw.out.size))
      clear hown hIs hb hcx
      go_wp2_with fail
      go_loopw [7, 22] (fun m i wr => ∃ r : Nat, r ≤ U ∧ i = .int .i64 r ∧ m = .int .i64 (row f x (l.take r) m0 : Nat) ∧ Hid (Below w2.heap.size w2 wr)) (fun _ i _ => U - (intOf i).toNat)
      case atStart => exact ⟨0, Nat.zero_le _, rfl, rfl, Below.refl _ _⟩
      case round =>
        obtain ⟨r, hr, rfl, rfl, hBr⟩ := hrel
        by_cases hlr : r < U
        · obtain ⟨b2, o2, rfl, hbl2, hcell2⟩ := HI2.out r (by rw [HUl.out]; exact hlr)
          have hcy := (hBr.out.cell (p := ⟨b2, o2 + r, none⟩) hbl2).trans hcell2
          obtain ⟨y, hy⟩ : ∃ y, l[r]?.getD 0 = y := ⟨_, rfl⟩
          rw [hy] at hcy
          have hrk : r < l.length := by rw [HUl.out]; exact hlr
          have HY := Lib.hid (take_next hrk hy)
          have HYm := Lib.hid (HMb.out y (get_mem hrk hy))
          have HM1 := Lib.hid (row_lt hf.out x (l.take r) m0 HM0.out)
          have HE2 : Hid (row f x (l.take (r + 1)) m0 = row f x (l.take r) m0 ||| f x y) := by rw [Hid, HY.out]; simp [row]
          have HC := Lib.hid (HF.out x y wr (HB1.out.trans ((HB2.out.trans (hBr.out.mono HB2.out.size)).mono HB1.out.size)) HXm.out HYm.out)
          have HFL := Lib.hid (hf.out x y)
          generalize row f x (l.take r) m0 = m1 at *
          generalize f x y = fv at *
          have hri : (r : Int) < (U : Int) := by omega
          clear hcell2 hy hrk
          go_wp2_with (go_at_call 44; refine HC.out.mono ?_; rintro e w3 ⟨rfl, hb⟩; have HB3 := Lib.hid (hBr.out.trans (hb.mono hBr.out.size)); clear hb)
          go_roundw
          case rel =>
            refine ⟨r + 1, by omega, by go_num, ?_, HB3⟩
            rw [HE2.out, bits_or HM1.out HFL.out]
          case measure => simp [intOf]; omega
        · obtain rfl : r = U := by omega
          go_wp2_with fail
          go_roundw
          case rel =>
            refine ⟨q + 1, by omega, by go_num, ?_, HB2.out.trans (hBr.out.mono HB2.out.size)⟩
            rw [HE.out, List.take_of_length_le (by rw [HUl.out]; exact Nat.le_refl _)]
          case measure => simp [intOf]; omega
    · obtain rfl : q = T := by omega
      go_wp2_with fail
      go_ret
      refine ⟨ret_int ?_, HB1.out.trans (hBw.out.mono HB1.out.size)⟩
      rw [List.take_of_length_le (by rw [HTl.out]; exact Nat.le_refl _)]

end Go.Proofs.YtkcgbdggipijlaaDoor
