import Derived.Test.YtjlofjoekpoepaaDoorCb
import Derived.Test.YtjlofjoekpoepaaDoorP
namespace Go.Proofs.YtjlofjoekpoepaaDoor
open Go Go.RowKit Go.Sort

/-- Two sets that may be, made one: its words. -/
def joinW (f : Nat → Nat → Nat) (n m : Nat) (wa wb : List Nat) : List Nat := combW f (wcount (max n m)) wa wb

set_option maxRecDepth 100000 in
set_option maxHeartbeats 2000000 in
theorem Union_any (va vb : Value) (na nb : Int) (wa wb : List Nat) (w : World) (hva : SV w va na wa) (hvb : SV w vb nb wb) (hla : wa.length ≤ 30) (hlb : wb.length ≤ 30) (hBa : WB wa) (hBb : WB wb) :
    Calls Tryd.prog 31 #[va, vb] w fun e w' => ∃ g, e = .returned (.agg #[.int .i64 (max (nrm na wa) (nrm nb wb) : Nat), .slice (some ⟨g, 0, none⟩) (wcount (max (nrm na wa) (nrm nb wb))) (wcount (max (nrm na wa) (nrm nb wb)))]) ∧
      Fresh w.heap.size w' g (joinW orN (nrm na wa) (nrm nb wb) (nrmW na wa) (nrmW nb wb)) ∧ Below w.heap.size w w' := by
  have hva0 := hva
  have hvb0 := hvb
  obtain ⟨aa, capa, rfl, hWda⟩ := hva
  obtain ⟨ab, capb, rfl, hWdb⟩ := hvb
  have hW3 : Below w.heap.size w (((w.alloc (.cells #[.int .i64 na, .slice aa wa.length capa] 28)).alloc (.cells #[.int .i64 nb, .slice ab wb.length capb] 28)).alloc (.cells #[.int .i64 0, .slice none 0 0] 28)) := (((Below.refl _ _).alloc (Nat.le_refl _) _).alloc (by simp) _).alloc (by simp; omega) _
  have HC := Lib.hid (combine_any 53 orN wf_or _ _ na nb wa wb _ (hva0.below hW3) (hvb0.below hW3) hla hlb hBa hBb)
  have BA := ((Box.new w (.int .i64 na) (.slice aa wa.length capa) 28).alloc (.cells #[.int .i64 nb, .slice ab wb.length capb] 28)).alloc (.cells #[.int .i64 0, .slice none 0 0] 28)
  have BB := (Box.new (w.alloc (.cells #[.int .i64 na, .slice aa wa.length capa] 28)) (.int .i64 nb) (.slice ab wb.length capb) 28).alloc (.cells #[.int .i64 0, .slice none 0 0] 28)
  have BR := Box.new ((w.alloc (.cells #[.int .i64 na, .slice aa wa.length capa] 28)).alloc (.cells #[.int .i64 nb, .slice ab wb.length capb] 28)) (.int .i64 0) (.slice none 0 0) 28
  simp only [World.size_alloc] at BB BR
  have HW3 := Lib.hid hW3
  generalize hW : ((w.alloc (.cells #[.int .i64 na, .slice aa wa.length capa] 28)).alloc (.cells #[.int .i64 nb, .slice ab wb.length capb] 28)).alloc (.cells #[.int .i64 0, .slice none 0 0] 28) = W3 at *
  clear hva0 hvb0 hWda hWdb hW3
  unfold joinW
  generalize nrm na wa = na' at *
  generalize nrmW na wa = wa' at *
  generalize nrm nb wb = nb' at *
  generalize nrmW nb wb = wb' at *
  obtain ⟨N, hN⟩ : ∃ N, max na' nb' = N := ⟨_, rfl⟩
  rw [hN] at HC ⊢
  obtain ⟨K, hK⟩ : ∃ K, wcount N = K := ⟨_, rfl⟩
  rw [hK] at HC ⊢
  obtain ⟨cw, hcw⟩ : ∃ cw, combW orN K wa' wb' = cw := ⟨_, rfl⟩
  rw [hcw] at HC ⊢
  clear hN hK hcw
  obtain ⟨a0, a1, _, _⟩ := id BA
  obtain ⟨b0, b1, _, _⟩ := id BB
  go_enter Tryd.func31, Tryd.ntmps31
  go_wp2_with fail
  refine HC.out.mono ?_
  clear HC
  rintro e w4 ⟨g, rfl, hF, hb⟩
  obtain ⟨y0, y1, f0, f1⟩ := BR.below hb BR.lt
  have hlt := BR.lt
  have HB := Lib.hid (HW3.out.trans (hb.mono HW3.out.size))
  have HF := Lib.hid (hF.base HW3.out.size)
  have hg := hF.1
  clear hF hb hW BA BB BR a0 a1 b0 b1
  go_wp2
  have hput := below_put2 HB.out (b := w.heap.size + 1 + 1) (by omega) (.int .i64 (N : Int)) (.slice (some ⟨g, 0, none⟩) K K)
  exact bodyPost_ret (v := .agg #[.int .i64 (N : Int), .slice (some ⟨g, 0, none⟩) K K]) (by simp [results, Tryd.results31, go_sem, y0, y1]) rfl ⟨g, rfl, HF.out.block (heap_put2 _ _ _ _ _ (by omega)), hput⟩

/-- Union, of sets that may be. -/
theorem Union_ok (va vb : Value) (n m : Nat) (ws us : List Nat) (w : World) (hva : SV w va (n : Int) ws) (hvb : SV w vb (m : Int) us) (h : Ok n ws) (k : Ok m us) :
    Calls Tryd.prog 31 #[va, vb] w fun e w' => ∃ g, e = .returned (.agg #[.int .i64 (max n m : Nat), .slice (some ⟨g, 0, none⟩) (wcount (max n m)) (wcount (max n m))]) ∧ Fresh w.heap.size w' g (joinW orN n m ws us) ∧ Below w.heap.size w w' := by
  have h1 := Union_any va vb n m ws us w hva hvb (by have := h.len16; omega) (by have := k.len16; omega) h.wb k.wb
  rw [(nrm_of_ok h).1, (nrm_of_ok h).2, (nrm_of_ok k).1, (nrm_of_ok k).2] at h1
  exact h1

set_option maxRecDepth 100000 in
set_option maxHeartbeats 2000000 in
theorem Minus_any (va vb : Value) (na nb : Int) (wa wb : List Nat) (w : World) (hva : SV w va na wa) (hvb : SV w vb nb wb) (hla : wa.length ≤ 30) (hlb : wb.length ≤ 30) (hBa : WB wa) (hBb : WB wb) :
    Calls Tryd.prog 33 #[va, vb] w fun e w' => ∃ g, e = .returned (.agg #[.int .i64 (max (nrm na wa) (nrm nb wb) : Nat), .slice (some ⟨g, 0, none⟩) (wcount (max (nrm na wa) (nrm nb wb))) (wcount (max (nrm na wa) (nrm nb wb)))]) ∧
      Fresh w.heap.size w' g (joinW minusN (nrm na wa) (nrm nb wb) (nrmW na wa) (nrmW nb wb)) ∧ Below w.heap.size w w' := by
  have hva0 := hva
  have hvb0 := hvb
  obtain ⟨aa, capa, rfl, hWda⟩ := hva
  obtain ⟨ab, capb, rfl, hWdb⟩ := hvb
  have hW3 : Below w.heap.size w (((w.alloc (.cells #[.int .i64 na, .slice aa wa.length capa] 28)).alloc (.cells #[.int .i64 nb, .slice ab wb.length capb] 28)).alloc (.cells #[.int .i64 0, .slice none 0 0] 28)) := (((Below.refl _ _).alloc (Nat.le_refl _) _).alloc (by simp) _).alloc (by simp; omega) _
  have HC := Lib.hid (combine_any 55 minusN wf_minus _ _ na nb wa wb _ (hva0.below hW3) (hvb0.below hW3) hla hlb hBa hBb)
  have BA := ((Box.new w (.int .i64 na) (.slice aa wa.length capa) 28).alloc (.cells #[.int .i64 nb, .slice ab wb.length capb] 28)).alloc (.cells #[.int .i64 0, .slice none 0 0] 28)
  have BB := (Box.new (w.alloc (.cells #[.int .i64 na, .slice aa wa.length capa] 28)) (.int .i64 nb) (.slice ab wb.length capb) 28).alloc (.cells #[.int .i64 0, .slice none 0 0] 28)
  have BR := Box.new ((w.alloc (.cells #[.int .i64 na, .slice aa wa.length capa] 28)).alloc (.cells #[.int .i64 nb, .slice ab wb.length capb] 28)) (.int .i64 0) (.slice none 0 0) 28
  simp only [World.size_alloc] at BB BR
  have HW3 := Lib.hid hW3
  generalize hW : ((w.alloc (.cells #[.int .i64 na, .slice aa wa.length capa] 28)).alloc (.cells #[.int .i64 nb, .slice ab wb.length capb] 28)).alloc (.cells #[.int .i64 0, .slice none 0 0] 28) = W3 at *
  clear hva0 hvb0 hWda hWdb hW3
  unfold joinW
  generalize nrm na wa = na' at *
  generalize nrmW na wa = wa' at *
  generalize nrm nb wb = nb' at *
  generalize nrmW nb wb = wb' at *
  obtain ⟨N, hN⟩ : ∃ N, max na' nb' = N := ⟨_, rfl⟩
  rw [hN] at HC ⊢
  obtain ⟨K, hK⟩ : ∃ K, wcount N = K := ⟨_, rfl⟩
  rw [hK] at HC ⊢
  obtain ⟨cw, hcw⟩ : ∃ cw, combW minusN K wa' wb' = cw := ⟨_, rfl⟩
  rw [hcw] at HC ⊢
  clear hN hK hcw
  obtain ⟨a0, a1, _, _⟩ := id BA
  obtain ⟨b0, b1, _, _⟩ := id BB
  go_enter Tryd.func33, Tryd.ntmps33
  go_wp2_with fail
  refine HC.out.mono ?_
  clear HC
  rintro e w4 ⟨g, rfl, hF, hb⟩
  obtain ⟨y0, y1, f0, f1⟩ := BR.below hb BR.lt
  have hlt := BR.lt
  have HB := Lib.hid (HW3.out.trans (hb.mono HW3.out.size))
  have HF := Lib.hid (hF.base HW3.out.size)
  have hg := hF.1
  clear hF hb hW BA BB BR a0 a1 b0 b1
  go_wp2
  have hput := below_put2 HB.out (b := w.heap.size + 1 + 1) (by omega) (.int .i64 (N : Int)) (.slice (some ⟨g, 0, none⟩) K K)
  exact bodyPost_ret (v := .agg #[.int .i64 (N : Int), .slice (some ⟨g, 0, none⟩) K K]) (by simp [results, Tryd.results33, go_sem, y0, y1]) rfl ⟨g, rfl, HF.out.block (heap_put2 _ _ _ _ _ (by omega)), hput⟩

/-- Minus, of sets that may be. -/
theorem Minus_ok (va vb : Value) (n m : Nat) (ws us : List Nat) (w : World) (hva : SV w va (n : Int) ws) (hvb : SV w vb (m : Int) us) (h : Ok n ws) (k : Ok m us) :
    Calls Tryd.prog 33 #[va, vb] w fun e w' => ∃ g, e = .returned (.agg #[.int .i64 (max n m : Nat), .slice (some ⟨g, 0, none⟩) (wcount (max n m)) (wcount (max n m))]) ∧ Fresh w.heap.size w' g (joinW minusN n m ws us) ∧ Below w.heap.size w w' := by
  have h1 := Minus_any va vb n m ws us w hva hvb (by have := h.len16; omega) (by have := k.len16; omega) h.wb k.wb
  rw [(nrm_of_ok h).1, (nrm_of_ok h).2, (nrm_of_ok k).1, (nrm_of_ok k).2] at h1
  exact h1

set_option maxRecDepth 100000 in
set_option maxHeartbeats 2000000 in
theorem Meet_any (va vb : Value) (na nb : Int) (wa wb : List Nat) (w : World) (hva : SV w va na wa) (hvb : SV w vb nb wb) (hla : wa.length ≤ 30) (hlb : wb.length ≤ 30) (hBa : WB wa) (hBb : WB wb) :
    Calls Tryd.prog 35 #[va, vb] w fun e w' => ∃ g, e = .returned (.agg #[.int .i64 (max (nrm na wa) (nrm nb wb) : Nat), .slice (some ⟨g, 0, none⟩) (wcount (max (nrm na wa) (nrm nb wb))) (wcount (max (nrm na wa) (nrm nb wb)))]) ∧
      Fresh w.heap.size w' g (joinW andN (nrm na wa) (nrm nb wb) (nrmW na wa) (nrmW nb wb)) ∧ Below w.heap.size w w' := by
  have hva0 := hva
  have hvb0 := hvb
  obtain ⟨aa, capa, rfl, hWda⟩ := hva
  obtain ⟨ab, capb, rfl, hWdb⟩ := hvb
  have hW3 : Below w.heap.size w (((w.alloc (.cells #[.int .i64 na, .slice aa wa.length capa] 28)).alloc (.cells #[.int .i64 nb, .slice ab wb.length capb] 28)).alloc (.cells #[.int .i64 0, .slice none 0 0] 28)) := (((Below.refl _ _).alloc (Nat.le_refl _) _).alloc (by simp) _).alloc (by simp; omega) _
  have HC := Lib.hid (combine_any 56 andN wf_and _ _ na nb wa wb _ (hva0.below hW3) (hvb0.below hW3) hla hlb hBa hBb)
  have BA := ((Box.new w (.int .i64 na) (.slice aa wa.length capa) 28).alloc (.cells #[.int .i64 nb, .slice ab wb.length capb] 28)).alloc (.cells #[.int .i64 0, .slice none 0 0] 28)
  have BB := (Box.new (w.alloc (.cells #[.int .i64 na, .slice aa wa.length capa] 28)) (.int .i64 nb) (.slice ab wb.length capb) 28).alloc (.cells #[.int .i64 0, .slice none 0 0] 28)
  have BR := Box.new ((w.alloc (.cells #[.int .i64 na, .slice aa wa.length capa] 28)).alloc (.cells #[.int .i64 nb, .slice ab wb.length capb] 28)) (.int .i64 0) (.slice none 0 0) 28
  simp only [World.size_alloc] at BB BR
  have HW3 := Lib.hid hW3
  generalize hW : ((w.alloc (.cells #[.int .i64 na, .slice aa wa.length capa] 28)).alloc (.cells #[.int .i64 nb, .slice ab wb.length capb] 28)).alloc (.cells #[.int .i64 0, .slice none 0 0] 28) = W3 at *
  clear hva0 hvb0 hWda hWdb hW3
  unfold joinW
  generalize nrm na wa = na' at *
  generalize nrmW na wa = wa' at *
  generalize nrm nb wb = nb' at *
  generalize nrmW nb wb = wb' at *
  obtain ⟨N, hN⟩ : ∃ N, max na' nb' = N := ⟨_, rfl⟩
  rw [hN] at HC ⊢
  obtain ⟨K, hK⟩ : ∃ K, wcount N = K := ⟨_, rfl⟩
  rw [hK] at HC ⊢
  obtain ⟨cw, hcw⟩ : ∃ cw, combW andN K wa' wb' = cw := ⟨_, rfl⟩
  rw [hcw] at HC ⊢
  clear hN hK hcw
  obtain ⟨a0, a1, _, _⟩ := id BA
  obtain ⟨b0, b1, _, _⟩ := id BB
  go_enter Tryd.func35, Tryd.ntmps35
  go_wp2_with fail
  refine HC.out.mono ?_
  clear HC
  rintro e w4 ⟨g, rfl, hF, hb⟩
  obtain ⟨y0, y1, f0, f1⟩ := BR.below hb BR.lt
  have hlt := BR.lt
  have HB := Lib.hid (HW3.out.trans (hb.mono HW3.out.size))
  have HF := Lib.hid (hF.base HW3.out.size)
  have hg := hF.1
  clear hF hb hW BA BB BR a0 a1 b0 b1
  go_wp2
  have hput := below_put2 HB.out (b := w.heap.size + 1 + 1) (by omega) (.int .i64 (N : Int)) (.slice (some ⟨g, 0, none⟩) K K)
  exact bodyPost_ret (v := .agg #[.int .i64 (N : Int), .slice (some ⟨g, 0, none⟩) K K]) (by simp [results, Tryd.results35, go_sem, y0, y1]) rfl ⟨g, rfl, HF.out.block (heap_put2 _ _ _ _ _ (by omega)), hput⟩

/-- Meet, of sets that may be. -/
theorem Meet_ok (va vb : Value) (n m : Nat) (ws us : List Nat) (w : World) (hva : SV w va (n : Int) ws) (hvb : SV w vb (m : Int) us) (h : Ok n ws) (k : Ok m us) :
    Calls Tryd.prog 35 #[va, vb] w fun e w' => ∃ g, e = .returned (.agg #[.int .i64 (max n m : Nat), .slice (some ⟨g, 0, none⟩) (wcount (max n m)) (wcount (max n m))]) ∧ Fresh w.heap.size w' g (joinW andN n m ws us) ∧ Below w.heap.size w w' := by
  have h1 := Meet_any va vb n m ws us w hva hvb (by have := h.len16; omega) (by have := k.len16; omega) h.wb k.wb
  rw [(nrm_of_ok h).1, (nrm_of_ok h).2, (nrm_of_ok k).1, (nrm_of_ok k).2] at h1
  exact h1

theorem bitAt_comb (f : Nat → Nat → Nat) (g : Bool → Bool → Bool) (hg : ∀ x y i, x < M64 → y < M64 → i < 64 → (f x y).testBit i = g (x.testBit i) (y.testBit i)) (K : Nat) (wa wb : List Nat) (ha : WB wa) (hb : WB wb) (i : Nat) (hi : i < 64 * K) :
    bitAt (combW f K wa wb) i = g (bitAt wa i) (bitAt wb i) := by
  unfold bitAt combW
  have hq : i / 64 < K := by omega
  rw [List.getElem?_map, List.getElem?_range hq]
  simp only [Option.map_some, Option.getD_some]
  exact hg _ _ _ (ha.at _) (hb.at _) (Nat.mod_lt _ (by decide))

theorem tb_or (x y i : Nat) : (orN x y).testBit i = (x.testBit i || y.testBit i) := Nat.testBit_or _ _ _
theorem tb_and (x y i : Nat) : (andN x y).testBit i = (x.testBit i && y.testBit i) := Nat.testBit_and _ _ _
theorem tb_minus (x y i : Nat) (hy : y < M64) (hi : i < 64) : (minusN x y).testBit i = (x.testBit i && !y.testBit i) := by
  unfold minusN
  rw [Nat.testBit_and]
  congr 1
  have e : 18446744073709551615 - y = 2 ^ 64 - (y + 1) := by have h3 : (2 : Nat) ^ 64 = 18446744073709551616 := rfl; have : y < 18446744073709551616 := hy; omega
  rw [e, Nat.testBit_two_pow_sub_succ (by exact hy)]
  simp [hi]

theorem joinW_wb {f : Nat → Nat → Nat} (hl : ∀ x y, x < M64 → y < M64 → f x y < M64) {n m : Nat} {wa wb : List Nat} (ha : WB wa) (hb : WB wb) : WB (joinW f n m wa wb) := by
  intro x hx
  unfold joinW combW at hx
  obtain ⟨j, _, rfl⟩ := List.mem_map.1 hx
  exact hl _ _ (ha.at _) (hb.at _)

/-- The digits of what two sets make. -/
theorem bitAt_join {f : Nat → Nat → Nat} {g : Bool → Bool → Bool} (hg : ∀ x y i, x < M64 → y < M64 → i < 64 → (f x y).testBit i = g (x.testBit i) (y.testBit i)) (h0 : g false false = false) {n m : Nat} {wa wb : List Nat} (ha : Ok n wa) (hb : Ok m wb) (i : Nat) :
    bitAt (joinW f n m wa wb) i = g (bitAt wa i) (bitAt wb i) := by
  by_cases hi : i < 64 * wcount (max n m)
  · exact bitAt_comb f g hg _ wa wb ha.wb hb.wb i hi
  · have h1 : max n m ≤ i := by unfold wcount at hi; omega
    rw [ha.clear (by omega), hb.clear (by omega), h0]
    apply bitAt_out
    unfold joinW
    rw [combW_length]
    omega

theorem Ok.join {f : Nat → Nat → Nat} {g : Bool → Bool → Bool} (hg : ∀ x y i, x < M64 → y < M64 → i < 64 → (f x y).testBit i = g (x.testBit i) (y.testBit i)) (h0 : g false false = false) (hl : ∀ x y, x < M64 → y < M64 → f x y < M64) {n m : Nat} {wa wb : List Nat} (ha : Ok n wa) (hb : Ok m wb) : Ok (max n m) (joinW f n m wa wb) := by
  refine ok_mk (by have := ha.le; have := hb.le; omega) (by unfold joinW; exact combW_length _ _ _ _) (joinW_wb hl ha.wb hb.wb) ?_
  intro i hi
  rw [bitAt_join hg h0 ha hb, ha.clear (by omega), hb.clear (by omega), h0]

theorem bit_union {n m : Nat} {wa wb : List Nat} (ha : Ok n wa) (hb : Ok m wb) (i : Nat) : bitAt (joinW orN n m wa wb) i = (bitAt wa i || bitAt wb i) := bitAt_join (fun x y i _ _ _ => tb_or x y i) rfl ha hb i
theorem bit_meet {n m : Nat} {wa wb : List Nat} (ha : Ok n wa) (hb : Ok m wb) (i : Nat) : bitAt (joinW andN n m wa wb) i = (bitAt wa i && bitAt wb i) := bitAt_join (fun x y i _ _ _ => tb_and x y i) rfl ha hb i
theorem bit_minus {n m : Nat} {wa wb : List Nat} (ha : Ok n wa) (hb : Ok m wb) (i : Nat) : bitAt (joinW minusN n m wa wb) i = (bitAt wa i && !bitAt wb i) := bitAt_join (g := fun a b => a && !b) (fun x y i _ hy hi => tb_minus x y i hy hi) rfl ha hb i
theorem Ok.union {n m : Nat} {wa wb : List Nat} (ha : Ok n wa) (hb : Ok m wb) : Ok (max n m) (joinW orN n m wa wb) := Ok.join (fun x y i _ _ _ => tb_or x y i) rfl wf_or.lt ha hb
theorem Ok.meet {n m : Nat} {wa wb : List Nat} (ha : Ok n wa) (hb : Ok m wb) : Ok (max n m) (joinW andN n m wa wb) := Ok.join (fun x y i _ _ _ => tb_and x y i) rfl wf_and.lt ha hb
theorem Ok.minus {n m : Nat} {wa wb : List Nat} (ha : Ok n wa) (hb : Ok m wb) : Ok (max n m) (joinW minusN n m wa wb) := Ok.join (g := fun a b => a && !b) (fun x y i _ hy hi => tb_minus x y i hy hi) rfl wf_minus.lt ha hb

/-- How many numbers there are, counted over any range that is wide enough. -/
theorem count_eq {n : Nat} {ws : List Nat} (h : Ok n ws) {M : Nat} (hM : n ≤ M) : (nums ws).length = ((List.range M).filter (fun i => bitAt ws i)).length := by
  have hcut : ∀ A B : Nat, A ≤ B → (∀ i, A ≤ i → bitAt ws i = false) → ((List.range B).filter (fun i => bitAt ws i)) = ((List.range A).filter (fun i => bitAt ws i)) := by
    intro A B hAB hc
    have e : List.range B = List.range A ++ (List.range (B - A)).map (A + ·) := by
      rw [← List.range_add]; congr 1; omega
    rw [e, List.filter_append]
    have f : ((List.range (B - A)).map (A + ·)).filter (fun i => bitAt ws i) = [] := by
      rw [List.filter_eq_nil_iff]
      intro i hi
      obtain ⟨j, _, rfl⟩ := List.mem_map.1 hi
      rw [hc _ (by omega)]
      simp
    rw [f, List.append_nil]
  rw [nums_eq, hcut n (64 * ws.length) (by rw [h.len]; unfold wcount; omega) (fun i hi => h.clear hi), hcut n M hM (fun i hi => h.clear hi)]

theorem filter_split (p q : Nat → Bool) (l : List Nat) : (l.filter p).length = (l.filter (fun i => p i && q i)).length + (l.filter (fun i => p i && !q i)).length := by
  induction l with
  | nil => rfl
  | cons x r ih =>
    simp only [List.filter_cons]
    cases p x <;> cases q x <;> simp <;> omega

theorem filter_or_and (p q : Nat → Bool) (l : List Nat) : (l.filter (fun i => p i || q i)).length + (l.filter (fun i => p i && q i)).length = (l.filter p).length + (l.filter q).length := by
  induction l with
  | nil => rfl
  | cons x r ih =>
    simp only [List.filter_cons]
    cases p x <;> cases q x <;> simp <;> omega

theorem count_zero_iff {n : Nat} {ws : List Nat} (_h : Ok n ws) : (nums ws).length = 0 ↔ ∀ i, bitAt ws i = false := by
  rw [List.length_eq_zero_iff, List.eq_nil_iff_forall_not_mem]
  constructor
  · intro h i
    cases hb : bitAt ws i with
    | true => exact absurd (mem_nums.2 hb) (h i)
    | false => rfl
  · intro h i hi
    have := mem_nums.1 hi
    rw [h i] at this
    cases this

theorem leq_iff {m : Nat} {ws us : List Nat} (k : Ok m us) : leqB ws m us = true ↔ ∀ i, bitAt ws i = true → bitAt us i = true := by
  unfold leqB
  rw [List.all_eq_true]
  constructor
  · intro h i hi
    have := h i (mem_nums.2 hi)
    rw [k.hasB] at this
    exact this
  · intro h i hi
    rw [k.hasB]
    exact h i (mem_nums.1 hi)
end Go.Proofs.YtjlofjoekpoepaaDoor
