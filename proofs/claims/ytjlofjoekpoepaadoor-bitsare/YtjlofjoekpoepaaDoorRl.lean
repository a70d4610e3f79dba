import Derived.Test.YtjlofjoekpoepaaDoorRk
namespace Go.Proofs.YtjlofjoekpoepaaDoor
open Go Go.RowKit Go.Sort

/-- A set's numbers but one, as words. -/
theorem of_drop {k : Nat} {us : List Nat} (h : Ok k us) (i : Int) : ofW k ((((nums us).map fun (x : Nat) => (x : Int))).filter (fun x => x != i)) = dropW k us i := by
  apply (ok_of h.le _).ext (h.drop i)
  intro j hj
  have e : bitAt (dropW k us i) j = (bitAt us j && decide ((j : Int) ≠ i)) := by
    by_cases hx : 0 ≤ i ∧ i < k
    · rw [bitAt_drop h.len hx.1 hx.2]
      congr 1
      rw [Bool.eq_iff_iff, decide_eq_true_eq, decide_eq_true_eq]
      omega
    · rw [dropW_out hx]
      have : (j : Int) ≠ i := by omega
      simp [this]
  rw [bitAt_of, e, Bool.eq_iff_iff]
  simp only [List.any_eq_true, List.mem_filter, List.mem_map, decide_eq_true_eq, Bool.and_eq_true, bne_iff_ne]
  constructor
  · rintro ⟨x, ⟨⟨y, hy, rfl⟩, hne⟩, h0, hk, hx⟩
    have : y = j := by omega
    subst this
    exact ⟨mem_nums.1 hy, hne⟩
  · rintro ⟨hb, hne⟩
    exact ⟨(j : Int), ⟨⟨j, mem_nums.2 hb, rfl⟩, hne⟩, by omega, by omega, by omega⟩

/-- What is kept of the first q. -/
def kept (l : List Int) (i : Int) (q : Nat) : List Int := (l.take q).filter (fun x => x != i)
theorem kept_succ (l : List Int) (i : Int) (q : Nat) (h : q < l.length) : kept l i (q + 1) = kept l i q ++ (if l[q]?.getD 0 != i then [l[q]?.getD 0] else []) := by
  unfold kept
  rw [List.take_succ_eq_append_getElem h, List.filter_append]
  congr 1
  have e : l[q]?.getD 0 = l[q] := by simp [h]
  rw [e]
  by_cases hx : l[q] = i <;> simp [hx]
theorem kept_le (l : List Int) (i : Int) (q : Nat) : (kept l i q).length ≤ q := by
  unfold kept
  have := List.length_filter_le (fun x => x != i) (l.take q)
  have h2 := List.length_take_le q l
  omega

set_option maxRecDepth 100000 in
set_option maxHeartbeats 4000000 in
/-- Without, of the document's answer. -/
theorem Without_racts {va : Value} {k : Nat} {us : List Nat} {w : World} (ha : Acts w va k us) (i : Int) {K : Nat} (hK : wcount k = K) :
    Calls Tryd.prog 23 #[va, .int .i64 i] w fun e w' => ∃ g, e = .returned (.agg #[.int .i64 (k : Int), .slice (some ⟨g, 0, none⟩) K K]) ∧ Fresh w.heap.size w' g (dropW k us i) ∧ Below w.heap.size w w' := by
  have ok1 := ha.ok
  have hk1 := ok1.le
  have HA0 := Lib.hid ha
  obtain ⟨l1, hl1⟩ : ∃ l : List Int, ((nums us).map fun (x : Nat) => (x : Int)) = l := ⟨_, rfl⟩
  obtain ⟨T, hT⟩ : ∃ T, (nums us).length = T := ⟨_, rfl⟩
  have hT1 : T ≤ 1024 := by rw [← hT]; have := count_le ok1; omega
  have hll : l1.length = T := by rw [← hl1, List.length_map, hT]
  have hofw : ofW k (kept l1 i T) = dropW k us i := by rw [← of_drop ok1 i, hl1]; unfold kept; rw [List.take_of_length_le (by omega)]
  have FL : Hid (∀ W, Below w.heap.size w W → Calls Tryd.prog 13 #[va] W fun e w' => ∃ u, e = .returned u ∧ w'.ownsRow W.heap.size 3 1 u T (l1.map (Value.int .i64)) ∧ Below W.heap.size W w') := fun W hW => by
    have h := List_own (HA0.out.below hW)
    rw [hl1, hT] at h
    exact h
  have FZ : Hid (∀ W, Below w.heap.size w W → Calls Tryd.prog 41 #[va] W fun e w' => e = .returned (.int .i64 (k : Int)) ∧ Below W.heap.size W w') := fun W hW => size_racts (HA0.out.below hW)
  have FO : Hid (∀ W a cap Z, (kept l1 i T).length = Z → Is W.heap.size W a (kept l1 i T) → Calls Tryd.prog 28 #[.int .i64 (k : Int), .slice a Z cap] W fun e w' => ∃ g, e = .returned (.agg #[.int .i64 (k : Int), .slice (some ⟨g, 0, none⟩) K K]) ∧ Fresh W.heap.size w' g (dropW k us i) ∧ Below W.heap.size W w') := fun W a cap Z hZ hIs => by
    have h := Of_at (cap := cap) hk1 hK hIs (T := Z) hZ (by have := kept_le l1 i T; omega)
    rw [hofw] at h
    exact h
  obtain ⟨n1, ws1, ⟨a1, cap1, rfl, -⟩, -⟩ := ha
  obtain ⟨L1, hL1⟩ : ∃ L, ws1.length = L := ⟨_, rfl⟩
  rw [hL1] at FL FZ ⊢
  obtain ⟨i0, hi, hz0, hz1, hz2⟩ := info_parts Tryd_info3
  generalize dropW k us i = js at *
  have HLL := Lib.hid hll
  clear HA0 ok1 hk1 hl1 hT hofw hL1 hK hll
  have hW1 : Below w.heap.size w ((w.alloc (.cells #[.int .i64 n1, .slice a1 L1 cap1] 24)).alloc (.cells #[.int .i64 0, .slice none 0 0] 24)) := ((Below.refl _ _).alloc (Nat.le_refl _) _).alloc (by simp) _
  have BA := (Box.new w (.int .i64 n1) (.slice a1 L1 cap1) 24).alloc (.cells #[.int .i64 0, .slice none 0 0] 24)
  have BR := Box.new (w.alloc (.cells #[.int .i64 n1, .slice a1 L1 cap1] 24)) (.int .i64 0) (.slice none 0 0) 24
  simp only [World.size_alloc] at BR
  generalize hW : (w.alloc (.cells #[.int .i64 n1, .slice a1 L1 cap1] 24)).alloc (.cells #[.int .i64 0, .slice none 0 0] 24) = W1 at *
  have HW := Lib.hid hW1
  have HA := Lib.hid BA
  have HR := Lib.hid BR
  obtain ⟨x0, x1, -, -⟩ := BA
  clear hW1 BR
  go_enter Tryd.func23, Tryd.ntmps23
  go_wp2_with fail
  refine (FL.out _ HW.out).mono ?_
  clear FL x0 x1 hW
  rintro e w1 ⟨u, rfl, hown, hb⟩
  obtain ⟨al, cl, rfl, -, hIs⟩ := is_of_ints hown
  have HIs := Lib.hid hIs
  have HB1 := Lib.hid hb
  clear hown hb hIs
  go_wp2_with fail
  go_loopw [5, 7] (fun v x wr => ∃ q : Nat, q ≤ T ∧ x = .int .i64 q ∧ Hid (wr.ownsRow w1.heap.size 3 1 v (kept l1 i q).length ((kept l1 i q).map (Value.int .i64))) ∧ Hid (Below w1.heap.size w1 wr)) (fun _ x _ => T - (intOf x).toNat)
  case atStart => exact ⟨0, Nat.zero_le _, rfl, World.ownsRow_nil _ _ _ _, Below.refl _ _⟩
  case round =>
    obtain ⟨q, hq, rfl, hown, hBw⟩ := hrel
    by_cases hlt : q < T
    · obtain ⟨b, o, rfl, hbl, hcell⟩ := HIs.out q (by rw [HLL.out]; exact hlt)
      have hcx := (hBw.out.cell (p := ⟨b, o + q, none⟩) hbl).trans hcell
      have hks := kept_succ l1 i q (by rw [HLL.out]; exact hlt)
      obtain ⟨x, hx⟩ : ∃ x, l1[q]?.getD 0 = x := ⟨_, rfl⟩
      rw [hx] at hcx hks
      have hkl := kept_le l1 i q
      have h63 : (kept l1 i q).length + 1 ≤ maxLen := by unfold maxLen; omega
      have hby : ((kept l1 i q).length + 1) * 8 ≤ 140737488355328 := by omega
      have hqi : (q : Int) < (T : Int) := by omega
      clear hcell hx
      by_cases hxi : x = i
      · have hb0 : (x != i) = false := by simp [hxi]
        rw [hb0, if_neg (by simp), List.append_nil] at hks
        have HKS := Lib.hid hks
        clear hks hxi
        go_wp2
        go_roundw
        case rel => exact ⟨q + 1, by omega, by go_num, by rw [HKS.out]; exact hown, hBw⟩
        case measure => simp [intOf]; omega
      · have hb0 : (x != i) = true := by simpa using hxi
        rw [hb0, if_pos rfl] at hks
        have HKS := Lib.hid hks
        have ha1 := fun ob => ((hBw.out.alloc hBw.out.size ob).cell (p := ⟨b, o + q, none⟩) hbl)
        clear hks hxi ha1
        go_wp2_with (at_builtin; refine wpList_append_own _ rfl _ _ 25 rfl w1.heap.size 3 i0 (.int .i64 0) 1 8 Tryd.underlying25 hi hz0 hz1 hz2 rfl (by decide) _ _ _ rfl (hown.out.alloc _) ⟨_, 0, none⟩ 1 1 [.int .i64 x] rfl rfl (cell_one_new _ _ _) (by simp [Value.oneCell']) h63 hby (by have := hBw.out.size; simp; omega) ?_; intro v' w4 hown' hgrow _; have HB4 := Lib.hid (owns_grown (hBw.out.alloc hBw.out.size _) (hown.out.alloc _) hgrow (by have := hBw.out.size; simp; omega)); have HO4 := Lib.hid hown'; clear hown' hgrow)
        go_roundw
        case rel =>
          refine ⟨q + 1, by omega, by go_num, ?_, HB4⟩
          rw [HKS.out]
          show w4.ownsRow w1.heap.size 3 1 _ (kept l1 i q ++ [x]).length ((kept l1 i q ++ [x]).map (Value.int .i64))
          simpa using HO4.out
        case measure => simp [intOf]; omega
    · obtain rfl : q = T := by omega
      have HBq := Lib.hid (HB1.out.trans (hBw.out.mono HB1.out.size))
      obtain ⟨x0, x1, -, -⟩ := HA.out.below HBq.out HA.out.lt
      go_wp2_with fail
      refine (FZ.out _ (HW.out.trans (HBq.out.mono HW.out.size))).mono ?_
      clear x0 x1
      rintro e w5 ⟨rfl, hb⟩
      obtain ⟨am, cm, rfl, hZ, hIs⟩ := is_of_ints hown.out
      have HI5 := Lib.hid ((hIs.below hb).mono hb.size)
      have HB5 := Lib.hid (HBq.out.trans (hb.mono HBq.out.size))
      clear hIs hb hZ
      go_wp2_with fail
      refine (FO.out _ _ _ _ rfl HI5.out).mono ?_
      rintro e w6 ⟨g, rfl, hF, hb⟩
      have hg1 := hF.1
      have HF := Lib.hid hF
      have hs1 := HB5.out.size
      have hs0 := HW.out.size
      have hrl := HR.out.lt
      have HB6 := Lib.hid (HB5.out.trans (hb.mono HB5.out.size))
      obtain ⟨z0, z1, f0, f1⟩ := HR.out.below HB6.out HR.out.lt
      clear hF hb
      go_wp2_with fail
      exact bodyPost_ret (v := .agg #[.int .i64 (k : Int), .slice (some ⟨g, 0, none⟩) K K]) (by simp [results, Tryd.results23, go_sem, z0, z1]) rfl
        ⟨g, rfl, (HF.out.base (by omega)).block (heap_put2 _ _ _ _ _ (by omega)), below_put2 (HW.out.trans (HB6.out.mono HW.out.size)) (by omega) _ _⟩
end Go.Proofs.YtjlofjoekpoepaaDoor
