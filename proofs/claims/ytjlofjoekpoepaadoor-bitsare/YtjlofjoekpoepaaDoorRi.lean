import Derived.Test.YtjlofjoekpoepaaDoorRh
namespace Go.Proofs.YtjlofjoekpoepaaDoor
open Go Go.RowKit Go.Sort

set_option maxHeartbeats 1000000 in
/-- Ints, of the document's answer. -/
theorem Ints_ref (a1 a2 : Option Addr) (w1 w2 : List Int) (c1 c2 : Nat) (w : World) (h1 : Is w.heap.size w a1 w1) (h2 : Is w.heap.size w a2 w2) (hl1 : w1.length ≤ 2000) :
    Calls Tryd.prog 24 #[.slice a1 w1.length c1, .slice a2 w2.length c2] w fun e w' => e = .returned (.bool (decide (w1 = w2))) ∧ Below w.heap.size w w' := by
  by_cases hl : w1.length = w2.length
  · have H1 := Lib.hid h1
    have H2 := Lib.hid h2
    obtain ⟨L, hL⟩ : ∃ L, w1.length = L := ⟨_, rfl⟩
    have hL2 : w2.length = L := by omega
    rw [hL] at hl1
    rw [hL, hL2]
    have HL := Lib.hid hL
    have HL2 := Lib.hid hL2
    have hb0 : ((L : Int) != (L : Int)) = false := by simp
    clear h1 h2 hl hL hL2
    go_enter Tryd.func24, Tryd.ntmps24
    go_wp2
    go_loopw [5] (fun i wr => ∃ k : Nat, k ≤ L ∧ i = .int .i64 k ∧ Hid (w1.take k = w2.take k) ∧ Below w.heap.size w wr) (fun i _ => L - (intOf i).toNat)
    case atStart => exact ⟨0, Nat.zero_le _, rfl, Lib.hid rfl, Below.refl _ _⟩
    case round =>
      obtain ⟨k, hk, rfl, hpre, hnx⟩ := hrel
      by_cases hlt : k < L
      · obtain ⟨b1, o1, rfl, hb1, e1⟩ := H1.out k (by rw [HL.out]; exact hlt)
        obtain ⟨b2, o2, rfl, hb2, e2⟩ := H2.out k (by rw [HL2.out]; exact hlt)
        have g1 := (hnx.cell (p := ⟨b1, o1 + k, none⟩) hb1).trans e1
        have g2 := (hnx.cell (p := ⟨b2, o2 + k, none⟩) hb2).trans e2
        obtain ⟨x, hx⟩ : ∃ x, w1[k]?.getD 0 = x := ⟨_, rfl⟩
        obtain ⟨y, hy⟩ : ∃ y, w2[k]?.getD 0 = y := ⟨_, rfl⟩
        rw [hx] at g1
        rw [hy] at g2
        have HX := Lib.hid hx
        have HY := Lib.hid hy
        have hki : (k : Int) < (L : Int) := by omega
        clear e1 e2 hx hy
        by_cases hxy : x = y
        · subst hxy
          have hbb : (x != x) = false := by simp
          go_wp2
          go_quiet (fail)
          go_wp2
          go_roundw
          case rel =>
            refine ⟨k + 1, by omega, by go_num, ?_, below_drewN hnx _⟩
            have i1 : k < w1.length := by rw [HL.out]; exact hlt
            have i2 : k < w2.length := by rw [HL2.out]; exact hlt
            have e1 := HX.out
            have e2 := HY.out
            simp only [i1, i2, List.getElem?_eq_getElem, Option.getD_some] at e1 e2
            show w1.take (k + 1) = w2.take (k + 1)
            rw [List.take_succ_eq_append_getElem i1, List.take_succ_eq_append_getElem i2, hpre.out, e1, e2]
          case measure => simp [intOf]; omega
        · have hbb : (x != y) = true := by rw [bne_iff_ne]; exact hxy
          have HXY := Lib.hid hxy
          clear hxy
          go_wp2
          go_quiet (fail)
          go_wp2
          go_ret
          refine ⟨ret_bool ?_, below_drewN hnx _⟩
          rw [eq_comm, decide_eq_false_iff_not]
          intro he
          apply HXY.out
          rw [← HX.out, ← HY.out, he]
      · obtain rfl : k = L := by omega
        go_wp2
        go_ret
        refine ⟨ret_bool ?_, hnx⟩
        have := hpre.out
        rw [List.take_of_length_le (by rw [HL.out]; exact Nat.le_refl _), List.take_of_length_le (by rw [HL2.out]; exact Nat.le_refl _)] at this
        simp [this]
  · have hne : ¬ w1 = w2 := fun e => hl (by rw [e])
    have hb0 : ((w1.length : Int) != (w2.length : Int)) = true := by rw [bne_iff_ne]; omega
    have hd : decide (w1 = w2) = false := by simp [hne]
    rw [hd]
    clear h1 h2 hl hne hd
    go_enter Tryd.func24, Tryd.ntmps24
    go_wp2
    go_ret
    exact ⟨rfl, Below.refl _ _⟩


theorem List_racts {va : Value} {n : Nat} {us : List Nat} {w : World} (ha : Acts w va n us) :
    Calls Tryd.prog 13 #[va] w fun e w' => ∃ a cap, e = .returned (.slice a (nums us).length cap) ∧ Is w'.heap.size w' a ((nums us).map fun (x : Nat) => (x : Int)) ∧ Below w.heap.size w w' := by
  obtain ⟨n1, ws1, ⟨a1, cap1, rfl, hWd1⟩, hl1, hWB1, hk, hus⟩ := ha
  refine (List_ref n1 a1 ws1 cap1 w hWd1 hWB1 hl1).mono ?_
  rintro e w' ⟨u, rfl, hown, hb⟩
  rw [hus] at hown
  obtain ⟨a, cap, rfl, hIs⟩ := is_of_owns hown
  exact ⟨a, cap, rfl, hIs, hb⟩

theorem size_racts {va : Value} {n : Nat} {us : List Nat} {w : World} (ha : Acts w va n us) :
    Calls Tryd.prog 41 #[va] w fun e w' => e = .returned (.int .i64 (n : Int)) ∧ Below w.heap.size w w' := by
  obtain ⟨n1, ws1, ⟨a1, cap1, rfl, hWd1⟩, hl1, hWB1, hk, hus⟩ := ha
  rw [← hk]
  exact size_ref n1 a1 ws1 cap1 w hWd1 hWB1 hl1

theorem leq_minus {k m : Nat} {us vs : List Nat} (ok1 : Ok k us) (ok2 : Ok m vs) : leqB us m vs = decide ((nums (joinW minusN k m us vs)).length = 0) := by
  rw [Bool.eq_iff_iff, leq_iff ok2, decide_eq_true_eq, count_zero_iff (ok1.minus ok2)]
  constructor
  · intro h i
    rw [bit_minus ok1 ok2]
    cases hb : bitAt us i with
    | false => rfl
    | true => rw [h i hb]; rfl
  · intro h i hi
    have := h i
    rw [bit_minus ok1 ok2, hi] at this
    simpa using this

theorem nums_inj {n : Nat} {us vs : List Nat} (h : Ok n us) (k : Ok n vs) : (nums us).map (fun (x : Nat) => (x : Int)) = (nums vs).map (fun (x : Nat) => (x : Int)) ↔ us = vs := by
  constructor
  · intro e
    rw [← of_nums h, ← of_nums k, e]
  · intro e; rw [e]

set_option maxRecDepth 100000 in
set_option maxHeartbeats 2000000 in
/-- Leq, of the document's answer. -/
theorem Leq_racts {va vb : Value} {k m : Nat} {us vs : List Nat} {w : World} (ha : Acts w va k us) (hb : Acts w vb m vs) {lq : Bool} (he : leqB us m vs = lq) :
    Calls Tryd.prog 38 #[va, vb] w fun e w' => e = .returned (.bool lq) ∧ Below w.heap.size w w' := by
  have ok1 := ha.ok
  have ok2 := hb.ok
  have okj := ok1.minus ok2
  have hlm := leq_minus ok1 ok2
  rw [he] at hlm
  obtain ⟨N, hN⟩ : ∃ N, max k m = N := ⟨_, rfl⟩
  obtain ⟨K, hK⟩ : ∃ K, wcount N = K := ⟨_, rfl⟩
  rw [hN] at okj
  have HA := Lib.hid ha
  have HB := Lib.hid hb
  have FM : Hid (∀ W, Below w.heap.size w W → Calls Tryd.prog 34 #[va, vb] W fun e w' => ∃ g, e = .returned (.agg #[.int .i64 (N : Int), .slice (some ⟨g, 0, none⟩) K K]) ∧ Fresh W.heap.size w' g (joinW minusN k m us vs) ∧ Below W.heap.size W w') := fun W hW =>
    Minus_racts (HA.out.below hW) (HB.out.below hW) hN hK
  obtain ⟨js, hjs⟩ : ∃ js, joinW minusN k m us vs = js := ⟨_, rfl⟩
  rw [hjs] at okj hlm FM
  obtain ⟨T, hT⟩ : ∃ T, (nums js).length = T := ⟨_, rfl⟩
  rw [hT] at hlm
  have FL : Hid (∀ W g, Fresh 0 W g js → Calls Tryd.prog 13 #[.agg #[.int .i64 (N : Int), .slice (some ⟨g, 0, none⟩) K K]] W fun e w' => ∃ a cap, e = .returned (.slice a T cap) ∧ Below W.heap.size W w') := fun W g hF => by
    refine (List_racts (Acts.fresh hF okj hK)).mono ?_
    rintro e w' ⟨a, cap, he, _, hb⟩
    rw [hT] at he
    exact ⟨a, cap, he, hb⟩
  have hTq : ((T : Int) == 0) = lq := by rw [hlm, Bool.eq_iff_iff]; simp
  have hTl : (T : Int) ≤ 1024 := by rw [← hT]; have := count_le okj; have := okj.le; omega
  obtain ⟨n1, ws1, ⟨a1, cap1, rfl, -⟩, -⟩ := ha
  obtain ⟨n2, ws2, ⟨a2, cap2, rfl, -⟩, -⟩ := hb
  obtain ⟨L1, hL1⟩ : ∃ L, ws1.length = L := ⟨_, rfl⟩
  obtain ⟨L2, hL2⟩ : ∃ L, ws2.length = L := ⟨_, rfl⟩
  rw [hL1, hL2] at FM ⊢
  clear HA HB ok1 ok2 okj hlm he hN hK hjs hT hL1 hL2
  have hW1 : Below w.heap.size w ((w.alloc (.cells #[.int .i64 n1, .slice a1 L1 cap1] 24)).alloc (.cells #[.int .i64 n2, .slice a2 L2 cap2] 24)) := ((Below.refl _ _).alloc (Nat.le_refl _) _).alloc (by simp) _
  have BA := (Box.new w (.int .i64 n1) (.slice a1 L1 cap1) 24).alloc (.cells #[.int .i64 n2, .slice a2 L2 cap2] 24)
  have BB := Box.new (w.alloc (.cells #[.int .i64 n1, .slice a1 L1 cap1] 24)) (.int .i64 n2) (.slice a2 L2 cap2) 24
  simp only [World.size_alloc] at BB
  generalize hW : (w.alloc (.cells #[.int .i64 n1, .slice a1 L1 cap1] 24)).alloc (.cells #[.int .i64 n2, .slice a2 L2 cap2] 24) = W1 at *
  have HW := Lib.hid hW1
  obtain ⟨x0, x1, -, -⟩ := BA
  obtain ⟨y0, y1, -, -⟩ := BB
  clear hW1
  go_enter Tryd.func38, Tryd.ntmps38
  go_wp2_with fail
  refine (FM.out _ HW.out).mono ?_
  clear x0 x1 y0 y1 hW FM
  rintro e w1 ⟨g, rfl, hF, hb⟩
  have HB1 := Lib.hid (HW.out.trans (hb.mono HW.out.size))
  have HF := Lib.hid (hF.base (Nat.zero_le _))
  clear hb hF
  go_wp2_with fail
  refine (FL.out _ _ HF.out).mono ?_
  rintro e w2 ⟨al, cl, rfl, hb⟩
  have HB2 := Lib.hid (HB1.out.trans (hb.mono HB1.out.size))
  clear hb
  go_wp2
  go_ret
  exact ⟨rfl, HB2.out⟩

set_option maxRecDepth 100000 in
set_option maxHeartbeats 4000000 in
/-- Same, of the document's answer. -/
theorem Same_racts {va vb : Value} {k m : Nat} {us vs : List Nat} {w : World} (ha : Acts w va k us) (hb : Acts w vb m vs) {sm : Bool} (he : decide (k = m ∧ us = vs) = sm) :
    Calls Tryd.prog 40 #[va, vb] w fun e w' => e = .returned (.bool sm) ∧ Below w.heap.size w w' := by
  have ok1 := ha.ok
  have ok2 := hb.ok
  have HA := Lib.hid ha
  have HB := Lib.hid hb
  have S1 : Hid (∀ W, Below w.heap.size w W → Calls Tryd.prog 41 #[va] W fun e w' => e = .returned (.int .i64 (k : Int)) ∧ Below W.heap.size W w') := fun W hW => size_racts (HA.out.below hW)
  have S2 : Hid (∀ W, Below w.heap.size w W → Calls Tryd.prog 41 #[vb] W fun e w' => e = .returned (.int .i64 (m : Int)) ∧ Below W.heap.size W w') := fun W hW => size_racts (HB.out.below hW)
  obtain ⟨T1, hT1⟩ : ∃ T, (nums us).length = T := ⟨_, rfl⟩
  obtain ⟨T2, hT2⟩ : ∃ T, (nums vs).length = T := ⟨_, rfl⟩
  have F1 : Hid (∀ W, Below w.heap.size w W → Calls Tryd.prog 13 #[va] W fun e w' => ∃ a cap, e = .returned (.slice a T1 cap) ∧ Is w'.heap.size w' a ((nums us).map fun (x : Nat) => (x : Int)) ∧ Below W.heap.size W w') := fun W hW => by
    have h := List_racts (HA.out.below hW)
    rw [hT1] at h
    exact h
  have F2 : Hid (∀ W, Below w.heap.size w W → Calls Tryd.prog 13 #[vb] W fun e w' => ∃ a cap, e = .returned (.slice a T2 cap) ∧ Is w'.heap.size w' a ((nums vs).map fun (x : Nat) => (x : Int)) ∧ Below W.heap.size W w') := fun W hW => by
    have h := List_racts (HB.out.below hW)
    rw [hT2] at h
    exact h
  have F3 : Hid (k = m → ∀ W a c b d, Is W.heap.size W a ((nums us).map fun (x : Nat) => (x : Int)) → Is W.heap.size W b ((nums vs).map fun (x : Nat) => (x : Int)) → Calls Tryd.prog 24 #[.slice a T1 c, .slice b T2 d] W fun e w' => e = .returned (.bool sm) ∧ Below W.heap.size W w') := fun hkm W a c b d h1 h2 => by
    have h := Ints_ref a b _ _ c d W h1 h2 (by rw [List.length_map]; have := count_le ok1; have := ok1.le; omega)
    rw [List.length_map, List.length_map, hT1, hT2] at h
    subst hkm
    have e : decide ((nums us).map (fun (x : Nat) => (x : Int)) = (nums vs).map (fun (x : Nat) => (x : Int))) = sm := by
      rw [← he, Bool.eq_iff_iff, decide_eq_true_eq, decide_eq_true_eq, nums_inj ok1 ok2]
      simp
    rw [e] at h
    exact h
  generalize (nums us).map (fun (x : Nat) => (x : Int)) = l1 at *
  generalize (nums vs).map (fun (x : Nat) => (x : Int)) = l2 at *
  obtain ⟨n1, ws1, ⟨a1, cap1, rfl, -⟩, -⟩ := ha
  obtain ⟨n2, ws2, ⟨a2, cap2, rfl, -⟩, -⟩ := hb
  obtain ⟨L1, hL1⟩ : ∃ L, ws1.length = L := ⟨_, rfl⟩
  obtain ⟨L2, hL2⟩ : ∃ L, ws2.length = L := ⟨_, rfl⟩
  rw [hL1] at S1 F1
  rw [hL2] at S2 F2
  rw [hL1, hL2]
  have hk1 := ok1.le
  have hm1 := ok2.le
  clear HA HB ok1 ok2 hT1 hT2 hL1 hL2
  have hW1 : Below w.heap.size w ((w.alloc (.cells #[.int .i64 n1, .slice a1 L1 cap1] 24)).alloc (.cells #[.int .i64 n2, .slice a2 L2 cap2] 24)) := ((Below.refl _ _).alloc (Nat.le_refl _) _).alloc (by simp) _
  have BA := (Box.new w (.int .i64 n1) (.slice a1 L1 cap1) 24).alloc (.cells #[.int .i64 n2, .slice a2 L2 cap2] 24)
  have BB := Box.new (w.alloc (.cells #[.int .i64 n1, .slice a1 L1 cap1] 24)) (.int .i64 n2) (.slice a2 L2 cap2) 24
  simp only [World.size_alloc] at BB
  generalize hW : (w.alloc (.cells #[.int .i64 n1, .slice a1 L1 cap1] 24)).alloc (.cells #[.int .i64 n2, .slice a2 L2 cap2] 24) = W1 at *
  have HW := Lib.hid hW1
  have hS : Hid (∀ w', Below W1.heap.size W1 w' → w'.cell? ⟨w.heap.size, 0, none⟩ = some (.int .i64 n1) ∧ w'.cell? ⟨w.heap.size, 1, none⟩ = some (.slice a1 L1 cap1) ∧ w'.cell? ⟨w.heap.size + 1, 0, none⟩ = some (.int .i64 n2) ∧ w'.cell? ⟨w.heap.size + 1, 1, none⟩ = some (.slice a2 L2 cap2)) := fun W h =>
    ⟨(h.cell (p := ⟨w.heap.size, 0, none⟩) BA.lt).trans BA.c0, (h.cell (p := ⟨w.heap.size, 1, none⟩) BA.lt).trans BA.c1, (h.cell (p := ⟨w.heap.size + 1, 0, none⟩) BB.lt).trans BB.c0, (h.cell (p := ⟨w.heap.size + 1, 1, none⟩) BB.lt).trans BB.c1⟩
  have HBN : Hid (Below W1.heap.size W1 W1.drew) := (Below.refl _ _).drew
  clear BA BB hW1
  have tok1 : True := trivial
  have tok2 : True := trivial
  have tok3 : True := trivial
  have tok4 : True := trivial
  have tok5 : True := trivial
  by_cases hkm : k = m
  · have g1 : ((k : Int) == (m : Int)) = true := by simp [hkm]
    have g2 : (k == m) = true := by simp [hkm]
    have g3 : decide (k = m) = true := by simp [hkm]
    have F3' := Lib.hid (F3.out hkm)
    clear F3 hkm he
    go_enter Tryd.func40, Tryd.ntmps40
    go_wp2_with fail
    clear hW
    go_region_held3 (fun w' => w'.cell? ⟨w.heap.size, 0, none⟩ = some (.int .i64 n1) ∧ w'.cell? ⟨w.heap.size, 1, none⟩ = some (.slice a1 L1 cap1) ∧ w'.cell? ⟨w.heap.size + 1, 0, none⟩ = some (.int .i64 n2) ∧ w'.cell? ⟨w.heap.size + 1, 1, none⟩ = some (.slice a2 L2 cap2))
      (first | exact hS.out _ HBN.out)
      (first
        | (have _t := tok1; go_at_call 41; refine (S1.out _ (HW.out.trans (HBN.out.mono HW.out.size))).mono ?_; clear _t tok1; rintro e wn ⟨rfl, hbn⟩; have hbx := HBN.out.trans (hbn.mono HBN.out.size); clear HBN hbn; have HBN := Lib.hid hbx; clear hbx)
        | (have _t := tok2; go_at_call 41; refine (S2.out _ (HW.out.trans (HBN.out.mono HW.out.size))).mono ?_; clear _t tok2; rintro e wn ⟨rfl, hbn⟩; have hbx := HBN.out.trans (hbn.mono HBN.out.size); clear HBN hbn; have HBN := Lib.hid hbx; clear hbx)
        | (have _t := tok3; go_at_call 13; refine (F1.out _ (HW.out.trans (HBN.out.mono HW.out.size))).mono ?_; clear _t tok3; rintro e wn ⟨al, cl, rfl, hIs, hbn⟩; have hbx := HBN.out.trans (hbn.mono HBN.out.size); clear HBN hbn; have HBN := Lib.hid hbx; clear hbx; have HI1 := Lib.hid hIs; clear hIs)
        | (have _t := tok4; go_at_call 13; refine (F2.out _ (HW.out.trans (HBN.out.mono HW.out.size))).mono ?_; clear _t tok4; rintro e wn ⟨am, cm, rfl, hIs, hbn⟩; have hI1 := (HI1.out.below hbn).mono hbn.size; clear HI1; have HI1 := Lib.hid hI1; clear hI1; have hbx := HBN.out.trans (hbn.mono HBN.out.size); clear HBN hbn; have HBN := Lib.hid hbx; clear hbx; have HI2 := Lib.hid hIs; clear hIs)
        | (have _t := tok5; go_at_call 24; refine (F3'.out _ _ _ _ _ HI1.out HI2.out).mono ?_; clear _t tok5; rintro e wn ⟨rfl, hbn⟩; have hbx := HBN.out.trans (hbn.mono HBN.out.size); clear HBN hbn; have HBN := Lib.hid hbx; clear hbx))
    all_goals
      go_wp2_with fail
      go_ret
      exact ⟨rfl, HW.out.trans (HBN.out.mono HW.out.size)⟩
  · have g1 : ((k : Int) == (m : Int)) = false := by rw [beq_eq_false_iff_ne]; omega
    have g2 : (k == m) = false := by rw [beq_eq_false_iff_ne]; omega
    have g3 : decide (k = m) = false := by simp [hkm]
    have hsm : sm = false := by rw [← he]; simp [hkm]
    subst hsm
    have k0 := cell_regrown (hS.out W1 (Below.refl _ _)).1
    have k1 := cell_regrown (hS.out W1 (Below.refl _ _)).2.1
    have k2 := cell_regrown (hS.out W1 (Below.refl _ _)).2.2.1
    have k3 := cell_regrown (hS.out W1 (Below.refl _ _)).2.2.2
    have c1 : ∀ d os, Calls Tryd.prog 41 #[.agg #[.int .i64 n1, .slice a1 L1 cap1]] (grow (redrawn W1 d) os) fun e w'' => e = .returned (.int .i64 (k : Int)) ∧ ∃ p : Regrown, w'' = grow (redrawn W1 p.d) p.os :=
      fun d os => Calls.regrown_of (S1.out _ (HW.out.trans ((below_regrown W1 d os).mono HW.out.size)))
    have c2 : ∀ d os, Calls Tryd.prog 41 #[.agg #[.int .i64 n2, .slice a2 L2 cap2]] (grow (redrawn W1 d) os) fun e w'' => e = .returned (.int .i64 (m : Int)) ∧ ∃ p : Regrown, w'' = grow (redrawn W1 p.d) p.os :=
      fun d os => Calls.regrown_of (S2.out _ (HW.out.trans ((below_regrown W1 d os).mono HW.out.size)))
    clear F3 F1 F2 hkm he tok1 tok2 tok3 tok4 tok5 hS HBN S1 S2
    go_enter Tryd.func40, Tryd.ntmps40
    go_wp2_with fail
    clear hW
    refine wp_region_quiet_below (by kernel_rfl) (by kernel_rfl) ?_
    repeat (first | go_big_quiet_step (first | with_reducible exact c1 _ _ | with_reducible exact c2 _ _) | quiet_step (first | with_reducible exact c1 _ _ | with_reducible exact c2 _ _))
    refine wpQuiet_nil ?_
    intro _ hw'
    obtain ⟨⟨dq, osq⟩, hw''⟩ := hw'
    subst hw''
    go_wp2_with fail
    go_ret
    exact ⟨rfl, HW.out.trans ((below_regrown W1 dq osq).mono HW.out.size)⟩
end Go.Proofs.YtjlofjoekpoepaaDoor
