import Derived.Test.YtjlofjoekpoepaaDoorRg
import Derived.Test.YtjlofjoekpoepaaDoorCd
namespace Go.Proofs.YtjlofjoekpoepaaDoor
open Go Go.RowKit Go.Sort

theorem of_told {N : Nat} (p : Nat → Bool) {js : List Nat} (hok : Ok N js) (hp : ∀ i, bitAt js i = p i) : ofW N ((told p N).map fun (x : Nat) => (x : Int)) = js := by
  apply (ok_of hok.le _).ext hok
  intro i hi
  rw [bitAt_of, hp, Bool.eq_iff_iff]
  simp only [List.any_map, List.any_eq_true, Function.comp, decide_eq_true_eq, told, List.mem_filter, List.mem_range]
  constructor
  · rintro ⟨x, ⟨_, hx⟩, _, _, e⟩
    rw [← e]; simpa using hx
  · intro h
    exact ⟨i, ⟨hi, h⟩, by omega, by omega, by simp⟩

theorem Fresh.out_of {N : Nat} {W : World} {g : Nat} {ws us : List Nat} (h : Fresh N W g ws) (e : ws = us) : Fresh N W g us := e ▸ h

set_option maxRecDepth 100000 in
set_option maxHeartbeats 2000000 in
/-- Union, of the document's answer. -/
theorem Union_racts {va vb : Value} {k m : Nat} {us vs : List Nat} {w : World} (ha : Acts w va k us) (hb : Acts w vb m vs) {N K : Nat} (hN : max k m = N) (hK : wcount N = K) :
    Calls Tryd.prog 32 #[va, vb] w fun e w' => ∃ g, e = .returned (.agg #[.int .i64 (N : Int), .slice (some ⟨g, 0, none⟩) K K]) ∧ Fresh w.heap.size w' g (joinW orN k m us vs) ∧ Below w.heap.size w w' := by
  have ok1 := ha.ok
  have ok2 := hb.ok
  have okj := ok1.union ok2
  rw [hN] at okj
  have hbj := bit_union ok1 ok2
  obtain ⟨n1, ws1, ⟨a1, cap1, rfl, hWd1⟩, hl1, hWB1, hk, hus⟩ := ha
  obtain ⟨n2, ws2, ⟨a2, cap2, rfl, hWd2⟩, hl2, hWB2, hm, hvs⟩ := hb
  obtain ⟨js, hjs⟩ : ∃ js, joinW orN k m us vs = js := ⟨_, rfl⟩
  rw [hjs] at okj hbj ⊢
  have HP : Hid (∀ W, Below w.heap.size w W → Calls Tryd.prog 54 #[.agg #[.int .i64 n1, .slice a1 ws1.length cap1], .agg #[.int .i64 n2, .slice a2 ws2.length cap2], .int .i64 0] W fun e w' =>
      ∃ g, e = .returned (.agg #[.int .i64 (N : Int), .slice (some ⟨g, 0, none⟩) K K]) ∧ Fresh W.heap.size w' g js ∧ Below W.heap.size W w') := fun W hw => by
    refine (pick0_ref n1 a1 ws1 cap1 n2 a2 ws2 cap2 W ((hWd1.below hw).mono hw.size) hWB1 hl1 ((hWd2.below hw).mono hw.size) hWB2 hl2 k m us vs hk hm hus hvs N K hN hK (fun i => bitAt js i) (fun i => by rw [hbj])).mono ?_
    rintro e w' ⟨g, he, hF, hb⟩
    exact ⟨g, he, hF.out_of (of_told _ okj (fun _ => rfl)), hb⟩
  obtain ⟨L1, hL1⟩ : ∃ L, ws1.length = L := ⟨_, rfl⟩
  obtain ⟨L2, hL2⟩ : ∃ L, ws2.length = L := ⟨_, rfl⟩
  rw [hL1, hL2] at HP ⊢
  clear hWd1 hWd2 hWB1 hWB2 hl1 hl2 hk hm hus hvs hN hK hbj okj ok1 ok2 hjs hL1 hL2
  have hW1 : Below w.heap.size w (((w.alloc (.cells #[.int .i64 n1, .slice a1 L1 cap1] 24)).alloc (.cells #[.int .i64 n2, .slice a2 L2 cap2] 24)).alloc (.cells #[.int .i64 0, .slice none 0 0] 24)) := (((Below.refl _ _).alloc (Nat.le_refl _) _).alloc (by simp) _).alloc (by simp <;> omega) _
  have BA := ((Box.new w (.int .i64 n1) (.slice a1 L1 cap1) 24).alloc (.cells #[.int .i64 n2, .slice a2 L2 cap2] 24)).alloc (.cells #[.int .i64 0, .slice none 0 0] 24)
  have BB := (Box.new (w.alloc (.cells #[.int .i64 n1, .slice a1 L1 cap1] 24)) (.int .i64 n2) (.slice a2 L2 cap2) 24).alloc (.cells #[.int .i64 0, .slice none 0 0] 24)
  have BR := Box.new ((w.alloc (.cells #[.int .i64 n1, .slice a1 L1 cap1] 24)).alloc (.cells #[.int .i64 n2, .slice a2 L2 cap2] 24)) (.int .i64 0) (.slice none 0 0) 24
  simp only [World.size_alloc] at BB BR
  generalize hW : ((w.alloc (.cells #[.int .i64 n1, .slice a1 L1 cap1] 24)).alloc (.cells #[.int .i64 n2, .slice a2 L2 cap2] 24)).alloc (.cells #[.int .i64 0, .slice none 0 0] 24) = W1 at *
  have HR := Lib.hid BR
  have HW := Lib.hid hW1
  obtain ⟨x0, x1, -, -⟩ := BA
  obtain ⟨y0, y1, -, -⟩ := BB
  clear BR hW1
  go_enter Tryd.func32, Tryd.ntmps32
  go_wp2_with fail
  refine (HP.out _ HW.out).mono ?_
  clear x0 x1 y0 y1 hW HP
  rintro e w1 ⟨g, rfl, hF, hb⟩
  have HB := Lib.hid (HW.out.trans (hb.mono HW.out.size))
  obtain ⟨z0, z1, f0, f1⟩ := HR.out.below hb HR.out.lt
  have hgg : Hid (w.heap.size + 1 + 1 ≠ g) := by
    have h1 := hF.1
    have h2 := HR.out.lt
    show _ ≠ _
    omega
  have HF := Lib.hid (hF.base HW.out.size)
  clear hF hb
  go_wp2_with fail
  exact bodyPost_ret (v := .agg #[.int .i64 (N : Int), .slice (some ⟨g, 0, none⟩) K K]) (by simp [results, Tryd.results32, go_sem, z0, z1]) rfl
    ⟨g, rfl, HF.out.block (heap_put2 _ _ _ _ _ (Ne.symm hgg.out)), below_put2 HB.out (by omega) _ _⟩

set_option maxRecDepth 100000 in
set_option maxHeartbeats 2000000 in
/-- Minus, of the document's answer. -/
theorem Minus_racts {va vb : Value} {k m : Nat} {us vs : List Nat} {w : World} (ha : Acts w va k us) (hb : Acts w vb m vs) {N K : Nat} (hN : max k m = N) (hK : wcount N = K) :
    Calls Tryd.prog 34 #[va, vb] w fun e w' => ∃ g, e = .returned (.agg #[.int .i64 (N : Int), .slice (some ⟨g, 0, none⟩) K K]) ∧ Fresh w.heap.size w' g (joinW minusN k m us vs) ∧ Below w.heap.size w w' := by
  have ok1 := ha.ok
  have ok2 := hb.ok
  have okj := ok1.minus ok2
  rw [hN] at okj
  have hbj := bit_minus ok1 ok2
  obtain ⟨n1, ws1, ⟨a1, cap1, rfl, hWd1⟩, hl1, hWB1, hk, hus⟩ := ha
  obtain ⟨n2, ws2, ⟨a2, cap2, rfl, hWd2⟩, hl2, hWB2, hm, hvs⟩ := hb
  obtain ⟨js, hjs⟩ : ∃ js, joinW minusN k m us vs = js := ⟨_, rfl⟩
  rw [hjs] at okj hbj ⊢
  have HP : Hid (∀ W, Below w.heap.size w W → Calls Tryd.prog 54 #[.agg #[.int .i64 n1, .slice a1 ws1.length cap1], .agg #[.int .i64 n2, .slice a2 ws2.length cap2], .int .i64 1] W fun e w' =>
      ∃ g, e = .returned (.agg #[.int .i64 (N : Int), .slice (some ⟨g, 0, none⟩) K K]) ∧ Fresh W.heap.size w' g js ∧ Below W.heap.size W w') := fun W hw => by
    refine (pick1_ref n1 a1 ws1 cap1 n2 a2 ws2 cap2 W ((hWd1.below hw).mono hw.size) hWB1 hl1 ((hWd2.below hw).mono hw.size) hWB2 hl2 k m us vs hk hm hus hvs N K hN hK (fun i => bitAt js i) (fun i => by rw [hbj])).mono ?_
    rintro e w' ⟨g, he, hF, hb⟩
    exact ⟨g, he, hF.out_of (of_told _ okj (fun _ => rfl)), hb⟩
  obtain ⟨L1, hL1⟩ : ∃ L, ws1.length = L := ⟨_, rfl⟩
  obtain ⟨L2, hL2⟩ : ∃ L, ws2.length = L := ⟨_, rfl⟩
  rw [hL1, hL2] at HP ⊢
  clear hWd1 hWd2 hWB1 hWB2 hl1 hl2 hk hm hus hvs hN hK hbj okj ok1 ok2 hjs hL1 hL2
  have hW1 : Below w.heap.size w (((w.alloc (.cells #[.int .i64 n1, .slice a1 L1 cap1] 24)).alloc (.cells #[.int .i64 n2, .slice a2 L2 cap2] 24)).alloc (.cells #[.int .i64 0, .slice none 0 0] 24)) := (((Below.refl _ _).alloc (Nat.le_refl _) _).alloc (by simp) _).alloc (by simp <;> omega) _
  have BA := ((Box.new w (.int .i64 n1) (.slice a1 L1 cap1) 24).alloc (.cells #[.int .i64 n2, .slice a2 L2 cap2] 24)).alloc (.cells #[.int .i64 0, .slice none 0 0] 24)
  have BB := (Box.new (w.alloc (.cells #[.int .i64 n1, .slice a1 L1 cap1] 24)) (.int .i64 n2) (.slice a2 L2 cap2) 24).alloc (.cells #[.int .i64 0, .slice none 0 0] 24)
  have BR := Box.new ((w.alloc (.cells #[.int .i64 n1, .slice a1 L1 cap1] 24)).alloc (.cells #[.int .i64 n2, .slice a2 L2 cap2] 24)) (.int .i64 0) (.slice none 0 0) 24
  simp only [World.size_alloc] at BB BR
  generalize hW : ((w.alloc (.cells #[.int .i64 n1, .slice a1 L1 cap1] 24)).alloc (.cells #[.int .i64 n2, .slice a2 L2 cap2] 24)).alloc (.cells #[.int .i64 0, .slice none 0 0] 24) = W1 at *
  have HR := Lib.hid BR
  have HW := Lib.hid hW1
  obtain ⟨x0, x1, -, -⟩ := BA
  obtain ⟨y0, y1, -, -⟩ := BB
  clear BR hW1
  go_enter Tryd.func34, Tryd.ntmps34
  go_wp2_with fail
  refine (HP.out _ HW.out).mono ?_
  clear x0 x1 y0 y1 hW HP
  rintro e w1 ⟨g, rfl, hF, hb⟩
  have HB := Lib.hid (HW.out.trans (hb.mono HW.out.size))
  obtain ⟨z0, z1, f0, f1⟩ := HR.out.below hb HR.out.lt
  have hgg : Hid (w.heap.size + 1 + 1 ≠ g) := by
    have h1 := hF.1
    have h2 := HR.out.lt
    show _ ≠ _
    omega
  have HF := Lib.hid (hF.base HW.out.size)
  clear hF hb
  go_wp2_with fail
  exact bodyPost_ret (v := .agg #[.int .i64 (N : Int), .slice (some ⟨g, 0, none⟩) K K]) (by simp [results, Tryd.results34, go_sem, z0, z1]) rfl
    ⟨g, rfl, HF.out.block (heap_put2 _ _ _ _ _ (Ne.symm hgg.out)), below_put2 HB.out (by omega) _ _⟩

set_option maxRecDepth 100000 in
set_option maxHeartbeats 2000000 in
/-- Meet, of the document's answer. -/
theorem Meet_racts {va vb : Value} {k m : Nat} {us vs : List Nat} {w : World} (ha : Acts w va k us) (hb : Acts w vb m vs) {N K : Nat} (hN : max k m = N) (hK : wcount N = K) :
    Calls Tryd.prog 36 #[va, vb] w fun e w' => ∃ g, e = .returned (.agg #[.int .i64 (N : Int), .slice (some ⟨g, 0, none⟩) K K]) ∧ Fresh w.heap.size w' g (joinW andN k m us vs) ∧ Below w.heap.size w w' := by
  have ok1 := ha.ok
  have ok2 := hb.ok
  have okj := ok1.meet ok2
  rw [hN] at okj
  have hbj := bit_meet ok1 ok2
  obtain ⟨n1, ws1, ⟨a1, cap1, rfl, hWd1⟩, hl1, hWB1, hk, hus⟩ := ha
  obtain ⟨n2, ws2, ⟨a2, cap2, rfl, hWd2⟩, hl2, hWB2, hm, hvs⟩ := hb
  obtain ⟨js, hjs⟩ : ∃ js, joinW andN k m us vs = js := ⟨_, rfl⟩
  rw [hjs] at okj hbj ⊢
  have HP : Hid (∀ W, Below w.heap.size w W → Calls Tryd.prog 54 #[.agg #[.int .i64 n1, .slice a1 ws1.length cap1], .agg #[.int .i64 n2, .slice a2 ws2.length cap2], .int .i64 2] W fun e w' =>
      ∃ g, e = .returned (.agg #[.int .i64 (N : Int), .slice (some ⟨g, 0, none⟩) K K]) ∧ Fresh W.heap.size w' g js ∧ Below W.heap.size W w') := fun W hw => by
    refine (pick2_ref n1 a1 ws1 cap1 n2 a2 ws2 cap2 W ((hWd1.below hw).mono hw.size) hWB1 hl1 ((hWd2.below hw).mono hw.size) hWB2 hl2 k m us vs hk hm hus hvs N K hN hK (fun i => bitAt js i) (fun i => by rw [hbj])).mono ?_
    rintro e w' ⟨g, he, hF, hb⟩
    exact ⟨g, he, hF.out_of (of_told _ okj (fun _ => rfl)), hb⟩
  obtain ⟨L1, hL1⟩ : ∃ L, ws1.length = L := ⟨_, rfl⟩
  obtain ⟨L2, hL2⟩ : ∃ L, ws2.length = L := ⟨_, rfl⟩
  rw [hL1, hL2] at HP ⊢
  clear hWd1 hWd2 hWB1 hWB2 hl1 hl2 hk hm hus hvs hN hK hbj okj ok1 ok2 hjs hL1 hL2
  have hW1 : Below w.heap.size w (((w.alloc (.cells #[.int .i64 n1, .slice a1 L1 cap1] 24)).alloc (.cells #[.int .i64 n2, .slice a2 L2 cap2] 24)).alloc (.cells #[.int .i64 0, .slice none 0 0] 24)) := (((Below.refl _ _).alloc (Nat.le_refl _) _).alloc (by simp) _).alloc (by simp <;> omega) _
  have BA := ((Box.new w (.int .i64 n1) (.slice a1 L1 cap1) 24).alloc (.cells #[.int .i64 n2, .slice a2 L2 cap2] 24)).alloc (.cells #[.int .i64 0, .slice none 0 0] 24)
  have BB := (Box.new (w.alloc (.cells #[.int .i64 n1, .slice a1 L1 cap1] 24)) (.int .i64 n2) (.slice a2 L2 cap2) 24).alloc (.cells #[.int .i64 0, .slice none 0 0] 24)
  have BR := Box.new ((w.alloc (.cells #[.int .i64 n1, .slice a1 L1 cap1] 24)).alloc (.cells #[.int .i64 n2, .slice a2 L2 cap2] 24)) (.int .i64 0) (.slice none 0 0) 24
  simp only [World.size_alloc] at BB BR
  generalize hW : ((w.alloc (.cells #[.int .i64 n1, .slice a1 L1 cap1] 24)).alloc (.cells #[.int .i64 n2, .slice a2 L2 cap2] 24)).alloc (.cells #[.int .i64 0, .slice none 0 0] 24) = W1 at *
  have HR := Lib.hid BR
  have HW := Lib.hid hW1
  obtain ⟨x0, x1, -, -⟩ := BA
  obtain ⟨y0, y1, -, -⟩ := BB
  clear BR hW1
  go_enter Tryd.func36, Tryd.ntmps36
  go_wp2_with fail
  refine (HP.out _ HW.out).mono ?_
  clear x0 x1 y0 y1 hW HP
  rintro e w1 ⟨g, rfl, hF, hb⟩
  have HB := Lib.hid (HW.out.trans (hb.mono HW.out.size))
  obtain ⟨z0, z1, f0, f1⟩ := HR.out.below hb HR.out.lt
  have hgg : Hid (w.heap.size + 1 + 1 ≠ g) := by
    have h1 := hF.1
    have h2 := HR.out.lt
    show _ ≠ _
    omega
  have HF := Lib.hid (hF.base HW.out.size)
  clear hF hb
  go_wp2_with fail
  exact bodyPost_ret (v := .agg #[.int .i64 (N : Int), .slice (some ⟨g, 0, none⟩) K K]) (by simp [results, Tryd.results36, go_sem, z0, z1]) rfl
    ⟨g, rfl, HF.out.block (heap_put2 _ _ _ _ _ (Ne.symm hgg.out)), below_put2 HB.out (by omega) _ _⟩
end Go.Proofs.YtjlofjoekpoepaaDoor
