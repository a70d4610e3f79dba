import Derived.Test.YtjlofjoekpoepaaDoorRi
namespace Go.Proofs.YtjlofjoekpoepaaDoor
open Go Go.RowKit Go.Sort

set_option maxRecDepth 100000 in
set_option maxHeartbeats 2000000 in
/-- Has, of the document's answer. -/
theorem Has_racts {va : Value} {k : Nat} {us : List Nat} {w : World} (ha : Acts w va k us) (i : Int) {h : Bool} (he : hasB k us i = h) :
    Calls Tryd.prog 17 #[va, .int .i64 i] w fun e w' => e = .returned (.bool h) ∧ Below w.heap.size w w' := by
  have ok1 := ha.ok
  obtain ⟨n1, ws1, ⟨a1, cap1, rfl, hWd1⟩, hl1, hWB1, hk, hus⟩ := ha
  have FS : Hid (∀ W, Below w.heap.size w W → Calls Tryd.prog 15 #[.agg #[.int .i64 n1, .slice a1 ws1.length cap1]] W fun e w' => e = .returned (.bool (saneB n1 ws1)) ∧ Below W.heap.size W w') := fun W hW =>
    Sane_ref n1 a1 ws1 cap1 W ((hWd1.below hW).mono hW.size) hWB1 hl1
  have FB : Hid (∀ W (j : Nat), Below w.heap.size w W → j < k → Calls Tryd.prog 42 #[.slice a1 ws1.length cap1, .int .i64 (j : Int)] W fun e w' => e = .returned (.bool (bitAt us j)) ∧ w' = W) := fun W j hW hj => by
    rw [← hus]; exact bit_nrm n1 a1 ws1 cap1 W j (hWd1.below hW) hWB1 hl1 (by omega)
  obtain ⟨L1, hL1⟩ : ∃ L, ws1.length = L := ⟨_, rfl⟩
  obtain ⟨sn, hsn⟩ : ∃ sn, saneB n1 ws1 = sn := ⟨_, rfl⟩
  rw [hL1, hsn] at FS
  rw [hL1] at FB
  rw [hL1]
  have hW1 : Below w.heap.size w (w.alloc (.cells #[.int .i64 n1, .slice a1 L1 cap1] 24)) := (Below.refl _ _).alloc (Nat.le_refl _) _
  have BA := Box.new w (.int .i64 n1) (.slice a1 L1 cap1) 24
  generalize hW : w.alloc (.cells #[.int .i64 n1, .slice a1 L1 cap1] 24) = W1 at *
  have HW := Lib.hid hW1
  have HA := Lib.hid BA
  obtain ⟨x0, x1, -, -⟩ := BA
  have hn : sn = true → n1 = (k : Int) := by
    intro e
    rw [e] at hsn
    have hh := hsn
    simp only [saneB, Bool.and_eq_true, decide_eq_true_eq] at hh
    rw [← hk, nrm, hsn, if_pos rfl]
    omega
  have hz : sn = false → k = 0 := by
    intro e
    rw [← hk, nrm, hsn, e]; rfl
  clear hWd1 hl1 hWB1 hk hus hL1 hsn hW1
  cases sn with
  | false =>
    obtain rfl : k = 0 := hz rfl
    have hh : h = false := by rw [← he]; simp [hasB]; omega
    subst hh
    clear he hn hz ok1 FB
    go_enter Tryd.func17, Tryd.ntmps17
    go_wp2_with fail
    refine (FS.out _ HW.out).mono ?_
    clear x0 x1 hW
    rintro e w1 ⟨rfl, hb⟩
    have HB := Lib.hid (HW.out.trans (hb.mono HW.out.size))
    clear hb
    go_wp2_with fail
    go_ret
    exact ⟨rfl, HB.out⟩
  | true =>
    obtain rfl : n1 = (k : Int) := hn rfl
    clear hn hz
    by_cases hi0 : i < 0
    · have hh : h = false := by rw [← he]; simp [hasB]; omega
      subst hh
      have d0 : decide (0 ≤ i) = false := by simp; omega
      clear he ok1 FB
      go_enter Tryd.func17, Tryd.ntmps17
      go_wp2_with fail
      refine (FS.out _ HW.out).mono ?_
      clear x0 x1 hW
      rintro e w1 ⟨rfl, hb⟩
      have HB := Lib.hid (HW.out.trans (hb.mono HW.out.size))
      clear hb
      go_wp2_with fail
      go_ret
      exact ⟨rfl, HB.out⟩
    · obtain ⟨j, rfl⟩ := Int.eq_ofNat_of_zero_le (show 0 ≤ i by omega)
      have d0 : decide ((0 : Int) ≤ (j : Int)) = true := by simp
      by_cases hjk : j < k
      · have hh : bitAt us j = h := by rw [← he]; simp [hasB, hjk]
        have d1 : decide ((j : Int) < (k : Int)) = true := by simp; omega
        have HH := Lib.hid hh
        have HJK := Lib.hid hjk
        clear he ok1 hh
        go_enter Tryd.func17, Tryd.ntmps17
        go_wp2_with fail
        refine (FS.out _ HW.out).mono ?_
        clear x0 x1 hW
        rintro e w1 ⟨rfl, hb⟩
        have HB := Lib.hid (HW.out.trans (hb.mono HW.out.size))
        obtain ⟨x0, x1, -, -⟩ := HA.out.below hb HA.out.lt
        clear hb
        go_wp2_with fail
        refine (FB.out _ j HB.out HJK.out).mono ?_
        rintro e w2 ⟨rfl, rfl⟩
        rw [HH.out]
        go_wp2_with fail
        go_ret
        exact ⟨rfl, HB.out⟩
      · have hh : h = false := by rw [← he]; simp [hasB]; omega
        subst hh
        have d1 : decide ((j : Int) < (k : Int)) = false := by simp; omega
        clear he ok1 FB
        go_enter Tryd.func17, Tryd.ntmps17
        go_wp2_with fail
        refine (FS.out _ HW.out).mono ?_
        clear x0 x1 hW
        rintro e w1 ⟨rfl, hb⟩
        have HB := Lib.hid (HW.out.trans (hb.mono HW.out.size))
        obtain ⟨x0, x1, -, -⟩ := HA.out.below hb HA.out.lt
        clear hb
        go_wp2_with fail
        go_ret
        exact ⟨rfl, HB.out⟩

end Go.Proofs.YtjlofjoekpoepaaDoor
