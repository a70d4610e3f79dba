import Derived.Test.YtcmncclibhjepaaEnvG
namespace Go.Proofs.Ytcmncclibhjepaa
open Go Go.RowKit Go.Sort

set_option maxHeartbeats 2000000 in
theorem ourS_any (on : Bool) (a : Option Addr) (n cap : Nat) (w : World) :
    Calls Try.prog 25 #[.agg #[.bool on, .slice a n cap]] w fun e w' => e = .returned (.agg #[.bool on, .slice a n cap]) ∧ Below w.heap.size w w' := by
  have BE := (Box.new w (.bool on) (.slice a n cap) 48).alloc (.cells #[.bool false, .slice none 0 0] 49)
  have BR := Box.new (w.alloc (.cells #[.bool on, .slice a n cap] 48)) (.bool false) (.slice none 0 0) 49
  have hW := below2 w (.cells #[.bool on, .slice a n cap] 48) (.cells #[.bool false, .slice none 0 0] 49)
  simp only [World.size_alloc] at BR
  generalize hE : (w.alloc (.cells #[.bool on, .slice a n cap] 48)).alloc (.cells #[.bool false, .slice none 0 0] 49) = W at *
  obtain ⟨c0, c1, -, -⟩ := BE
  obtain ⟨r0, r1, f0, f1⟩ := BR
  have hb2 := Lib.hid (below_put2 hW (b := w.heap.size + 1) (by omega) (.bool on) (.slice a n cap))
  clear hW
  go_enter Try.func25, Try.ntmps25
  go_wp2_with fail
  exact bodyPost_ret (v := .agg #[.bool on, .slice a n cap]) (by simp [results, Try.results25, go_sem, r0, r1]) rfl ⟨rfl, hb2.out⟩

set_option maxHeartbeats 2000000 in
theorem theirS_any (on : Bool) (a : Option Addr) (n cap : Nat) (w : World) :
    Calls Try.prog 31 #[.agg #[.bool on, .slice a n cap]] w fun e w' => e = .returned (.agg #[.bool on, .slice a n cap]) ∧ Below w.heap.size w w' := by
  have BE := (Box.new w (.bool on) (.slice a n cap) 49).alloc (.cells #[.bool false, .slice none 0 0] 48)
  have BR := Box.new (w.alloc (.cells #[.bool on, .slice a n cap] 49)) (.bool false) (.slice none 0 0) 48
  have hW := below2 w (.cells #[.bool on, .slice a n cap] 49) (.cells #[.bool false, .slice none 0 0] 48)
  simp only [World.size_alloc] at BR
  generalize hE : (w.alloc (.cells #[.bool on, .slice a n cap] 49)).alloc (.cells #[.bool false, .slice none 0 0] 48) = W at *
  obtain ⟨c0, c1, -, -⟩ := BE
  obtain ⟨r0, r1, f0, f1⟩ := BR
  have hb2 := Lib.hid (below_put2 hW (b := w.heap.size + 1) (by omega) (.bool on) (.slice a n cap))
  clear hW
  go_enter Try.func31, Try.ntmps31
  go_wp2_with fail
  exact bodyPost_ret (v := .agg #[.bool on, .slice a n cap]) (by simp [results, Try.results31, go_sem, r0, r1]) rfl ⟨rfl, hb2.out⟩

set_option maxRecDepth 100000 in
set_option maxHeartbeats 4000000 in
theorem SameF_eq (on : Bool) (a1 : Option Addr) (cap1 : Nat) (a2 : Option Addr) (cap2 n : Nat) (l : List V) (w : World) (g1 : FE w a1 n l) (g2 : FE w a2 n l) (hl : n ≤ 200) :
    Calls Try.prog 15 #[.agg #[.bool on, .slice a1 n cap1], .agg #[.bool on, .slice a2 n cap2]] w fun e w' => e = .returned (.bool true) ∧ Below w.heap.size w w' := by
  have h1 := Lib.hid g1
  have h2 := Lib.hid g2
  have hn := g1.2
  have BA := (Box.new w (.bool on) (.slice a1 n cap1) 24).alloc (.cells #[.bool on, .slice a2 n cap2] 24)
  have BB := Box.new (w.alloc (.cells #[.bool on, .slice a1 n cap1] 24)) (.bool on) (.slice a2 n cap2) 24
  have hW := below2 w (.cells #[.bool on, .slice a1 n cap1] 24) (.cells #[.bool on, .slice a2 n cap2] 24)
  rw [World.size_alloc] at BB
  generalize hE : (w.alloc (.cells #[.bool on, .slice a1 n cap1] 24)).alloc (.cells #[.bool on, .slice a2 n cap2] 24) = W at *
  have HW := Lib.hid hW
  have HN := Lib.hid hn
  have HA := Lib.hid BA
  have HB := Lib.hid BB
  obtain ⟨c0, c1, -, -⟩ := id BA
  obtain ⟨d0, d1, -, -⟩ := id BB
  clear hW g1 g2 BA BB hn
  have hb0 : ((n : Int) != (n : Int)) = false := by simp
  have hb1 : (on != on) = false := by simp
  go_enter Try.func15, Try.ntmps15
  go_wp2_with fail
  clear c0 c1 d0 d1 hE
  go_loopw [5] (fun i wr => ∃ j : Nat, j ≤ n ∧ i = .int .i64 j ∧ Hid (Box wr w.heap.size (.bool on) (.slice a1 n cap1)) ∧ Hid (Box wr (w.heap.size + 1) (.bool on) (.slice a2 n cap2)) ∧ Hid (Below w.heap.size w wr)) (fun i _ => n - (intOf i).toNat)
  case atStart => exact ⟨0, Nat.zero_le _, rfl, HA, HB, HW⟩
  case round =>
    clear HA HB HW
    obtain ⟨j, hj, rfl, hA, hB, hBw⟩ := hrel
    obtain ⟨c0, c1, -, -⟩ := id hA.out
    obtain ⟨d0, d1, -, -⟩ := id hB.out
    by_cases hlt : j < n
    · have hji : (j : Int) < (n : Int) := by omega
      have hjl : j < l.length := by rw [HN.out]; exact hlt
      obtain ⟨b1, o1, rfl, hlt1, x10, x11⟩ := h1.out.1 j hjl
      have y10 := (hBw.out.cell (p := ⟨b1, o1 + j * 2, none⟩) hlt1).trans x10
      have y11 := (hBw.out.cell (p := ⟨b1, o1 + j * 2 + 1, none⟩) hlt1).trans x11
      clear x10 x11
      obtain ⟨b2, o2, rfl, hlt2, x20, x21⟩ := h2.out.1 j hjl
      have y20 := (hBw.out.cell (p := ⟨b2, o2 + j * 2, none⟩) hlt2).trans x20
      have y21 := (hBw.out.cell (p := ⟨b2, o2 + j * 2 + 1, none⟩) hlt2).trans x21
      clear x20 x21
      generalize l[j]?.getD vbot = u at *
      obtain ⟨x, y⟩ := u
      clear hjl
      go_wp2_with fail
      go_quiet (fail)
      go_wp2_with fail
      go_roundw
      case rel =>
        have hb := below_drewN (Below.refl wr.heap.size wr) nq
        exact ⟨j + 1, by omega, by go_num, Lib.hid (hA.out.below hb hA.out.lt), Lib.hid (hB.out.below hb hB.out.lt), Lib.hid (below_drewN hBw.out nq)⟩
      case measure => simp [intOf]; omega
    · obtain rfl : j = n := by omega
      go_wp2_with fail
      go_ret
      exact ⟨rfl, hBw.out⟩

set_option maxRecDepth 100000 in
set_option maxHeartbeats 4000000 in
theorem SameS_eq (on : Bool) (a1 : Option Addr) (cap1 : Nat) (a2 : Option Addr) (cap2 n : Nat) (l : List Int) (w : World) (g1 : SE w a1 n l) (g2 : SE w a2 n l) (hl : n ≤ 200) :
    Calls Try.prog 30 #[.agg #[.bool on, .slice a1 n cap1], .agg #[.bool on, .slice a2 n cap2]] w fun e w' => e = .returned (.bool true) ∧ Below w.heap.size w w' := by
  have h1 := Lib.hid g1
  have h2 := Lib.hid g2
  have hn := g1.2
  have BA := (Box.new w (.bool on) (.slice a1 n cap1) 48).alloc (.cells #[.bool on, .slice a2 n cap2] 48)
  have BB := Box.new (w.alloc (.cells #[.bool on, .slice a1 n cap1] 48)) (.bool on) (.slice a2 n cap2) 48
  have hW := below2 w (.cells #[.bool on, .slice a1 n cap1] 48) (.cells #[.bool on, .slice a2 n cap2] 48)
  rw [World.size_alloc] at BB
  generalize hE : (w.alloc (.cells #[.bool on, .slice a1 n cap1] 48)).alloc (.cells #[.bool on, .slice a2 n cap2] 48) = W at *
  have HW := Lib.hid hW
  have HN := Lib.hid hn
  have HA := Lib.hid BA
  have HB := Lib.hid BB
  obtain ⟨c0, c1, -, -⟩ := id BA
  obtain ⟨d0, d1, -, -⟩ := id BB
  clear hW g1 g2 BA BB hn
  have hb0 : ((n : Int) != (n : Int)) = false := by simp
  have hb1 : (on != on) = false := by simp
  go_enter Try.func30, Try.ntmps30
  go_wp2_with fail
  clear c0 c1 d0 d1 hE
  go_loopw [5] (fun i wr => ∃ j : Nat, j ≤ n ∧ i = .int .i64 j ∧ Hid (Box wr w.heap.size (.bool on) (.slice a1 n cap1)) ∧ Hid (Box wr (w.heap.size + 1) (.bool on) (.slice a2 n cap2)) ∧ Hid (Below w.heap.size w wr)) (fun i _ => n - (intOf i).toNat)
  case atStart => exact ⟨0, Nat.zero_le _, rfl, HA, HB, HW⟩
  case round =>
    clear HA HB HW
    obtain ⟨j, hj, rfl, hA, hB, hBw⟩ := hrel
    obtain ⟨c0, c1, -, -⟩ := id hA.out
    obtain ⟨d0, d1, -, -⟩ := id hB.out
    by_cases hlt : j < n
    · have hji : (j : Int) < (n : Int) := by omega
      have hjl : j < l.length := by rw [HN.out]; exact hlt
      obtain ⟨b1, o1, rfl, hlt1, x10⟩ := h1.out.1 j hjl
      have y10 := (hBw.out.cell (p := ⟨b1, o1 + j, none⟩) hlt1).trans x10
      clear x10
      obtain ⟨b2, o2, rfl, hlt2, x20⟩ := h2.out.1 j hjl
      have y20 := (hBw.out.cell (p := ⟨b2, o2 + j, none⟩) hlt2).trans x20
      clear x20
      generalize l[j]?.getD 0 = x at *
      have hbb : (x != x) = false := by simp
      clear hjl
      go_wp2_with fail
      go_quiet (fail)
      go_wp2_with fail
      go_roundw
      case rel =>
        have hb := below_drewN (Below.refl wr.heap.size wr) nq
        exact ⟨j + 1, by omega, by go_num, Lib.hid (hA.out.below hb hA.out.lt), Lib.hid (hB.out.below hb hB.out.lt), Lib.hid (below_drewN hBw.out nq)⟩
      case measure => simp [intOf]; omega
    · obtain rfl : j = n := by omega
      go_wp2_with fail
      go_ret
      exact ⟨rfl, hBw.out⟩

end Go.Proofs.Ytcmncclibhjepaa