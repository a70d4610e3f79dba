/- SmG: several texts in one: SmA SmB SmC SmD. -/
import Derived.Test.YtbddjneinfkmpaaGreatDoorPgM
import Derived.Test.YtbddjneinfkmpaaGreatDoorPgZ
import Derived.Test.YtbddjneinfkmpaaGreatDoorAppG

namespace Go.Proofs.YtbddjneinfkmpaaGreatDoor
open Go Go.RowKit Go.Sort

theorem nums_eq {l m : List Int} (h : l.length = m.length) (hj : ∀ j, j < l.length → numAt l j = numAt m j) : l = m := by
  refine List.ext_getElem h fun k h1 h2 => ?_
  have := hj k h1
  unfold numAt at this
  simpa [h1, h2] using this
theorem code_eq {l m : List Ins} (h : l.length = m.length) (hj : ∀ j, j < l.length → insAt l j = insAt m j) : l = m := by
  refine List.ext_getElem h fun k h1 h2 => ?_
  have := hj k h1
  unfold insAt at this
  simpa [h1, h2] using this

set_option maxRecDepth 100000 in
set_option maxHeartbeats 8000000 in
theorem EqN_any (a a2 : Option Addr) (l m : List Int) (cap cap2 : Nat) (w : World) (hI : Is w.heap.size w a l) (hJ : Is w.heap.size w a2 m) (hl : l.length ≤ 1000) (r : Bool) (hr : decide (l = m) = r) :
    Calls Tryz.prog 155 #[.slice a l.length cap, .slice a2 m.length cap2] w fun e w' => e = .returned (.bool r) ∧ Below w.heap.size w w' := by
  by_cases hlm : l.length = m.length
  · have HI := Lib.hid hI
    have HJ := Lib.hid hJ
    have HR := Lib.hid hr
    have HLM := Lib.hid hlm
    obtain ⟨L, hL⟩ : ∃ L, l.length = L := ⟨_, rfl⟩
    have hM : m.length = L := by rw [← hlm, hL]
    rw [hM]
    rw [hL] at hl ⊢
    have HL := Lib.hid hL
    have HM := Lib.hid hM
    clear hI hJ hr hlm hL hM
    go_enter Tryz.func155, Tryz.ntmps155
    go_wp2
    go_loopw [13] (fun i wr => ∃ q : Nat, q ≤ L ∧ i = .int .i64 q ∧ Hid (∀ j : Nat, j < q → numAt l j = numAt m j) ∧ Hid (Below w.heap.size w wr)) (fun i _ => L - (intOf i).toNat)
    case atStart => exact ⟨0, Nat.zero_le _, rfl, fun j hj => absurd hj (Nat.not_lt_zero _), Below.refl _ _⟩
    case round =>
      obtain ⟨q, hq, rfl, hne, HB⟩ := hrel
      by_cases hlt : q < L
      · obtain ⟨b, o, rfl, hbl, hcell⟩ := HI.out q (by rw [HL.out]; exact hlt)
        obtain ⟨b2, o2, rfl, hbl2, hcell2⟩ := HJ.out q (by rw [HM.out]; exact hlt)
        obtain ⟨y, hy⟩ : ∃ y, l[q]?.getD 0 = y := ⟨_, rfl⟩
        obtain ⟨z, hz⟩ : ∃ z, m[q]?.getD 0 = z := ⟨_, rfl⟩
        rw [hy] at hcell
        rw [hz] at hcell2
        replace hcell := (HB.out.cell (p := ⟨b, o + q, none⟩) hbl).trans hcell
        replace hcell2 := (HB.out.cell (p := ⟨b2, o2 + q, none⟩) hbl2).trans hcell2
        have HY := Lib.hid hy
        have HZ := Lib.hid hz
        clear hy hz hbl hbl2
        have hqi : (q : Int) < (L : Int) := by omega
        by_cases hxy : y = z
        · subst hxy
          go_wp2
          go_quiet (fail)
          go_wp2
          go_roundw
          case rel =>
            refine ⟨q + 1, by omega, by go_num, fun j hj => ?_, below_drewN HB.out _⟩
            rcases Nat.lt_succ_iff_lt_or_eq.1 hj with h | rfl
            · exact hne.out j h
            · exact HY.out.trans HZ.out.symm
          case measure => simp [intOf]; omega
        · go_wp2
          go_quiet (fail)
          go_wp2
          go_ret
          have hrf : r = false := by
            rw [← HR.out]
            exact decide_eq_false fun h => by subst h; exact hxy (HY.out.symm.trans HZ.out)
          exact ⟨by rw [hrf]; rfl, below_drewN HB.out _⟩
      · obtain rfl : q = L := by omega
        go_wp2
        go_ret
        have hrt : r = true := by
          rw [← HR.out]
          exact decide_eq_true (nums_eq HLM.out fun j hj => hne.out j (by rw [← HL.out]; exact hj))
        exact ⟨by rw [hrt]; rfl, HB.out⟩
  · obtain rfl : r = false := by rw [← hr, decide_eq_false (fun h => hlm (by rw [h]))]
    obtain ⟨L, hL⟩ : ∃ L, l.length = L := ⟨_, rfl⟩
    obtain ⟨M, hM⟩ : ∃ M, m.length = M := ⟨_, rfl⟩
    rw [hL, hM] at hlm ⊢
    have hlm2 : ¬ (L : Int) = (M : Int) := by omega
    clear hI hJ hr hl hL hM
    go_enter Tryz.func155, Tryz.ntmps155
    go_wp2
    go_ret
    exact ⟨rfl, Below.refl _ _⟩
end Go.Proofs.YtbddjneinfkmpaaGreatDoor

namespace Go.Proofs.YtbddjneinfkmpaaGreatDoor
open Go Go.RowKit Go.Sort

set_option maxRecDepth 100000 in
set_option maxHeartbeats 8000000 in
theorem EqI_any (a a2 : Option Addr) (l m : List Ins) (cap cap2 : Nat) (w : World) (hI : CodeIs w.heap.size w a l) (hJ : CodeIs w.heap.size w a2 m) (hl : l.length ≤ 1000) (r : Bool) (hr : decide (l = m) = r) :
    Calls Tryz.prog 154 #[.slice a l.length cap, .slice a2 m.length cap2] w fun e w' => e = .returned (.bool r) ∧ Below w.heap.size w w' := by
  by_cases hlm : l.length = m.length
  · have HI := Lib.hid hI
    have HJ := Lib.hid hJ
    have HR := Lib.hid hr
    have HLM := Lib.hid hlm
    obtain ⟨L, hL⟩ : ∃ L, l.length = L := ⟨_, rfl⟩
    have hM : m.length = L := by rw [← hlm, hL]
    rw [hM]
    rw [hL] at hl ⊢
    have HL := Lib.hid hL
    have HM := Lib.hid hM
    clear hI hJ hr hlm hL hM
    go_enter Tryz.func154, Tryz.ntmps154
    go_wp2
    go_loopw [13] (fun i wr => ∃ q : Nat, q ≤ L ∧ i = .int .i64 q ∧ Hid (∀ j : Nat, j < q → insAt l j = insAt m j) ∧ Hid (Below w.heap.size w wr)) (fun i _ => L - (intOf i).toNat)
    case atStart => exact ⟨0, Nat.zero_le _, rfl, fun j hj => absurd hj (Nat.not_lt_zero _), Below.refl _ _⟩
    case round =>
      obtain ⟨q, hq, rfl, hne, HB⟩ := hrel
      by_cases hlt : q < L
      · obtain ⟨b, o, rfl, hbl, c0, c1, c2, c3, c4, c5, c6, c7, c8, c9, c10⟩ := (HI.out.below HB.out).at q (by rw [HL.out]; exact hlt)
        obtain ⟨b2, o2, rfl, hbl2, d0, d1, d2, d3, d4, d5, d6, d7, d8, d9, d10⟩ := (HJ.out.below HB.out).at q (by rw [HM.out]; exact hlt)
        obtain ⟨y, hy⟩ : ∃ y, insAt l q = y := ⟨_, rfl⟩
        obtain ⟨z, hz⟩ : ∃ z, insAt m q = z := ⟨_, rfl⟩
        rw [hy] at c0 c1 c2 c3 c4 c5 c6 c7 c8 c9 c10
        rw [hz] at d0 d1 d2 d3 d4 d5 d6 d7 d8 d9 d10
        have HY := Lib.hid hy
        have HZ := Lib.hid hz
        clear hy hz hbl hbl2
        obtain ⟨i0, i1, i2, i3, i4, i5, i6, i7, i8, i9, i10⟩ := y
        obtain ⟨j0, j1, j2, j3, j4, j5, j6, j7, j8, j9, j10⟩ := z
        dsimp only at c0 c1 c2 c3 c4 c5 c6 c7 c8 c9 c10 d0 d1 d2 d3 d4 d5 d6 d7 d8 d9 d10
        have hqi : (q : Int) < (L : Int) := by omega
        have heq := eqInsTwo i0 i1 i2 i3 i4 i5 i6 i7 i8 i9 i10 j0 j1 j2 j3 j4 j5 j6 j7 j8 j9 j10
        by_cases hxy : (⟨i0, i1, i2, i3, i4, i5, i6, i7, i8, i9, i10⟩ : Ins) = ⟨j0, j1, j2, j3, j4, j5, j6, j7, j8, j9, j10⟩
        · simp only [decide_eq_true hxy] at heq
          go_wp2
          go_quiet (fail)
          go_wp2
          go_roundw
          case rel =>
            refine ⟨q + 1, by omega, by go_num, fun j hj => ?_, below_drewN HB.out _⟩
            rcases Nat.lt_succ_iff_lt_or_eq.1 hj with h | rfl
            · exact hne.out j h
            · exact HY.out.trans (hxy.trans HZ.out.symm)
          case measure => simp [intOf]; omega
        · simp only [decide_eq_false hxy] at heq
          go_wp2
          go_quiet (fail)
          go_wp2
          go_ret
          have hrf : r = false := by
            rw [← HR.out]
            exact decide_eq_false fun h => by subst h; exact hxy (HY.out.symm.trans HZ.out)
          exact ⟨by rw [hrf]; rfl, below_drewN HB.out _⟩
      · obtain rfl : q = L := by omega
        go_wp2
        go_ret
        have hrt : r = true := by
          rw [← HR.out]
          exact decide_eq_true (code_eq HLM.out fun j hj => hne.out j (by rw [← HL.out]; exact hj))
        exact ⟨by rw [hrt]; rfl, HB.out⟩
  · obtain rfl : r = false := by rw [← hr, decide_eq_false (fun h => hlm (by rw [h]))]
    obtain ⟨L, hL⟩ : ∃ L, l.length = L := ⟨_, rfl⟩
    obtain ⟨M, hM⟩ : ∃ M, m.length = M := ⟨_, rfl⟩
    rw [hL, hM] at hlm ⊢
    have hlm2 : ¬ (L : Int) = (M : Int) := by omega
    clear hI hJ hr hl hL hM
    go_enter Tryz.func154, Tryz.ntmps154
    go_wp2
    go_ret
    exact ⟨rfl, Below.refl _ _⟩
end Go.Proofs.YtbddjneinfkmpaaGreatDoor

namespace Go.Proofs.YtbddjneinfkmpaaGreatDoor
open Go Go.RowKit Go.Sort

theorem blk_d_iff (a b : Blk) : a.d = b.d ↔ a.live = b.live ∧ a.code = b.code ∧ a.succ = b.succ := by
  obtain ⟨lv, ca, cc, code, sa, sc, succ⟩ := a
  obtain ⟨lv2, ca2, cc2, code2, sa2, sc2, succ2⟩ := b
  simp [Blk.d]
theorem fd_d_iff (a b : Fd) : a.d = b.d ↔ a.ar = b.ar ∧ a.vr = b.vr ∧ a.blocks.map Blk.d = b.blocks.map Blk.d := by
  obtain ⟨ar, vr, ba, bc, bl⟩ := a
  obtain ⟨ar2, vr2, ba2, bc2, bl2⟩ := b
  simp [Fd.d]
theorem and3_iff {r e1 e2 e3 : Bool} {p1 p2 p3 : Prop} (hr : r = true ↔ p1 ∧ p2 ∧ p3) (h1 : e1 = true ↔ p1) (h2 : e2 = true ↔ p2) (h3 : e3 = true ↔ p3) : r = (e1 && (e2 && e3)) := by
  rw [Bool.eq_iff_iff, Bool.and_eq_true, Bool.and_eq_true, hr, h1, h2, h3]
theorem dF_ext {l m : List Fd} (hl : l.length = m.length) (h : ∀ k, k < l.length → (fdAt l k).d = (fdAt m k).d) : l.map Fd.d = m.map Fd.d := by
  apply List.ext_getElem
  · simpa using hl
  · intro k h1 h2
    rw [List.length_map] at h1 h2
    rw [List.getElem_map, List.getElem_map]
    have := h k h1
    unfold fdAt at this
    rwa [List.getElem?_eq_getElem h1, List.getElem?_eq_getElem h2] at this
theorem dB_at {l m : List Blk} (h : l.map Blk.d = m.map Blk.d) (k : Nat) : (blkAt l k).d = (blkAt m k).d := by rw [← blkAt_d, ← blkAt_d, h]
theorem dF_at {l m : List Fd} (h : l.map Fd.d = m.map Fd.d) (k : Nat) : (fdAt l k).d = (fdAt m k).d := by rw [← fdAt_d, ← fdAt_d, h]

set_option maxRecDepth 100000 in
set_option maxHeartbeats 16000000 in
theorem SameB_any (a b : Blk) (w : World) (ha : BlkIs w.heap.size w a) (hb : BlkIs w.heap.size w b) (hl : a.code.length ≤ 1000 ∧ a.succ.length ≤ 1000) (r : Bool) (hr : r = true ↔ a.d = b.d) :
    Calls Tryz.prog 121 #[a.val, b.val] w fun e w' => e = .returned (.bool r) ∧ Below w.heap.size w w' := by
  rw [blk_d_iff] at hr
  obtain ⟨e1, he1⟩ : ∃ x, decide (a.live = b.live) = x := ⟨_, rfl⟩
  obtain ⟨e2, he2⟩ : ∃ x, decide (a.code = b.code) = x := ⟨_, rfl⟩
  obtain ⟨e3, he3⟩ : ∃ x, decide (a.succ = b.succ) = x := ⟨_, rfl⟩
  have HEI := Lib.hid (fun wr (hbe : Below w.heap.size w wr) => EqI_any a.ca b.ca a.code b.code a.cc b.cc wr (ha.1.on hbe) (hb.1.on hbe) hl.1 e2 he2)
  have HEN := Lib.hid (fun wr (hbe : Below w.heap.size w wr) => EqN_any a.sa b.sa a.succ b.succ a.sc b.sc wr (ha.2.on hbe) (hb.2.on hbe) hl.2 e3 he3)
  replace hr := and3_iff hr (e1 := e1) (e2 := e2) (e3 := e3) (by rw [← he1]; simp) (by rw [← he2]; simp) (by rw [← he3]; simp)
  clear ha hb hl he2 he3
  obtain ⟨lv, ca, cc, code, sa, sc, succ⟩ := a
  obtain ⟨lv2, ca2, cc2, code2, sa2, sc2, succ2⟩ := b
  unfold Blk.val
  dsimp only at HEI HEN hr ⊢
  obtain ⟨C, hC⟩ : ∃ n, code.length = n := ⟨_, rfl⟩
  obtain ⟨C2, hC2⟩ : ∃ n, code2.length = n := ⟨_, rfl⟩
  obtain ⟨S, hS⟩ : ∃ n, succ.length = n := ⟨_, rfl⟩
  obtain ⟨S2, hS2⟩ : ∃ n, succ2.length = n := ⟨_, rfl⟩
  simp only [hC, hC2] at HEI ⊢
  simp only [hS, hS2] at HEN ⊢
  clear hC hC2 hS hS2
  subst hr
  dsimp only at he1
  subst he1
  cases lv with
  | true =>
    cases lv2 with
    | true =>
      cases e2 with
      | true =>
        have HBb := Lib.hid (below2 w (.cells #[.bool true, .slice ca C cc, .slice sa S sc] 35) (.cells #[.bool true, .slice ca2 C2 cc2, .slice sa2 S2 sc2] 35))
        have hx0 := BoxL.new w [.bool true, .slice ca C cc, .slice sa S sc] 35
        have HX0 := Lib.hid (show BoxL ((w.alloc (.cells #[.bool true, .slice ca C cc, .slice sa S sc] 35)).alloc (.cells #[.bool true, .slice ca2 C2 cc2, .slice sa2 S2 sc2] 35)) (w.heap.size) [.bool true, .slice ca C cc, .slice sa S sc] from (hx0).alloc (Nat.zero_lt_succ _) (.cells #[.bool true, .slice ca2 C2 cc2, .slice sa2 S2 sc2] 35))
        have hx1 := BoxL.new (w.alloc (.cells #[.bool true, .slice ca C cc, .slice sa S sc] 35)) [.bool true, .slice ca2 C2 cc2, .slice sa2 S2 sc2] 35
        rw [World.size_alloc] at hx1
        have HX1 := Lib.hid (show BoxL ((w.alloc (.cells #[.bool true, .slice ca C cc, .slice sa S sc] 35)).alloc (.cells #[.bool true, .slice ca2 C2 cc2, .slice sa2 S2 sc2] 35)) (w.heap.size + 1) [.bool true, .slice ca2 C2 cc2, .slice sa2 S2 sc2] from hx1)
        clear hx0 hx1
        generalize hW : ((w.alloc (.cells #[.bool true, .slice ca C cc, .slice sa S sc] 35)).alloc (.cells #[.bool true, .slice ca2 C2 cc2, .slice sa2 S2 sc2] 35)) = W at HBb HX0 HX1 
        obtain ⟨g, hg⟩ : ∃ g, w.heap.size = g := ⟨_, rfl⟩
        have HGL := Lib.hid HBb.out.size
        rw [hg] at HBb HGL HX0 HX1 ⊢
        have HL0 := Lib.hid (HX0.out.lt (Nat.zero_lt_succ _))
        have HL1 := Lib.hid (HX1.out.lt (Nat.zero_lt_succ _))
        rw [hg] at HEI HEN
        have HC : Hid (∀ wr, Below W.heap.size W wr → wr.cell? ⟨g, 0, none⟩ = some (.bool true) ∧ wr.cell? ⟨g, 1, none⟩ = some (.slice ca C cc) ∧ wr.cell? ⟨g, 2, none⟩ = some (.slice sa S sc) ∧ wr.cell? ⟨g + 1, 0, none⟩ = some (.bool true) ∧ wr.cell? ⟨g + 1, 1, none⟩ = some (.slice ca2 C2 cc2) ∧ wr.cell? ⟨g + 1, 2, none⟩ = some (.slice sa2 S2 sc2)) := Lib.hid fun wr hb => ⟨((HX0.out.below hb HL0.out) 0 _ rfl).1, ((HX0.out.below hb HL0.out) 1 _ rfl).1, ((HX0.out.below hb HL0.out) 2 _ rfl).1, ((HX1.out.below hb HL1.out) 0 _ rfl).1, ((HX1.out.below hb HL1.out) 1 _ rfl).1, ((HX1.out.below hb HL1.out) 2 _ rfl).1⟩
        have HBN : Hid (Below W.heap.size W W) := Lib.hid (Below.refl _ _)
        obtain ⟨k0, k1, k2, k3, k4, k5⟩ := HC.out _ HBN.out
        go_enter Tryz.func121, Tryz.ntmps121
        go_wp2_with (first | (go_at_call 154; refine (HEI.out _ (HBb.out.trans (HBN.out.mono HGL.out))).mono ?_; rintro e wa ⟨rfl, hbn⟩; have hbx := HBN.out.trans (hbn.mono HBN.out.size); clear HBN hbn k0 k1 k2 k3 k4 k5; have HBN := Lib.hid hbx; clear hbx; obtain ⟨k0, k1, k2, k3, k4, k5⟩ := HC.out _ HBN.out) | (go_at_call 155; refine (HEN.out _ (HBb.out.trans (HBN.out.mono HGL.out))).mono ?_; rintro e wb ⟨rfl, hbn⟩; have hbx := HBN.out.trans (hbn.mono HBN.out.size); clear HBN hbn k0 k1 k2 k3 k4 k5; have HBN := Lib.hid hbx; clear hbx; obtain ⟨k0, k1, k2, k3, k4, k5⟩ := HC.out _ HBN.out))
        go_ret
        exact ⟨by simp, HBb.out.trans (HBN.out.mono HGL.out)⟩
      | false =>
        have HBb := Lib.hid (below2 w (.cells #[.bool true, .slice ca C cc, .slice sa S sc] 35) (.cells #[.bool true, .slice ca2 C2 cc2, .slice sa2 S2 sc2] 35))
        have hx0 := BoxL.new w [.bool true, .slice ca C cc, .slice sa S sc] 35
        have HX0 := Lib.hid (show BoxL ((w.alloc (.cells #[.bool true, .slice ca C cc, .slice sa S sc] 35)).alloc (.cells #[.bool true, .slice ca2 C2 cc2, .slice sa2 S2 sc2] 35)) (w.heap.size) [.bool true, .slice ca C cc, .slice sa S sc] from (hx0).alloc (Nat.zero_lt_succ _) (.cells #[.bool true, .slice ca2 C2 cc2, .slice sa2 S2 sc2] 35))
        have hx1 := BoxL.new (w.alloc (.cells #[.bool true, .slice ca C cc, .slice sa S sc] 35)) [.bool true, .slice ca2 C2 cc2, .slice sa2 S2 sc2] 35
        rw [World.size_alloc] at hx1
        have HX1 := Lib.hid (show BoxL ((w.alloc (.cells #[.bool true, .slice ca C cc, .slice sa S sc] 35)).alloc (.cells #[.bool true, .slice ca2 C2 cc2, .slice sa2 S2 sc2] 35)) (w.heap.size + 1) [.bool true, .slice ca2 C2 cc2, .slice sa2 S2 sc2] from hx1)
        clear hx0 hx1
        generalize hW : ((w.alloc (.cells #[.bool true, .slice ca C cc, .slice sa S sc] 35)).alloc (.cells #[.bool true, .slice ca2 C2 cc2, .slice sa2 S2 sc2] 35)) = W at HBb HX0 HX1 
        obtain ⟨g, hg⟩ : ∃ g, w.heap.size = g := ⟨_, rfl⟩
        have HGL := Lib.hid HBb.out.size
        rw [hg] at HBb HGL HX0 HX1 ⊢
        have HL0 := Lib.hid (HX0.out.lt (Nat.zero_lt_succ _))
        have HL1 := Lib.hid (HX1.out.lt (Nat.zero_lt_succ _))
        rw [hg] at HEI HEN
        have HC : Hid (∀ wr, Below W.heap.size W wr → wr.cell? ⟨g, 0, none⟩ = some (.bool true) ∧ wr.cell? ⟨g, 1, none⟩ = some (.slice ca C cc) ∧ wr.cell? ⟨g, 2, none⟩ = some (.slice sa S sc) ∧ wr.cell? ⟨g + 1, 0, none⟩ = some (.bool true) ∧ wr.cell? ⟨g + 1, 1, none⟩ = some (.slice ca2 C2 cc2) ∧ wr.cell? ⟨g + 1, 2, none⟩ = some (.slice sa2 S2 sc2)) := Lib.hid fun wr hb => ⟨((HX0.out.below hb HL0.out) 0 _ rfl).1, ((HX0.out.below hb HL0.out) 1 _ rfl).1, ((HX0.out.below hb HL0.out) 2 _ rfl).1, ((HX1.out.below hb HL1.out) 0 _ rfl).1, ((HX1.out.below hb HL1.out) 1 _ rfl).1, ((HX1.out.below hb HL1.out) 2 _ rfl).1⟩
        have HBN : Hid (Below W.heap.size W W) := Lib.hid (Below.refl _ _)
        obtain ⟨k0, k1, k2, k3, k4, k5⟩ := HC.out _ HBN.out
        go_enter Tryz.func121, Tryz.ntmps121
        go_wp2_with (first | (go_at_call 154; refine (HEI.out _ (HBb.out.trans (HBN.out.mono HGL.out))).mono ?_; rintro e wa ⟨rfl, hbn⟩; have hbx := HBN.out.trans (hbn.mono HBN.out.size); clear HBN hbn k0 k1 k2 k3 k4 k5; have HBN := Lib.hid hbx; clear hbx; obtain ⟨k0, k1, k2, k3, k4, k5⟩ := HC.out _ HBN.out))
        go_ret
        exact ⟨by simp, HBb.out.trans (HBN.out.mono HGL.out)⟩
    | false =>
      have HBb := Lib.hid (below2 w (.cells #[.bool true, .slice ca C cc, .slice sa S sc] 35) (.cells #[.bool false, .slice ca2 C2 cc2, .slice sa2 S2 sc2] 35))
      have hx0 := BoxL.new w [.bool true, .slice ca C cc, .slice sa S sc] 35
      have HX0 := Lib.hid (show BoxL ((w.alloc (.cells #[.bool true, .slice ca C cc, .slice sa S sc] 35)).alloc (.cells #[.bool false, .slice ca2 C2 cc2, .slice sa2 S2 sc2] 35)) (w.heap.size) [.bool true, .slice ca C cc, .slice sa S sc] from (hx0).alloc (Nat.zero_lt_succ _) (.cells #[.bool false, .slice ca2 C2 cc2, .slice sa2 S2 sc2] 35))
      have hx1 := BoxL.new (w.alloc (.cells #[.bool true, .slice ca C cc, .slice sa S sc] 35)) [.bool false, .slice ca2 C2 cc2, .slice sa2 S2 sc2] 35
      rw [World.size_alloc] at hx1
      have HX1 := Lib.hid (show BoxL ((w.alloc (.cells #[.bool true, .slice ca C cc, .slice sa S sc] 35)).alloc (.cells #[.bool false, .slice ca2 C2 cc2, .slice sa2 S2 sc2] 35)) (w.heap.size + 1) [.bool false, .slice ca2 C2 cc2, .slice sa2 S2 sc2] from hx1)
      clear hx0 hx1
      generalize hW : ((w.alloc (.cells #[.bool true, .slice ca C cc, .slice sa S sc] 35)).alloc (.cells #[.bool false, .slice ca2 C2 cc2, .slice sa2 S2 sc2] 35)) = W at HBb HX0 HX1 
      obtain ⟨g, hg⟩ : ∃ g, w.heap.size = g := ⟨_, rfl⟩
      have HGL := Lib.hid HBb.out.size
      rw [hg] at HBb HGL HX0 HX1 ⊢
      have HL0 := Lib.hid (HX0.out.lt (Nat.zero_lt_succ _))
      have HL1 := Lib.hid (HX1.out.lt (Nat.zero_lt_succ _))
      rw [hg] at HEI HEN
      have HC : Hid (∀ wr, Below W.heap.size W wr → wr.cell? ⟨g, 0, none⟩ = some (.bool true) ∧ wr.cell? ⟨g, 1, none⟩ = some (.slice ca C cc) ∧ wr.cell? ⟨g, 2, none⟩ = some (.slice sa S sc) ∧ wr.cell? ⟨g + 1, 0, none⟩ = some (.bool false) ∧ wr.cell? ⟨g + 1, 1, none⟩ = some (.slice ca2 C2 cc2) ∧ wr.cell? ⟨g + 1, 2, none⟩ = some (.slice sa2 S2 sc2)) := Lib.hid fun wr hb => ⟨((HX0.out.below hb HL0.out) 0 _ rfl).1, ((HX0.out.below hb HL0.out) 1 _ rfl).1, ((HX0.out.below hb HL0.out) 2 _ rfl).1, ((HX1.out.below hb HL1.out) 0 _ rfl).1, ((HX1.out.below hb HL1.out) 1 _ rfl).1, ((HX1.out.below hb HL1.out) 2 _ rfl).1⟩
      have HBN : Hid (Below W.heap.size W W) := Lib.hid (Below.refl _ _)
      obtain ⟨k0, k1, k2, k3, k4, k5⟩ := HC.out _ HBN.out
      go_enter Tryz.func121, Tryz.ntmps121
      go_wp2_with fail
      go_ret
      exact ⟨by simp, HBb.out.trans (HBN.out.mono HGL.out)⟩
  | false =>
    cases lv2 with
    | true =>
      have HBb := Lib.hid (below2 w (.cells #[.bool false, .slice ca C cc, .slice sa S sc] 35) (.cells #[.bool true, .slice ca2 C2 cc2, .slice sa2 S2 sc2] 35))
      have hx0 := BoxL.new w [.bool false, .slice ca C cc, .slice sa S sc] 35
      have HX0 := Lib.hid (show BoxL ((w.alloc (.cells #[.bool false, .slice ca C cc, .slice sa S sc] 35)).alloc (.cells #[.bool true, .slice ca2 C2 cc2, .slice sa2 S2 sc2] 35)) (w.heap.size) [.bool false, .slice ca C cc, .slice sa S sc] from (hx0).alloc (Nat.zero_lt_succ _) (.cells #[.bool true, .slice ca2 C2 cc2, .slice sa2 S2 sc2] 35))
      have hx1 := BoxL.new (w.alloc (.cells #[.bool false, .slice ca C cc, .slice sa S sc] 35)) [.bool true, .slice ca2 C2 cc2, .slice sa2 S2 sc2] 35
      rw [World.size_alloc] at hx1
      have HX1 := Lib.hid (show BoxL ((w.alloc (.cells #[.bool false, .slice ca C cc, .slice sa S sc] 35)).alloc (.cells #[.bool true, .slice ca2 C2 cc2, .slice sa2 S2 sc2] 35)) (w.heap.size + 1) [.bool true, .slice ca2 C2 cc2, .slice sa2 S2 sc2] from hx1)
      clear hx0 hx1
      generalize hW : ((w.alloc (.cells #[.bool false, .slice ca C cc, .slice sa S sc] 35)).alloc (.cells #[.bool true, .slice ca2 C2 cc2, .slice sa2 S2 sc2] 35)) = W at HBb HX0 HX1 
      obtain ⟨g, hg⟩ : ∃ g, w.heap.size = g := ⟨_, rfl⟩
      have HGL := Lib.hid HBb.out.size
      rw [hg] at HBb HGL HX0 HX1 ⊢
      have HL0 := Lib.hid (HX0.out.lt (Nat.zero_lt_succ _))
      have HL1 := Lib.hid (HX1.out.lt (Nat.zero_lt_succ _))
      rw [hg] at HEI HEN
      have HC : Hid (∀ wr, Below W.heap.size W wr → wr.cell? ⟨g, 0, none⟩ = some (.bool false) ∧ wr.cell? ⟨g, 1, none⟩ = some (.slice ca C cc) ∧ wr.cell? ⟨g, 2, none⟩ = some (.slice sa S sc) ∧ wr.cell? ⟨g + 1, 0, none⟩ = some (.bool true) ∧ wr.cell? ⟨g + 1, 1, none⟩ = some (.slice ca2 C2 cc2) ∧ wr.cell? ⟨g + 1, 2, none⟩ = some (.slice sa2 S2 sc2)) := Lib.hid fun wr hb => ⟨((HX0.out.below hb HL0.out) 0 _ rfl).1, ((HX0.out.below hb HL0.out) 1 _ rfl).1, ((HX0.out.below hb HL0.out) 2 _ rfl).1, ((HX1.out.below hb HL1.out) 0 _ rfl).1, ((HX1.out.below hb HL1.out) 1 _ rfl).1, ((HX1.out.below hb HL1.out) 2 _ rfl).1⟩
      have HBN : Hid (Below W.heap.size W W) := Lib.hid (Below.refl _ _)
      obtain ⟨k0, k1, k2, k3, k4, k5⟩ := HC.out _ HBN.out
      go_enter Tryz.func121, Tryz.ntmps121
      go_wp2_with fail
      go_ret
      exact ⟨by simp, HBb.out.trans (HBN.out.mono HGL.out)⟩
    | false =>
      cases e2 with
      | true =>
        have HBb := Lib.hid (below2 w (.cells #[.bool false, .slice ca C cc, .slice sa S sc] 35) (.cells #[.bool false, .slice ca2 C2 cc2, .slice sa2 S2 sc2] 35))
        have hx0 := BoxL.new w [.bool false, .slice ca C cc, .slice sa S sc] 35
        have HX0 := Lib.hid (show BoxL ((w.alloc (.cells #[.bool false, .slice ca C cc, .slice sa S sc] 35)).alloc (.cells #[.bool false, .slice ca2 C2 cc2, .slice sa2 S2 sc2] 35)) (w.heap.size) [.bool false, .slice ca C cc, .slice sa S sc] from (hx0).alloc (Nat.zero_lt_succ _) (.cells #[.bool false, .slice ca2 C2 cc2, .slice sa2 S2 sc2] 35))
        have hx1 := BoxL.new (w.alloc (.cells #[.bool false, .slice ca C cc, .slice sa S sc] 35)) [.bool false, .slice ca2 C2 cc2, .slice sa2 S2 sc2] 35
        rw [World.size_alloc] at hx1
        have HX1 := Lib.hid (show BoxL ((w.alloc (.cells #[.bool false, .slice ca C cc, .slice sa S sc] 35)).alloc (.cells #[.bool false, .slice ca2 C2 cc2, .slice sa2 S2 sc2] 35)) (w.heap.size + 1) [.bool false, .slice ca2 C2 cc2, .slice sa2 S2 sc2] from hx1)
        clear hx0 hx1
        generalize hW : ((w.alloc (.cells #[.bool false, .slice ca C cc, .slice sa S sc] 35)).alloc (.cells #[.bool false, .slice ca2 C2 cc2, .slice sa2 S2 sc2] 35)) = W at HBb HX0 HX1 
        obtain ⟨g, hg⟩ : ∃ g, w.heap.size = g := ⟨_, rfl⟩
        have HGL := Lib.hid HBb.out.size
        rw [hg] at HBb HGL HX0 HX1 ⊢
        have HL0 := Lib.hid (HX0.out.lt (Nat.zero_lt_succ _))
        have HL1 := Lib.hid (HX1.out.lt (Nat.zero_lt_succ _))
        rw [hg] at HEI HEN
        have HC : Hid (∀ wr, Below W.heap.size W wr → wr.cell? ⟨g, 0, none⟩ = some (.bool false) ∧ wr.cell? ⟨g, 1, none⟩ = some (.slice ca C cc) ∧ wr.cell? ⟨g, 2, none⟩ = some (.slice sa S sc) ∧ wr.cell? ⟨g + 1, 0, none⟩ = some (.bool false) ∧ wr.cell? ⟨g + 1, 1, none⟩ = some (.slice ca2 C2 cc2) ∧ wr.cell? ⟨g + 1, 2, none⟩ = some (.slice sa2 S2 sc2)) := Lib.hid fun wr hb => ⟨((HX0.out.below hb HL0.out) 0 _ rfl).1, ((HX0.out.below hb HL0.out) 1 _ rfl).1, ((HX0.out.below hb HL0.out) 2 _ rfl).1, ((HX1.out.below hb HL1.out) 0 _ rfl).1, ((HX1.out.below hb HL1.out) 1 _ rfl).1, ((HX1.out.below hb HL1.out) 2 _ rfl).1⟩
        have HBN : Hid (Below W.heap.size W W) := Lib.hid (Below.refl _ _)
        obtain ⟨k0, k1, k2, k3, k4, k5⟩ := HC.out _ HBN.out
        go_enter Tryz.func121, Tryz.ntmps121
        go_wp2_with (first | (go_at_call 154; refine (HEI.out _ (HBb.out.trans (HBN.out.mono HGL.out))).mono ?_; rintro e wa ⟨rfl, hbn⟩; have hbx := HBN.out.trans (hbn.mono HBN.out.size); clear HBN hbn k0 k1 k2 k3 k4 k5; have HBN := Lib.hid hbx; clear hbx; obtain ⟨k0, k1, k2, k3, k4, k5⟩ := HC.out _ HBN.out) | (go_at_call 155; refine (HEN.out _ (HBb.out.trans (HBN.out.mono HGL.out))).mono ?_; rintro e wb ⟨rfl, hbn⟩; have hbx := HBN.out.trans (hbn.mono HBN.out.size); clear HBN hbn k0 k1 k2 k3 k4 k5; have HBN := Lib.hid hbx; clear hbx; obtain ⟨k0, k1, k2, k3, k4, k5⟩ := HC.out _ HBN.out))
        go_ret
        exact ⟨by simp, HBb.out.trans (HBN.out.mono HGL.out)⟩
      | false =>
        have HBb := Lib.hid (below2 w (.cells #[.bool false, .slice ca C cc, .slice sa S sc] 35) (.cells #[.bool false, .slice ca2 C2 cc2, .slice sa2 S2 sc2] 35))
        have hx0 := BoxL.new w [.bool false, .slice ca C cc, .slice sa S sc] 35
        have HX0 := Lib.hid (show BoxL ((w.alloc (.cells #[.bool false, .slice ca C cc, .slice sa S sc] 35)).alloc (.cells #[.bool false, .slice ca2 C2 cc2, .slice sa2 S2 sc2] 35)) (w.heap.size) [.bool false, .slice ca C cc, .slice sa S sc] from (hx0).alloc (Nat.zero_lt_succ _) (.cells #[.bool false, .slice ca2 C2 cc2, .slice sa2 S2 sc2] 35))
        have hx1 := BoxL.new (w.alloc (.cells #[.bool false, .slice ca C cc, .slice sa S sc] 35)) [.bool false, .slice ca2 C2 cc2, .slice sa2 S2 sc2] 35
        rw [World.size_alloc] at hx1
        have HX1 := Lib.hid (show BoxL ((w.alloc (.cells #[.bool false, .slice ca C cc, .slice sa S sc] 35)).alloc (.cells #[.bool false, .slice ca2 C2 cc2, .slice sa2 S2 sc2] 35)) (w.heap.size + 1) [.bool false, .slice ca2 C2 cc2, .slice sa2 S2 sc2] from hx1)
        clear hx0 hx1
        generalize hW : ((w.alloc (.cells #[.bool false, .slice ca C cc, .slice sa S sc] 35)).alloc (.cells #[.bool false, .slice ca2 C2 cc2, .slice sa2 S2 sc2] 35)) = W at HBb HX0 HX1 
        obtain ⟨g, hg⟩ : ∃ g, w.heap.size = g := ⟨_, rfl⟩
        have HGL := Lib.hid HBb.out.size
        rw [hg] at HBb HGL HX0 HX1 ⊢
        have HL0 := Lib.hid (HX0.out.lt (Nat.zero_lt_succ _))
        have HL1 := Lib.hid (HX1.out.lt (Nat.zero_lt_succ _))
        rw [hg] at HEI HEN
        have HC : Hid (∀ wr, Below W.heap.size W wr → wr.cell? ⟨g, 0, none⟩ = some (.bool false) ∧ wr.cell? ⟨g, 1, none⟩ = some (.slice ca C cc) ∧ wr.cell? ⟨g, 2, none⟩ = some (.slice sa S sc) ∧ wr.cell? ⟨g + 1, 0, none⟩ = some (.bool false) ∧ wr.cell? ⟨g + 1, 1, none⟩ = some (.slice ca2 C2 cc2) ∧ wr.cell? ⟨g + 1, 2, none⟩ = some (.slice sa2 S2 sc2)) := Lib.hid fun wr hb => ⟨((HX0.out.below hb HL0.out) 0 _ rfl).1, ((HX0.out.below hb HL0.out) 1 _ rfl).1, ((HX0.out.below hb HL0.out) 2 _ rfl).1, ((HX1.out.below hb HL1.out) 0 _ rfl).1, ((HX1.out.below hb HL1.out) 1 _ rfl).1, ((HX1.out.below hb HL1.out) 2 _ rfl).1⟩
        have HBN : Hid (Below W.heap.size W W) := Lib.hid (Below.refl _ _)
        obtain ⟨k0, k1, k2, k3, k4, k5⟩ := HC.out _ HBN.out
        go_enter Tryz.func121, Tryz.ntmps121
        go_wp2_with (first | (go_at_call 154; refine (HEI.out _ (HBb.out.trans (HBN.out.mono HGL.out))).mono ?_; rintro e wa ⟨rfl, hbn⟩; have hbx := HBN.out.trans (hbn.mono HBN.out.size); clear HBN hbn k0 k1 k2 k3 k4 k5; have HBN := Lib.hid hbx; clear hbx; obtain ⟨k0, k1, k2, k3, k4, k5⟩ := HC.out _ HBN.out))
        go_ret
        exact ⟨by simp, HBb.out.trans (HBN.out.mono HGL.out)⟩

end Go.Proofs.YtbddjneinfkmpaaGreatDoor

namespace Go.Proofs.YtbddjneinfkmpaaGreatDoor
open Go Go.RowKit Go.Sort

set_option maxRecDepth 100000 in
set_option maxHeartbeats 16000000 in
theorem EqFB_any (a a2 : Option Addr) (l m : List Blk) (cap cap2 : Nat) (w : World) (hI : BlksIs w.heap.size w a l) (hJ : BlksIs w.heap.size w a2 m) (hl : l.length ≤ 1000) (hk : ∀ k, k < l.length → (blkAt l k).code.length ≤ 1000 ∧ (blkAt l k).succ.length ≤ 1000) (r : Bool) (hr : r = true ↔ l.map Blk.d = m.map Blk.d) :
    Calls Tryz.prog 120 #[.slice a l.length cap, .slice a2 m.length cap2, .func (.func 121) #[] #[]] w fun e w' => e = .returned (.bool r) ∧ Below w.heap.size w w' := by
  by_cases hlm : l.length = m.length
  · have HI := Lib.hid hI
    have HJ := Lib.hid hJ
    have HR := Lib.hid hr
    have HLM := Lib.hid hlm
    have HSB := Lib.hid (fun wr (hb : Below w.heap.size w wr) q (hq : q < l.length) (hq2 : q < m.length) (z : Bool) (hz : z = true ↔ (blkAt l q).d = (blkAt m q).d) => SameB_any (blkAt l q) (blkAt m q) wr (((hI.on hb) q hq).elim fun _ h => h.elim fun _ h => h.2.2.2.2.2) (((hJ.on hb) q hq2).elim fun _ h => h.elim fun _ h => h.2.2.2.2.2) (hk q hq) z hz)
    obtain ⟨L, hL⟩ : ∃ L, l.length = L := ⟨_, rfl⟩
    have hM : m.length = L := by rw [← hlm, hL]
    rw [hM]
    rw [hL] at hl ⊢
    have HL := Lib.hid hL
    have HM := Lib.hid hM
    clear hI hJ hk hr hlm hL hM
    go_enter Tryz.func120, Tryz.ntmps120
    go_wp2
    go_loopw [17] (fun i wr => ∃ q : Nat, q ≤ L ∧ i = .int .i64 q ∧ Hid (∀ j : Nat, j < q → (blkAt l j).d = (blkAt m j).d) ∧ Hid (Below w.heap.size w wr)) (fun i _ => L - (intOf i).toNat)
    case atStart => exact ⟨0, Nat.zero_le _, rfl, fun j hj => absurd hj (Nat.not_lt_zero _), Below.refl _ _⟩
    case round =>
      obtain ⟨q, hq, rfl, hne, HB⟩ := hrel
      by_cases hlt : q < L
      · have hq1 : q < l.length := by rw [HL.out]; exact hlt
        have hq2 : q < m.length := by rw [HM.out]; exact hlt
        obtain ⟨b, o, rfl, hbl, c0, c1, c2, -⟩ := (HI.out.below HB.out) q hq1
        obtain ⟨b2, o2, rfl, hbl2, d0, d1, d2, -⟩ := (HJ.out.below HB.out) q hq2
        obtain ⟨z, hz⟩ : ∃ z : Bool, z = true ↔ (blkAt l q).d = (blkAt m q).d := by
          by_cases h : (blkAt l q).d = (blkAt m q).d
          · exact ⟨true, iff_of_true rfl h⟩
          · exact ⟨false, iff_of_false (fun h => nomatch h) h⟩
        have HZ := Lib.hid hz
        have HSQ := Lib.hid (fun wr hb => HSB.out wr hb q hq1 hq2 z hz)
        obtain ⟨y, hy⟩ : ∃ y, blkAt l q = y := ⟨_, rfl⟩
        obtain ⟨y2, hy2⟩ : ∃ y, blkAt m q = y := ⟨_, rfl⟩
        rw [hy] at c0 c1 c2
        rw [hy2] at d0 d1 d2
        simp only [hy, hy2] at HSQ
        clear hy hy2 hz hq1 hq2
        obtain ⟨lv, ca, cc, code, sa, sc, succ⟩ := y
        obtain ⟨lv2, ca2, cc2, code2, sa2, sc2, succ2⟩ := y2
        unfold Blk.val at HSQ
        dsimp only at c0 c1 c2 d0 d1 d2 HSQ
        have hqi : (q : Int) < (L : Int) := by omega
        have HBA := Lib.hid ((HB.out.alloc HB.out.size (.cells #[.bool lv, .slice ca code.length cc, .slice sa succ.length sc] 35)).alloc (HB.out.alloc HB.out.size (.cells #[.bool lv, .slice ca code.length cc, .slice sa succ.length sc] 35)).size (.cells #[.bool lv2, .slice ca2 code2.length cc2, .slice sa2 succ2.length sc2] 35))
        have d0' := (((Below.refl wr.heap.size wr).alloc (Nat.le_refl _) (.cells #[.bool lv, .slice ca code.length cc, .slice sa succ.length sc] 35)).cell (p := ⟨b2, o2 + q * 3, none⟩) (Nat.lt_of_lt_of_le hbl2 HB.out.size)).trans d0
        have d1' := (((Below.refl wr.heap.size wr).alloc (Nat.le_refl _) (.cells #[.bool lv, .slice ca code.length cc, .slice sa succ.length sc] 35)).cell (p := ⟨b2, o2 + q * 3 + 1, none⟩) (Nat.lt_of_lt_of_le hbl2 HB.out.size)).trans d1
        have d2' := (((Below.refl wr.heap.size wr).alloc (Nat.le_refl _) (.cells #[.bool lv, .slice ca code.length cc, .slice sa succ.length sc] 35)).cell (p := ⟨b2, o2 + q * 3 + 2, none⟩) (Nat.lt_of_lt_of_le hbl2 HB.out.size)).trans d2
        clear d0 d1 d2 hbl hbl2
        cases z with
        | true =>
          go_wp2_with (go_at_call 121; refine (HSQ.out _ HBA.out).mono ?_; rintro e wn ⟨rfl, hbn⟩; have hbx := HBA.out.trans (hbn.mono HBA.out.size); clear hbn HBA c0 c1 c2 d0' d1' d2'; have HBN := Lib.hid hbx; clear hbx)
          go_roundw
          case rel =>
            refine ⟨q + 1, by omega, by go_num, fun j hj => ?_, HBN⟩
            rcases Nat.lt_succ_iff_lt_or_eq.1 hj with h | rfl
            · exact hne.out j h
            · exact HZ.out.1 (by trivial)
          case measure => simp [intOf]; omega
        | false =>
          go_wp2_with (go_at_call 121; refine (HSQ.out _ HBA.out).mono ?_; rintro e wn ⟨rfl, hbn⟩; have hbx := HBA.out.trans (hbn.mono HBA.out.size); clear hbn HBA c0 c1 c2 d0' d1' d2'; have HBN := Lib.hid hbx; clear hbx)
          go_ret
          have hrf : r = false := by
            rw [← Bool.not_eq_true, HR.out]
            exact fun h => absurd (HZ.out.2 (dB_at h q)) (by decide)
          exact ⟨by rw [hrf]; rfl, HBN.out⟩
      · obtain rfl : q = L := by omega
        go_wp2
        go_ret
        have hrt : r = true := HR.out.2 (dB_ext HLM.out fun j hj => hne.out j (by rw [← HL.out]; exact hj))
        exact ⟨by rw [hrt]; rfl, HB.out⟩
  · obtain rfl : r = false := by
      rw [← Bool.not_eq_true, hr]
      exact fun h => hlm (by simpa using congrArg List.length h)
    obtain ⟨L, hL⟩ : ∃ L, l.length = L := ⟨_, rfl⟩
    obtain ⟨M, hM⟩ : ∃ M, m.length = M := ⟨_, rfl⟩
    rw [hL, hM] at hlm ⊢
    have hlm2 : ¬ (L : Int) = (M : Int) := by omega
    clear hI hJ hk hr hl hL hM
    go_enter Tryz.func120, Tryz.ntmps120
    go_wp2
    go_ret
    exact ⟨rfl, Below.refl _ _⟩

set_option maxRecDepth 100000 in
set_option maxHeartbeats 16000000 in
theorem SameF_any (a b : Fd) (w : World) (ha : FdIs w.heap.size w a) (hb : FdIs w.heap.size w b) (hl : a.blocks.length ≤ 1000 ∧ ∀ k, k < a.blocks.length → (blkAt a.blocks k).code.length ≤ 1000 ∧ (blkAt a.blocks k).succ.length ≤ 1000) (r : Bool) (hr : r = true ↔ a.d = b.d) :
    Calls Tryz.prog 90 #[a.val, b.val] w fun e w' => e = .returned (.bool r) ∧ Below w.heap.size w w' := by
  rw [fd_d_iff] at hr
  obtain ⟨e3, he3⟩ : ∃ x : Bool, x = true ↔ a.blocks.map Blk.d = b.blocks.map Blk.d := by
    by_cases h : a.blocks.map Blk.d = b.blocks.map Blk.d
    · exact ⟨true, iff_of_true rfl h⟩
    · exact ⟨false, iff_of_false (fun h => nomatch h) h⟩
  have HEB := Lib.hid (fun wr (hbe : Below w.heap.size w wr) => EqFB_any a.ba b.ba a.blocks b.blocks a.bc b.bc wr (BlksIs.on ha hbe) (BlksIs.on hb hbe) hl.1 hl.2 e3 he3)
  replace hr := and3_iff hr (e1 := decide (a.ar = b.ar)) (e2 := decide (a.vr = b.vr)) (e3 := e3) (by simp) (by simp) he3
  clear ha hb hl he3
  obtain ⟨ar, vr, ba, bc, bl⟩ := a
  obtain ⟨ar2, vr2, ba2, bc2, bl2⟩ := b
  unfold Fd.val
  dsimp only at HEB hr ⊢
  obtain ⟨M, hM⟩ : ∃ n, bl.length = n := ⟨_, rfl⟩
  obtain ⟨M2, hM2⟩ : ∃ n, bl2.length = n := ⟨_, rfl⟩
  simp only [hM, hM2] at HEB ⊢
  clear hM hM2
  subst hr
  by_cases h1 : ar = ar2
  · subst h1
    by_cases h2 : vr = vr2
    · subst h2
      rw [decide_eq_true rfl, decide_eq_true rfl, Bool.true_and, Bool.true_and]
      have HBb := Lib.hid (below2 w (.cells #[.int .i64 ar, .int .i64 vr, .slice ba M bc] 29) (.cells #[.int .i64 ar, .int .i64 vr, .slice ba2 M2 bc2] 29))
      have hx0 := BoxL.new w [.int .i64 ar, .int .i64 vr, .slice ba M bc] 29
      have HX0 := Lib.hid (show BoxL ((w.alloc (.cells #[.int .i64 ar, .int .i64 vr, .slice ba M bc] 29)).alloc (.cells #[.int .i64 ar, .int .i64 vr, .slice ba2 M2 bc2] 29)) (w.heap.size) [.int .i64 ar, .int .i64 vr, .slice ba M bc] from (hx0).alloc (Nat.zero_lt_succ _) (.cells #[.int .i64 ar, .int .i64 vr, .slice ba2 M2 bc2] 29))
      have hx1 := BoxL.new (w.alloc (.cells #[.int .i64 ar, .int .i64 vr, .slice ba M bc] 29)) [.int .i64 ar, .int .i64 vr, .slice ba2 M2 bc2] 29
      rw [World.size_alloc] at hx1
      have HX1 := Lib.hid (show BoxL ((w.alloc (.cells #[.int .i64 ar, .int .i64 vr, .slice ba M bc] 29)).alloc (.cells #[.int .i64 ar, .int .i64 vr, .slice ba2 M2 bc2] 29)) (w.heap.size + 1) [.int .i64 ar, .int .i64 vr, .slice ba2 M2 bc2] from hx1)
      clear hx0 hx1
      generalize hW : ((w.alloc (.cells #[.int .i64 ar, .int .i64 vr, .slice ba M bc] 29)).alloc (.cells #[.int .i64 ar, .int .i64 vr, .slice ba2 M2 bc2] 29)) = W at HBb HX0 HX1 
      obtain ⟨g, hg⟩ : ∃ g, w.heap.size = g := ⟨_, rfl⟩
      have HGL := Lib.hid HBb.out.size
      rw [hg] at HBb HGL HX0 HX1 ⊢
      have HL0 := Lib.hid (HX0.out.lt (Nat.zero_lt_succ _))
      have HL1 := Lib.hid (HX1.out.lt (Nat.zero_lt_succ _))
      rw [hg] at HEB
      have HC : Hid (∀ wr, Below W.heap.size W wr → wr.cell? ⟨g, 0, none⟩ = some (.int .i64 ar) ∧ wr.cell? ⟨g, 1, none⟩ = some (.int .i64 vr) ∧ wr.cell? ⟨g, 2, none⟩ = some (.slice ba M bc) ∧ wr.cell? ⟨g + 1, 0, none⟩ = some (.int .i64 ar) ∧ wr.cell? ⟨g + 1, 1, none⟩ = some (.int .i64 vr) ∧ wr.cell? ⟨g + 1, 2, none⟩ = some (.slice ba2 M2 bc2)) := Lib.hid fun wr hb => ⟨((HX0.out.below hb HL0.out) 0 _ rfl).1, ((HX0.out.below hb HL0.out) 1 _ rfl).1, ((HX0.out.below hb HL0.out) 2 _ rfl).1, ((HX1.out.below hb HL1.out) 0 _ rfl).1, ((HX1.out.below hb HL1.out) 1 _ rfl).1, ((HX1.out.below hb HL1.out) 2 _ rfl).1⟩
      have HBN : Hid (Below W.heap.size W W) := Lib.hid (Below.refl _ _)
      obtain ⟨k0, k1, k2, k3, k4, k5⟩ := HC.out _ HBN.out
      go_enter Tryz.func90, Tryz.ntmps90
      go_wp2_with (go_at_call 120; refine (HEB.out _ (HBb.out.trans (HBN.out.mono HGL.out))).mono ?_; rintro e wa ⟨rfl, hbn⟩; have hbx := HBN.out.trans (hbn.mono HBN.out.size); clear HBN hbn k0 k1 k2 k3 k4 k5; have HBN := Lib.hid hbx; clear hbx; obtain ⟨k0, k1, k2, k3, k4, k5⟩ := HC.out _ HBN.out)
      go_ret
      exact ⟨by simp, HBb.out.trans (HBN.out.mono HGL.out)⟩
    · have h3 : (vr == vr2) = false := beq_false_of_ne h2
      rw [decide_eq_true rfl, decide_eq_false h2, Bool.true_and, Bool.false_and]
      have HBb := Lib.hid (below2 w (.cells #[.int .i64 ar, .int .i64 vr, .slice ba M bc] 29) (.cells #[.int .i64 ar, .int .i64 vr2, .slice ba2 M2 bc2] 29))
      have hx0 := BoxL.new w [.int .i64 ar, .int .i64 vr, .slice ba M bc] 29
      have HX0 := Lib.hid (show BoxL ((w.alloc (.cells #[.int .i64 ar, .int .i64 vr, .slice ba M bc] 29)).alloc (.cells #[.int .i64 ar, .int .i64 vr2, .slice ba2 M2 bc2] 29)) (w.heap.size) [.int .i64 ar, .int .i64 vr, .slice ba M bc] from (hx0).alloc (Nat.zero_lt_succ _) (.cells #[.int .i64 ar, .int .i64 vr2, .slice ba2 M2 bc2] 29))
      have hx1 := BoxL.new (w.alloc (.cells #[.int .i64 ar, .int .i64 vr, .slice ba M bc] 29)) [.int .i64 ar, .int .i64 vr2, .slice ba2 M2 bc2] 29
      rw [World.size_alloc] at hx1
      have HX1 := Lib.hid (show BoxL ((w.alloc (.cells #[.int .i64 ar, .int .i64 vr, .slice ba M bc] 29)).alloc (.cells #[.int .i64 ar, .int .i64 vr2, .slice ba2 M2 bc2] 29)) (w.heap.size + 1) [.int .i64 ar, .int .i64 vr2, .slice ba2 M2 bc2] from hx1)
      clear hx0 hx1
      generalize hW : ((w.alloc (.cells #[.int .i64 ar, .int .i64 vr, .slice ba M bc] 29)).alloc (.cells #[.int .i64 ar, .int .i64 vr2, .slice ba2 M2 bc2] 29)) = W at HBb HX0 HX1 
      obtain ⟨g, hg⟩ : ∃ g, w.heap.size = g := ⟨_, rfl⟩
      have HGL := Lib.hid HBb.out.size
      rw [hg] at HBb HGL HX0 HX1 ⊢
      have HL0 := Lib.hid (HX0.out.lt (Nat.zero_lt_succ _))
      have HL1 := Lib.hid (HX1.out.lt (Nat.zero_lt_succ _))
      rw [hg] at HEB
      have HC : Hid (∀ wr, Below W.heap.size W wr → wr.cell? ⟨g, 0, none⟩ = some (.int .i64 ar) ∧ wr.cell? ⟨g, 1, none⟩ = some (.int .i64 vr) ∧ wr.cell? ⟨g, 2, none⟩ = some (.slice ba M bc) ∧ wr.cell? ⟨g + 1, 0, none⟩ = some (.int .i64 ar) ∧ wr.cell? ⟨g + 1, 1, none⟩ = some (.int .i64 vr2) ∧ wr.cell? ⟨g + 1, 2, none⟩ = some (.slice ba2 M2 bc2)) := Lib.hid fun wr hb => ⟨((HX0.out.below hb HL0.out) 0 _ rfl).1, ((HX0.out.below hb HL0.out) 1 _ rfl).1, ((HX0.out.below hb HL0.out) 2 _ rfl).1, ((HX1.out.below hb HL1.out) 0 _ rfl).1, ((HX1.out.below hb HL1.out) 1 _ rfl).1, ((HX1.out.below hb HL1.out) 2 _ rfl).1⟩
      have HBN : Hid (Below W.heap.size W W) := Lib.hid (Below.refl _ _)
      obtain ⟨k0, k1, k2, k3, k4, k5⟩ := HC.out _ HBN.out
      go_enter Tryz.func90, Tryz.ntmps90
      go_wp2_with fail
      go_ret
      exact ⟨by simp, HBb.out.trans (HBN.out.mono HGL.out)⟩
  · have h3 : (ar == ar2) = false := beq_false_of_ne h1
    rw [decide_eq_false h1, Bool.false_and]
    have HBb := Lib.hid (below2 w (.cells #[.int .i64 ar, .int .i64 vr, .slice ba M bc] 29) (.cells #[.int .i64 ar2, .int .i64 vr2, .slice ba2 M2 bc2] 29))
    have hx0 := BoxL.new w [.int .i64 ar, .int .i64 vr, .slice ba M bc] 29
    have HX0 := Lib.hid (show BoxL ((w.alloc (.cells #[.int .i64 ar, .int .i64 vr, .slice ba M bc] 29)).alloc (.cells #[.int .i64 ar2, .int .i64 vr2, .slice ba2 M2 bc2] 29)) (w.heap.size) [.int .i64 ar, .int .i64 vr, .slice ba M bc] from (hx0).alloc (Nat.zero_lt_succ _) (.cells #[.int .i64 ar2, .int .i64 vr2, .slice ba2 M2 bc2] 29))
    have hx1 := BoxL.new (w.alloc (.cells #[.int .i64 ar, .int .i64 vr, .slice ba M bc] 29)) [.int .i64 ar2, .int .i64 vr2, .slice ba2 M2 bc2] 29
    rw [World.size_alloc] at hx1
    have HX1 := Lib.hid (show BoxL ((w.alloc (.cells #[.int .i64 ar, .int .i64 vr, .slice ba M bc] 29)).alloc (.cells #[.int .i64 ar2, .int .i64 vr2, .slice ba2 M2 bc2] 29)) (w.heap.size + 1) [.int .i64 ar2, .int .i64 vr2, .slice ba2 M2 bc2] from hx1)
    clear hx0 hx1
    generalize hW : ((w.alloc (.cells #[.int .i64 ar, .int .i64 vr, .slice ba M bc] 29)).alloc (.cells #[.int .i64 ar2, .int .i64 vr2, .slice ba2 M2 bc2] 29)) = W at HBb HX0 HX1 
    obtain ⟨g, hg⟩ : ∃ g, w.heap.size = g := ⟨_, rfl⟩
    have HGL := Lib.hid HBb.out.size
    rw [hg] at HBb HGL HX0 HX1 ⊢
    have HL0 := Lib.hid (HX0.out.lt (Nat.zero_lt_succ _))
    have HL1 := Lib.hid (HX1.out.lt (Nat.zero_lt_succ _))
    rw [hg] at HEB
    have HC : Hid (∀ wr, Below W.heap.size W wr → wr.cell? ⟨g, 0, none⟩ = some (.int .i64 ar) ∧ wr.cell? ⟨g, 1, none⟩ = some (.int .i64 vr) ∧ wr.cell? ⟨g, 2, none⟩ = some (.slice ba M bc) ∧ wr.cell? ⟨g + 1, 0, none⟩ = some (.int .i64 ar2) ∧ wr.cell? ⟨g + 1, 1, none⟩ = some (.int .i64 vr2) ∧ wr.cell? ⟨g + 1, 2, none⟩ = some (.slice ba2 M2 bc2)) := Lib.hid fun wr hb => ⟨((HX0.out.below hb HL0.out) 0 _ rfl).1, ((HX0.out.below hb HL0.out) 1 _ rfl).1, ((HX0.out.below hb HL0.out) 2 _ rfl).1, ((HX1.out.below hb HL1.out) 0 _ rfl).1, ((HX1.out.below hb HL1.out) 1 _ rfl).1, ((HX1.out.below hb HL1.out) 2 _ rfl).1⟩
    have HBN : Hid (Below W.heap.size W W) := Lib.hid (Below.refl _ _)
    obtain ⟨k0, k1, k2, k3, k4, k5⟩ := HC.out _ HBN.out
    go_enter Tryz.func90, Tryz.ntmps90
    go_wp2_with fail
    go_ret
    exact ⟨by simp, HBb.out.trans (HBN.out.mono HGL.out)⟩

set_option maxRecDepth 100000 in
set_option maxHeartbeats 16000000 in
theorem EqFF_any (a a2 : Option Addr) (l m : List Fd) (cap cap2 : Nat) (w : World) (hI : PgIs w.heap.size w ⟨a, cap, l⟩) (hJ : PgIs w.heap.size w ⟨a2, cap2, m⟩) (hl : l.length ≤ 1000) (hk : ∀ k, k < l.length → (fdAt l k).blocks.length ≤ 1000 ∧ ∀ j, j < (fdAt l k).blocks.length → (blkAt (fdAt l k).blocks j).code.length ≤ 1000 ∧ (blkAt (fdAt l k).blocks j).succ.length ≤ 1000) (r : Bool) (hr : r = true ↔ l.map Fd.d = m.map Fd.d) :
    Calls Tryz.prog 89 #[.slice a l.length cap, .slice a2 m.length cap2, .func (.func 90) #[] #[]] w fun e w' => e = .returned (.bool r) ∧ Below w.heap.size w w' := by
  by_cases hlm : l.length = m.length
  · have HI := Lib.hid hI
    have HJ := Lib.hid hJ
    have HR := Lib.hid hr
    have HLM := Lib.hid hlm
    have HSB := Lib.hid (fun wr (hb : Below w.heap.size w wr) q (hq : q < l.length) (hq2 : q < m.length) (z : Bool) (hz : z = true ↔ (fdAt l q).d = (fdAt m q).d) => SameF_any (fdAt l q) (fdAt m q) wr (((hI.on hb) q hq).elim fun _ h => h.elim fun _ h => h.2.2.2.2.2) (((hJ.on hb) q hq2).elim fun _ h => h.elim fun _ h => h.2.2.2.2.2) (hk q hq) z hz)
    obtain ⟨L, hL⟩ : ∃ L, l.length = L := ⟨_, rfl⟩
    have hM : m.length = L := by rw [← hlm, hL]
    rw [hM]
    rw [hL] at hl ⊢
    have HL := Lib.hid hL
    have HM := Lib.hid hM
    clear hI hJ hk hr hlm hL hM
    go_enter Tryz.func89, Tryz.ntmps89
    go_wp2
    go_loopw [17] (fun i wr => ∃ q : Nat, q ≤ L ∧ i = .int .i64 q ∧ Hid (∀ j : Nat, j < q → (fdAt l j).d = (fdAt m j).d) ∧ Hid (Below w.heap.size w wr)) (fun i _ => L - (intOf i).toNat)
    case atStart => exact ⟨0, Nat.zero_le _, rfl, fun j hj => absurd hj (Nat.not_lt_zero _), Below.refl _ _⟩
    case round =>
      obtain ⟨q, hq, rfl, hne, HB⟩ := hrel
      by_cases hlt : q < L
      · have hq1 : q < l.length := by rw [HL.out]; exact hlt
        have hq2 : q < m.length := by rw [HM.out]; exact hlt
        obtain ⟨b, o, hae, hbl, c0, c1, c2, -⟩ := (HI.out.below HB.out) q hq1
        obtain ⟨b2, o2, hae2, hbl2, d0, d1, d2, -⟩ := (HJ.out.below HB.out) q hq2
        dsimp only at hae hae2
        subst hae hae2
        obtain ⟨z, hz⟩ : ∃ z : Bool, z = true ↔ (fdAt l q).d = (fdAt m q).d := by
          by_cases h : (fdAt l q).d = (fdAt m q).d
          · exact ⟨true, iff_of_true rfl h⟩
          · exact ⟨false, iff_of_false (fun h => nomatch h) h⟩
        have HZ := Lib.hid hz
        have HSQ := Lib.hid (fun wr hb => HSB.out wr hb q hq1 hq2 z hz)
        obtain ⟨y, hy⟩ : ∃ y, fdAt l q = y := ⟨_, rfl⟩
        obtain ⟨y2, hy2⟩ : ∃ y, fdAt m q = y := ⟨_, rfl⟩
        rw [hy] at c0 c1 c2
        rw [hy2] at d0 d1 d2
        simp only [hy, hy2] at HSQ
        clear hy hy2 hz hq1 hq2
        obtain ⟨ar, vr, ba, bc, bl⟩ := y
        obtain ⟨ar2, vr2, ba2, bc2, bl2⟩ := y2
        unfold Fd.val at HSQ
        dsimp only at c0 c1 c2 d0 d1 d2 HSQ
        have hqi : (q : Int) < (L : Int) := by omega
        have HBA := Lib.hid ((HB.out.alloc HB.out.size (.cells #[.int .i64 ar, .int .i64 vr, .slice ba bl.length bc] 29)).alloc (HB.out.alloc HB.out.size (.cells #[.int .i64 ar, .int .i64 vr, .slice ba bl.length bc] 29)).size (.cells #[.int .i64 ar2, .int .i64 vr2, .slice ba2 bl2.length bc2] 29))
        have d0' := (((Below.refl wr.heap.size wr).alloc (Nat.le_refl _) (.cells #[.int .i64 ar, .int .i64 vr, .slice ba bl.length bc] 29)).cell (p := ⟨b2, o2 + q * 3, none⟩) (Nat.lt_of_lt_of_le hbl2 HB.out.size)).trans d0
        have d1' := (((Below.refl wr.heap.size wr).alloc (Nat.le_refl _) (.cells #[.int .i64 ar, .int .i64 vr, .slice ba bl.length bc] 29)).cell (p := ⟨b2, o2 + q * 3 + 1, none⟩) (Nat.lt_of_lt_of_le hbl2 HB.out.size)).trans d1
        have d2' := (((Below.refl wr.heap.size wr).alloc (Nat.le_refl _) (.cells #[.int .i64 ar, .int .i64 vr, .slice ba bl.length bc] 29)).cell (p := ⟨b2, o2 + q * 3 + 2, none⟩) (Nat.lt_of_lt_of_le hbl2 HB.out.size)).trans d2
        clear d0 d1 d2 hbl hbl2
        cases z with
        | true =>
          go_wp2_with (go_at_call 90; refine (HSQ.out _ HBA.out).mono ?_; rintro e wn ⟨rfl, hbn⟩; have hbx := HBA.out.trans (hbn.mono HBA.out.size); clear hbn HBA c0 c1 c2 d0' d1' d2'; have HBN := Lib.hid hbx; clear hbx)
          go_roundw
          case rel =>
            refine ⟨q + 1, by omega, by go_num, fun j hj => ?_, HBN⟩
            rcases Nat.lt_succ_iff_lt_or_eq.1 hj with h | rfl
            · exact hne.out j h
            · exact HZ.out.1 (by trivial)
          case measure => simp [intOf]; omega
        | false =>
          go_wp2_with (go_at_call 90; refine (HSQ.out _ HBA.out).mono ?_; rintro e wn ⟨rfl, hbn⟩; have hbx := HBA.out.trans (hbn.mono HBA.out.size); clear hbn HBA c0 c1 c2 d0' d1' d2'; have HBN := Lib.hid hbx; clear hbx)
          go_ret
          have hrf : r = false := by
            rw [← Bool.not_eq_true, HR.out]
            exact fun h => absurd (HZ.out.2 (dF_at h q)) (by decide)
          exact ⟨by rw [hrf]; rfl, HBN.out⟩
      · obtain rfl : q = L := by omega
        go_wp2
        go_ret
        have hrt : r = true := HR.out.2 (dF_ext HLM.out fun j hj => hne.out j (by rw [← HL.out]; exact hj))
        exact ⟨by rw [hrt]; rfl, HB.out⟩
  · obtain rfl : r = false := by
      rw [← Bool.not_eq_true, hr]
      exact fun h => hlm (by simpa using congrArg List.length h)
    obtain ⟨L, hL⟩ : ∃ L, l.length = L := ⟨_, rfl⟩
    obtain ⟨M, hM⟩ : ∃ M, m.length = M := ⟨_, rfl⟩
    rw [hL, hM] at hlm ⊢
    have hlm2 : ¬ (L : Int) = (M : Int) := by omega
    clear hI hJ hk hr hl hL hM
    go_enter Tryz.func89, Tryz.ntmps89
    go_wp2
    go_ret
    exact ⟨rfl, Below.refl _ _⟩

set_option maxRecDepth 100000 in
set_option maxHeartbeats 16000000 in
theorem Same_any (p q : Pg) (w : World) (hp : PgIs w.heap.size w p) (hq : PgIs w.heap.size w q) (hf : p.few) (r : Bool) (hr : r = true ↔ p.d = q.d) :
    Calls Tryz.prog 57 #[p.val, q.val] w fun e w' => e = .returned (.bool r) ∧ Below w.heap.size w w' := by
  have hr2 : r = true ↔ p.funs.map Fd.d = q.funs.map Fd.d := by
    rw [hr]
    unfold Pg.d
    simp
  have HEF := Lib.hid (fun wr (hbe : Below w.heap.size w wr) => EqFF_any p.pa q.pa p.funs q.funs p.pc q.pc wr (hp.on hbe) (hq.on hbe) (by have := hf.1; omega) (fun k hk => ⟨by have := (hf.2 k hk).1; omega, fun j hj => by have := (hf.2 k hk).2 j hj; unfold fewB at this; omega⟩) r hr2)
  clear hp hq hf hr hr2
  obtain ⟨pa, pc, pl⟩ := p
  obtain ⟨qa, qc, ql⟩ := q
  unfold Pg.val
  dsimp only at HEF ⊢
  obtain ⟨PL, hPL⟩ : ∃ n, pl.length = n := ⟨_, rfl⟩
  obtain ⟨QL, hQL⟩ : ∃ n, ql.length = n := ⟨_, rfl⟩
  simp only [hPL, hQL] at HEF ⊢
  clear hPL hQL
  have HBb := Lib.hid (below2 w (.cells #[.slice pa PL pc] 24) (.cells #[.slice qa QL qc] 24))
  have hx0 := BoxL.new w [.slice pa PL pc] 24
  have HX0 := Lib.hid (show BoxL ((w.alloc (.cells #[.slice pa PL pc] 24)).alloc (.cells #[.slice qa QL qc] 24)) (w.heap.size) [.slice pa PL pc] from (hx0).alloc (Nat.zero_lt_succ _) (.cells #[.slice qa QL qc] 24))
  have hx1 := BoxL.new (w.alloc (.cells #[.slice pa PL pc] 24)) [.slice qa QL qc] 24
  rw [World.size_alloc] at hx1
  have HX1 := Lib.hid (show BoxL ((w.alloc (.cells #[.slice pa PL pc] 24)).alloc (.cells #[.slice qa QL qc] 24)) (w.heap.size + 1) [.slice qa QL qc] from hx1)
  clear hx0 hx1
  generalize hW : ((w.alloc (.cells #[.slice pa PL pc] 24)).alloc (.cells #[.slice qa QL qc] 24)) = W at HBb HX0 HX1 
  obtain ⟨g, hg⟩ : ∃ g, w.heap.size = g := ⟨_, rfl⟩
  have HGL := Lib.hid HBb.out.size
  rw [hg] at HBb HGL HX0 HX1 ⊢
  have HL0 := Lib.hid (HX0.out.lt (Nat.zero_lt_succ _))
  have HL1 := Lib.hid (HX1.out.lt (Nat.zero_lt_succ _))
  rw [hg] at HEF
  have HC : Hid (∀ wr, Below W.heap.size W wr → wr.cell? ⟨g, 0, none⟩ = some (.slice pa PL pc) ∧ wr.cell? ⟨g + 1, 0, none⟩ = some (.slice qa QL qc)) := Lib.hid fun wr hb => ⟨((HX0.out.below hb HL0.out) 0 _ rfl).1, ((HX1.out.below hb HL1.out) 0 _ rfl).1⟩
  have HBN : Hid (Below W.heap.size W W) := Lib.hid (Below.refl _ _)
  obtain ⟨k0, k1⟩ := HC.out _ HBN.out
  go_enter Tryz.func57, Tryz.ntmps57
  go_wp2_with (go_at_call 89; refine (HEF.out _ (HBb.out.trans (HBN.out.mono HGL.out))).mono ?_; rintro e wa ⟨rfl, hbn⟩; have hbx := HBN.out.trans (hbn.mono HBN.out.size); clear HBN hbn k0 k1; have HBN := Lib.hid hbx; clear hbx)
  go_ret
  exact ⟨rfl, HBb.out.trans (HBN.out.mono HGL.out)⟩

end Go.Proofs.YtbddjneinfkmpaaGreatDoor
