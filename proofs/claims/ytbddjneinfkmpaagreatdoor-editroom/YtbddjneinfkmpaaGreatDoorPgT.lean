/- The document's answer for layer 6: has a program few parts? -/
import Derived.Test.YtbddjneinfkmpaaGreatDoorPgM
namespace Go.Proofs.YtbddjneinfkmpaaGreatDoor
open Go Go.RowKit Go.Sort

set_option maxRecDepth 100000 in
set_option maxHeartbeats 4000000 in
theorem Few_any (p : Pg) (w : World) (hp : PgIs w.heap.size w p) (r : Bool) (hr : r = true ↔ p.few) :
    Calls Tryz.prog 14 #[p.val] w fun e w' => e = .returned (.bool r) ∧ Below w.heap.size w w' := by
  have HB1 := Lib.hid (below1 w (.cells #[.slice p.pa p.funs.length p.pc] 24))
  have HX := Lib.hid (BoxL.new w [.slice p.pa p.funs.length p.pc] 24)
  have HP := Lib.hid (hp.on HB1.out)
  have HF : Hid (r = true ↔ p.funs.length ≤ 10 ∧ ∀ k, k < p.funs.length → fewF (fdAt p.funs k)) := Lib.hid hr
  clear hp hr
  unfold Pg.val
  obtain ⟨pa, pc, fs⟩ := p
  dsimp only at *
  obtain ⟨L, hL⟩ : ∃ L, fs.length = L := ⟨_, rfl⟩
  have HL := Lib.hid hL
  simp only [hL] at HB1 HX HP HF ⊢
  clear hL
  have HX' : Hid (BoxL (w.alloc (.cells #[.slice pa L pc] 24)) w.heap.size [.slice pa L pc]) := HX
  clear HX
  generalize hE : w.alloc (.cells #[.slice pa L pc] 24) = W at HB1 HX' HP
  obtain ⟨g, hg⟩ : ∃ g, w.heap.size = g := ⟨_, rfl⟩
  have HGL := Lib.hid HB1.out.size
  rw [hg] at HB1 HX' HGL ⊢
  have HGW := Lib.hid (HX'.out.lt (Nat.zero_lt_succ _))
  have p0 := (HX'.out 0 _ rfl).1
  by_cases h10 : 10 < L
  · have h10' : (10 : Int) < (L : Int) := by omega
    go_enter Tryz.func14, Tryz.ntmps14
    go_wp2
    go_ret
    refine ⟨ret_bool ?_, HB1.out⟩
    cases r with
    | false => rfl
    | true => have := (HF.out.1 rfl).1; omega
  have h10' : (L : Int) ≤ 10 := by omega
  go_enter Tryz.func14, Tryz.ntmps14
  go_wp2
  clear p0
  go_loopw [3] (fun i wr => ∃ q : Nat, q ≤ L ∧ i = .int .i64 q ∧ Hid (∀ k, k < q → fewF (fdAt fs k)) ∧ Hid (Below W.heap.size W wr)) (fun i _ => L - (intOf i).toNat)
  case atStart => exact ⟨0, Nat.zero_le _, rfl, fun k hk => absurd hk (Nat.not_lt_zero _), Below.refl _ _⟩
  case round =>
    obtain ⟨q, hq, rfl, hok, hBw⟩ := hrel
    have p0 := ((HX'.out.below hBw.out HGW.out) 0 _ rfl).1
    by_cases hlt : q < L
    · obtain ⟨-, -, -, -, -, -, -, hfd⟩ := HP.out q (by rw [HL.out]; exact hlt)
      obtain ⟨b, o, rfl, hb, c0, c1, c2, -⟩ := (HP.out.below hBw.out) q (by rw [HL.out]; exact hlt)
      dsimp only at c2 hfd
      obtain ⟨fd, hfdq⟩ : ∃ fd, fdAt fs q = fd := ⟨_, rfl⟩
      rw [hfdq] at c2 hfd
      have HFQ := Lib.hid hfdq
      clear hfdq c0 c1
      obtain ⟨ar, vr, ba, bc, bl⟩ := fd
      dsimp only at c2 hfd
      obtain ⟨M, hM⟩ : ∃ M, bl.length = M := ⟨_, rfl⟩
      rw [hM] at c2
      have HM := Lib.hid hM
      have HFD := Lib.hid (show BlksIs W.heap.size W ba bl from hfd)
      have HBB := Lib.hid hb
      clear hM hfd hb
      have hqi : (q : Int) < (L : Int) := by omega
      by_cases h20 : 20 < M
      · have h20' : (20 : Int) < (M : Int) := by omega
        go_wp2
        go_ret
        refine ⟨ret_bool ?_, HB1.out.trans (hBw.out.mono HGL.out)⟩
        cases r with
        | false => rfl
        | true =>
          have h := ((HF.out.1 rfl).2 q hlt).1
          rw [HFQ.out] at h
          have h2 : bl.length ≤ 20 := h
          rw [HM.out] at h2
          omega
      have h20' : (M : Int) ≤ 20 := by omega
      have HC2 := Lib.hid c2
      obtain ⟨wo, rfl⟩ : ∃ wo : World, wo = wr := ⟨_, rfl⟩
      go_wp2
      clear p0 c2
      go_loopw [4] (fun i wi => ∃ k : Nat, k ≤ M ∧ i = .int .i64 k ∧ Hid (∀ j, j < k → fewB (blkAt bl j)) ∧ Hid (Below W.heap.size W wi) ∧ Hid (Below wo.heap.size wo wi)) (fun i _ => M - (intOf i).toNat)
      case atStart => exact ⟨0, Nat.zero_le _, rfl, fun k hk => absurd hk (Nat.not_lt_zero _), hBw, Below.refl _ _⟩
      case round =>
        obtain ⟨k, hk, rfl, hokb, hBi, hBo⟩ := hrel
        have p0 := ((HX'.out.below hBi.out HGW.out) 0 _ rfl).1
        have c2 := (hBo.out.cell (p := ⟨b, o + q * 3 + 2, none⟩) (block_lt_of_cell HC2.out)).trans HC2.out
        by_cases hkt : k < M
        · obtain ⟨b2, o2, rfl, hb2, d0, d1, d2, -⟩ := (HFD.out.below hBi.out) k (by rw [HM.out]; exact hkt)
          obtain ⟨bk, hbkr⟩ : ∃ bk, blkAt bl k = bk := ⟨_, rfl⟩
          rw [hbkr] at d0 d1 d2
          have HBK := Lib.hid hbkr
          clear hbkr
          obtain ⟨lv, ca, cc, code, sa, sc, succ⟩ := bk
          dsimp only at d0 d1 d2
          obtain ⟨C, hC⟩ : ∃ C, code.length = C := ⟨_, rfl⟩
          obtain ⟨S, hS⟩ : ∃ S, succ.length = S := ⟨_, rfl⟩
          rw [hC] at d1
          rw [hS] at d2
          have HC := Lib.hid hC
          have HS := Lib.hid hS
          clear hC hS hb2
          have hki : (k : Int) < (M : Int) := by omega
          have HBI2 := Lib.hid (hBi.out.alloc hBi.out.size (.cells #[.bool lv, .slice ca C cc, .slice sa S sc] 35))
          have HBO2 := Lib.hid (hBo.out.alloc hBo.out.size (.cells #[.bool lv, .slice ca C cc, .slice sa S sc] 35))
          by_cases hc30 : 30 < C
          · have hc30' : (30 : Int) < (C : Int) := by omega
            go_wp2
            go_ret
            refine ⟨ret_bool ?_, HB1.out.trans (HBI2.out.mono HGL.out)⟩
            cases r with
            | false => rfl
            | true =>
              have h := ((HF.out.1 rfl).2 q hlt).2 k (by rw [HFQ.out]; show k < bl.length; rw [HM.out]; exact hkt)
              rw [HFQ.out] at h
              have h2 : fewB (blkAt bl k) := h
              rw [HBK.out] at h2
              have h3 : code.length ≤ 30 := h2.1
              rw [HC.out] at h3
              omega
          have hc30' : (C : Int) ≤ 30 := by omega
          by_cases hs30 : 30 < S
          · have hs30' : (30 : Int) < (S : Int) := by omega
            go_wp2
            go_ret
            refine ⟨ret_bool ?_, HB1.out.trans (HBI2.out.mono HGL.out)⟩
            cases r with
            | false => rfl
            | true =>
              have h := ((HF.out.1 rfl).2 q hlt).2 k (by rw [HFQ.out]; show k < bl.length; rw [HM.out]; exact hkt)
              rw [HFQ.out] at h
              have h2 : fewB (blkAt bl k) := h
              rw [HBK.out] at h2
              have h3 : succ.length ≤ 30 := h2.2
              rw [HS.out] at h3
              omega
          have hs30' : (S : Int) ≤ 30 := by omega
          go_wp2
          go_roundw
          case rel =>
            refine ⟨k + 1, by omega, by go_num, fun j hj => ?_, HBI2, HBO2⟩
            rcases Nat.lt_succ_iff_lt_or_eq.1 hj with h | rfl
            · exact hokb.out j h
            · rw [HBK.out]
              exact ⟨by show code.length ≤ 30; rw [HC.out]; omega, by show succ.length ≤ 30; rw [HS.out]; omega⟩
          case measure => simp [intOf]; omega
        · obtain rfl : k = M := by omega
          go_wp2
          go_roundw
          case rel =>
            refine ⟨q + 1, by omega, by go_num, fun j hj => ?_, hBi⟩
            rcases Nat.lt_succ_iff_lt_or_eq.1 hj with h | rfl
            · exact hok.out j h
            · rw [HFQ.out]
              exact ⟨by show bl.length ≤ 20; rw [HM.out]; omega, fun n hn => hokb.out n (by rw [← HM.out]; exact hn)⟩
          case measure => simp [intOf]; omega
    · obtain rfl : q = L := by omega
      go_wp2
      go_ret
      exact ⟨ret_bool (HF.out.2 ⟨by omega, fun k hk => hok.out k hk⟩).symm, HB1.out.trans (hBw.out.mono HGL.out)⟩
end Go.Proofs.YtbddjneinfkmpaaGreatDoor
