/- Programs: all instructions, with their places, one behind the other. -/
import Derived.RangeFuncNested
import Derived.RangeFuncBound
import Derived.RangeFuncCalls
import Derived.RangeFuncLeaves
import Derived.RangeFuncBox
import Derived.RangeFuncFrom
import Derived.RangeFuncWrites
import Derived.Maps.AppendAt
import Derived.Shelf.Abstract
import Derived.Shelf.RegionOpen
import Derived.WalkKit
import Derived.OwnWalkIn
import Derived.TacticsInMore
import Derived.LoopNIn
import Derived.LoopIn
import Derived.Test.YtpegkllhomjocaaGreatDoorPgM
namespace Go.Proofs.YtpegkllhomjocaaGreatDoor
open Go Go.RowKit Go.Sort Go.Shelf

attribute [local go_sem] Oper.semAt_some

/-- An instruction, and where it stands. -/
structure At where
  f : Nat
  b : Nat
  k : Nat
  i : Ins
def atsC (f b : Nat) : Nat → List Ins → List At
  | _, [] => []
  | k, i :: r => ⟨f, b, k, i⟩ :: atsC f b (k + 1) r
def atsB (f : Nat) : Nat → List Blk → List At
  | _, [] => []
  | b, x :: r => atsC f b 0 x.code ++ atsB f (b + 1) r
def atsF : Nat → List Fd → List At
  | _, [] => []
  | f, x :: r => atsB f 0 x.blocks ++ atsF (f + 1) r
def Pg.ats (p : Pg) : List At := atsF 0 p.funs
theorem atsC_i (f b : Nat) : ∀ (l : List Ins) (k : Nat), (atsC f b k l).map At.i = l
  | [], _ => rfl
  | i :: r, k => by simp [atsC, atsC_i f b r (k + 1)]
theorem atsB_i (f : Nat) : ∀ (l : List Blk) (b : Nat), (atsB f b l).map At.i = l.flatMap Blk.ins
  | [], _ => rfl
  | x :: r, b => by simp [atsB, atsB_i f r (b + 1), atsC_i, Blk.ins]
theorem atsF_i : ∀ (l : List Fd) (f : Nat), (atsF f l).map At.i = l.flatMap Fd.ins
  | [], _ => rfl
  | x :: r, f => by simp [atsF, atsF_i r (f + 1), atsB_i, Fd.ins]
theorem ats_i (p : Pg) : p.ats.map At.i = p.ins := atsF_i p.funs 0
theorem atsC_drop (f b : Nat) {l : List Ins} {k : Nat} (h : k < l.length) : atsC f b k (l.drop k) = ⟨f, b, k, insAt l k⟩ :: atsC f b (k + 1) (l.drop (k + 1)) := by
  rw [List.drop_eq_getElem_cons h]
  simp [atsC, insAt, h]
theorem atsB_drop (f : Nat) {l : List Blk} {b : Nat} (h : b < l.length) : atsB f b (l.drop b) = atsC f b 0 (blkAt l b).code ++ atsB f (b + 1) (l.drop (b + 1)) := by
  rw [List.drop_eq_getElem_cons h]
  simp [atsB, blkAt, h]
theorem atsF_drop {l : List Fd} {f : Nat} (h : f < l.length) : atsF f (l.drop f) = atsB f 0 (fdAt l f).blocks ++ atsF (f + 1) (l.drop (f + 1)) := by
  rw [List.drop_eq_getElem_cons h]
  simp [atsF, fdAt, h]
def At.enc (x : At) : Array Value := #[.agg #[.int .i64 (x.f : Int), .int .i64 (x.b : Int), .int .i64 (x.k : Int)], x.i.val]
theorem pre_lt {α : Type} {l pre : List α} {x : α} {s : List α} (h : l = pre ++ x :: s) : pre.length < l.length := by rw [h]; simp
theorem pre_next {α : Type} {l pre : List α} {x : α} {s : List α} (h : l = pre ++ x :: s) : l = (pre ++ [x]) ++ s := by rw [h]; simp

set_option maxRecDepth 100000 in
set_option maxHeartbeats 4000000 in
theorem instrs1_in (n : Nat) (hn : 1 ≤ n) (l Bs n₀ : Nat) (p : Pg) (hfew : p.few) (J Jx : List At → World → Prop) (hJ : ∀ pre W o, J pre W → J pre (W.alloc o))
    (hY : ∀ pre x W, J pre W → pre ++ [x] <+: p.ats → YieldAt Fence.wide (n - 1) Tryz.prog l x.enc W fun e W' =>
      (e = .returned (.bool true) ∧ J (pre ++ [x]) W' ∧ Below n₀ W W') ∨ (e = .returned (.bool false) ∧ Jx (pre ++ [x]) W'))
    (W : World) (hBs : W.cell? ⟨Bs, 0, none⟩ = some (.slice p.pa p.funs.length p.pc)) (hp : PgIs n₀ W p) (hn₀ : n₀ ≤ W.heap.size) (h0 : J [] W) :
    CallsIn Fence.wide n Tryz.prog 101 #[.func (.yield l) #[] #[], .pointer (some ⟨Bs, 0, none⟩)] W fun e W' => (∃ v, e = .returned v) ∧
      ((∃ ys, ys = p.ats ∧ J ys W') ∨ (∃ pre, pre <+: p.ats ∧ Jx pre W')) := by
  refine callsIn_of_wp Tryz.func101 rfl trivial ?_ rfl
  simp only [Tryz.ntmps101, List.size_toArray, List.length_cons, List.length_nil, Nat.reduceAdd, Nat.reduceSub, Array.replicate_succ, Array.replicate_zero, List.push_toArray, List.append_toArray, List.nil_append, List.cons_append]
  have HP := Lib.hid hp
  have HY := Lib.hid hY
  have HJ := Lib.hid hJ
  have HN := Lib.hid hn₀
  have HF := Lib.hid (fun k => hfew.f k)
  have hlen := hfew.1
  have HATS : Hid (∃ ats, p.ats = ats ∧ ats = atsF 0 p.funs) := Lib.hid ⟨_, rfl, rfl⟩
  clear hp hY hJ hfew hn₀
  obtain ⟨ats, hats, hats2⟩ := HATS.out
  rw [hats] at HY ⊢
  clear HATS hats
  obtain ⟨pa, pc, fs⟩ := p
  dsimp only at *
  obtain ⟨L, hL⟩ : ∃ L, fs.length = L := ⟨_, rfl⟩
  rw [hL] at hBs hlen
  have HL := Lib.hid hL
  have HA2 := Lib.hid hats2
  clear hL hats2
  gi_wp2
  gi_loopw [12] (fun i wr => ∃ q : Nat, q ≤ L ∧ i = .int .i64 q ∧ ∃ pre, Hid (ats = pre ++ atsF q (fs.drop q)) ∧ Hid (J pre wr) ∧ Hid (Below n₀ W wr)) (fun i _ => L - (intOf i).toNat)
  case atStart => exact ⟨0, Nat.zero_le _, rfl, [], Lib.hid HA2.out, h0, Below.refl _ _⟩
  case round =>
    obtain ⟨q, hq, rfl, pre, hpre, hJs, hnx⟩ := hrel
    by_cases hlt : q < L
    · obtain ⟨-, -, -, -, -, -, -, hfd⟩ := HP.out q (by rw [HL.out]; exact hlt)
      obtain ⟨b, o, rfl, hb, c0, c1, c2, -⟩ := (HP.out.below hnx.out) q (by rw [HL.out]; exact hlt)
      dsimp only at c0 c1 c2 hfd
      have hfew := HF.out q
      have hp1 := hpre.out
      rw [atsF_drop (by rw [HL.out]; exact hlt)] at hp1
      obtain ⟨fd, hfdq⟩ : ∃ fd, fdAt fs q = fd := ⟨_, rfl⟩
      rw [hfdq] at c0 c1 c2 hfd hfew hp1
      clear hfdq hpre hb
      obtain ⟨ar, vr, ba, bc, bl⟩ := fd
      dsimp only at c0 c1 c2 hfd hfew hp1
      obtain ⟨M, hM⟩ : ∃ M, bl.length = M := ⟨_, rfl⟩
      have hM20 : M ≤ 20 := by rw [← hM]; exact hfew.1
      rw [hM] at c2
      have HM := Lib.hid hM
      have HFB := Lib.hid (fun k => hfew.b k)
      dsimp only at HFB
      obtain ⟨rest, hrest⟩ : ∃ rest, atsF (q + 1) (fs.drop (q + 1)) = rest := ⟨_, rfl⟩
      rw [hrest] at hp1
      have HREST := Lib.hid hrest
      have HP1 := Lib.hid hp1
      have HFD := Lib.hid (show BlksIs n₀ W ba bl from hfd)
      clear hM hfew hrest hp1 hfd
      have hqi : (q : Int) < (L : Int) := by omega
      have HNW := Lib.hid hnx.out.size
      obtain ⟨wo, rfl⟩ : ∃ wo : World, wo = wr := ⟨_, rfl⟩
      gi_wp2
      gi_loopw [20] (fun i wi => ∃ r : Nat, r ≤ M ∧ i = .int .i64 r ∧ ∃ pre, Hid (ats = pre ++ (atsB q r (bl.drop r) ++ rest)) ∧ Hid (J pre wi) ∧ Hid (Below n₀ W wi)) (fun i _ => M - (intOf i).toNat)
      case atStart => exact ⟨0, Nat.zero_le _, rfl, pre, HP1, HJ.out _ _ _ hJs.out, hnx.out.alloc (Nat.le_trans HN.out HNW.out) _⟩
      case round =>
        clear c0 c1 c2
        obtain ⟨r, hr, rfl, pre2, hpre2, hJ2, hnx2⟩ := hrel
        by_cases hrt : r < M
        · obtain ⟨-, -, -, -, -, -, -, hbk⟩ := HFD.out r (by rw [HM.out]; exact hrt)
          obtain ⟨b2, o2, rfl, hb2, d0, d1, d2, -⟩ := (BlksIs.below HFD.out hnx2.out) r (by rw [HM.out]; exact hrt)
          have hfewb := HFB.out r
          have hp2 := hpre2.out
          rw [atsB_drop q (by rw [HM.out]; exact hrt)] at hp2
          obtain ⟨bk, hbkr⟩ : ∃ bk, blkAt bl r = bk := ⟨_, rfl⟩
          rw [hbkr] at d0 d1 d2 hbk hfewb hp2
          clear hbkr hpre2 hb2
          obtain ⟨lv, ca, cc, code, sa, sc, succ⟩ := bk
          dsimp only at d0 d1 d2 hbk hfewb hp2
          obtain ⟨C, hC⟩ : ∃ C, code.length = C := ⟨_, rfl⟩
          have hC30 : C ≤ 30 := by rw [← hC]; exact hfewb.1
          rw [hC] at d1
          have HC := Lib.hid hC
          obtain ⟨rest2, hrest2⟩ : ∃ rest2, atsB q (r + 1) (bl.drop (r + 1)) ++ rest = rest2 := ⟨_, rfl⟩
          rw [List.append_assoc, hrest2] at hp2
          have HREST2 := Lib.hid hrest2
          have HP2 := Lib.hid hp2
          have HCD := Lib.hid (show CodeIs n₀ W ca code from hbk.1)
          clear hC hfewb hrest2 hp2 hbk
          have hri : (r : Int) < (M : Int) := by omega
          have HNW2 := Lib.hid hnx2.out.size
          obtain ⟨wm, rfl⟩ : ∃ wm : World, wm = wr := ⟨_, rfl⟩
          gi_wp2
          gi_loopw [28] (fun i wi => ∃ k : Nat, k ≤ C ∧ i = .int .i64 k ∧ ∃ pre, Hid (ats = pre ++ (atsC q r k (code.drop k) ++ rest2)) ∧ Hid (J pre wi) ∧ Hid (Below n₀ W wi)) (fun i _ => C - (intOf i).toNat)
          case atStart => exact ⟨0, Nat.zero_le _, rfl, pre2, HP2, HJ.out _ _ _ hJ2.out, hnx2.out.alloc (Nat.le_trans HN.out HNW2.out) _⟩
          case round =>
            clear d0 d1 d2
            obtain ⟨k, hk, rfl, pre3, hpre3, hJ3, hnx3⟩ := hrel
            by_cases hkt : k < C
            · obtain ⟨b3, o3, rfl, hb3, c0, c1, c2, c3, c4, c5, c6, c7, c8, c9, c10⟩ := (HCD.out.below hnx3.out).at k (by rw [HC.out]; exact hkt)
              have hp3 := hpre3.out
              rw [atsC_drop q r (by rw [HC.out]; exact hkt)] at hp3
              obtain ⟨i, hi⟩ : ∃ i, insAt code k = i := ⟨_, rfl⟩
              rw [hi] at c0 c1 c2 c3 c4 c5 c6 c7 c8 c9 c10 hp3
              rw [List.cons_append] at hp3
              have HP3 := Lib.hid hp3
              clear hi hpre3 hb3 hp3
              have hki : (k : Int) < (C : Int) := by omega
              have HNW3 := Lib.hid (Nat.le_trans HN.out hnx3.out.size)
              obtain ⟨fn, tmps, assign, body, hy, hR⟩ := HY.out pre3 ⟨q, r, k, i⟩ (wr.alloc (.cells i.cells.toArray 40)) (HJ.out _ _ _ hJ3.out) ⟨_, (pre_next HP3.out).symm⟩
              unfold At.enc Ins.val at hy
              unfold Ins.cells at hy hR
              obtain ⟨id, kind, dst, a, bb, c, ff, nn, x0, x1, x2⟩ := i
              dsimp only at c0 c1 c2 c3 c4 c5 c6 c7 c8 c9 c10 hy hR
              gi_wp2
              refine hR.mono ?_
              clear hy hR c0 c1 c2 c3 c4 c5 c6 c7 c8 c9 c10
              rintro e W3 (⟨rfl, hJ4, hk4⟩ | ⟨rfl, hJx4⟩)
              · have HB4 := Lib.hid (hnx3.out.trans (((Below.refl _ _).alloc HNW3.out _).trans hk4))
                have HJ4 := Lib.hid hJ4
                clear hJ4 hk4
                gi_wp2
                go_roundw
                case rel => exact ⟨k + 1, by omega, by go_num, _, Lib.hid (pre_next HP3.out), HJ4, HB4⟩
                case measure => simp [intOf]; omega
              · have HJ4 := Lib.hid hJx4
                clear hJx4
                gi_wp2
                refine bodyPost_ret (results_none rfl _ _ _) rfl ?_
                exact ⟨⟨_, rfl⟩, .inr ⟨_, ⟨_, (pre_next HP3.out).symm⟩, HJ4.out⟩⟩
            · obtain rfl : k = C := by omega
              have hp := hpre3.out
              rw [List.drop_of_length_le (by rw [HC.out]; exact Nat.le_refl _)] at hp
              have HPP := Lib.hid hp
              clear hp hpre3
              gi_wp2
              go_roundw
              case rel => exact ⟨r + 1, by omega, by go_num, pre3, Lib.hid (by rw [HREST2.out]; simpa [atsC] using HPP.out), hJ3, hnx3⟩
              case measure => simp [intOf]; omega
        · obtain rfl : r = M := by omega
          have hp := hpre2.out
          rw [List.drop_of_length_le (by rw [HM.out]; exact Nat.le_refl _)] at hp
          have HPP := Lib.hid hp
          clear hp hpre2
          gi_wp2
          go_roundw
          case rel => exact ⟨q + 1, by omega, by go_num, pre2, Lib.hid (by rw [HREST.out]; simpa [atsB] using HPP.out), hJ2, hnx2⟩
          case measure => simp [intOf]; omega
    · obtain rfl : q = L := by omega
      have hp := hpre.out
      rw [List.drop_of_length_le (by rw [HL.out]; exact Nat.le_refl _)] at hp
      have HP := Lib.hid hp
      clear hp hpre
      gi_wp2
      go_end0
      exact ⟨⟨_, rfl⟩, .inl ⟨_, by have := HP.out; simpa [atsF] using this.symm, hJs.out⟩⟩
end Go.Proofs.YtpegkllhomjocaaGreatDoor
