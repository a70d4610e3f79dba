import Derived.RangeFuncNested
import Derived.RangeFuncBound
import Derived.RangeFuncCalls
import Derived.RangeFuncLeaves
import Derived.RangeFuncBox
import Derived.Shelf.Abstract
import Derived.Shelf.RegionOpen
import Derived.WalkKit
import Derived.OwnWalkIn
import Derived.TacticsInMore
import Derived.LoopNIn
import Derived.LoopIn
import Derived.Test.YtjlofjoekpoepaaDoorD
import Derived.Test.YtjlofjoekpoepaaDoorE
namespace Go.Proofs.YtjlofjoekpoepaaDoor
open Go Go.RowKit Go.Sort Go.Shelf

attribute [local go_sem] Oper.semAt_some

/-- What has been told, and what is left: the word y of the word number k, and the words behind it. -/
def Left (ws : List Nat) (k y : Nat) (pre : List Nat) : Prop := nums ws = pre ++ ((wnums y).map (fun i => k * 64 + i) ++ numsFrom (k + 1) (ws.drop (k + 1)))

theorem Left.next {ws : List Nat} {k y : Nat} {pre : List Nat} (h : Left ws k y pre) (h0 : y ≠ 0) (hy : y < M64) : Left ws k (y &&& (y - 1)) (pre ++ [k * 64 + Lib.ctz 64 y]) := by
  unfold Left at *
  rw [h, wnums_step h0 hy]
  simp

theorem Left.lt {ws : List Nat} {k y : Nat} {pre : List Nat} (h : Left ws k y pre) (h0 : y ≠ 0) (hy : y < M64) : pre.length < (nums ws).length := by
  unfold Left at h
  rw [h, wnums_step h0 hy]
  simp

set_option maxRecDepth 100000 in
set_option maxHeartbeats 2000000 in
theorem numbers1_in (n : Nat) (hn : 1 ≤ n) (l Bs n₀ b off cap : Nat) (N : Int) (ws : List Nat) (hl : ws.length ≤ 16) (hWB : WB ws) (hb : b < n₀) (hn0 : 0 < n₀) (J Jx : List Nat → World → Prop)
    (hY : ∀ pre x W, J pre W → pre.length < (nums ws).length → YieldAt Fence.wide (n - 1) Tryd.prog l #[.int .i64 ((x : Nat) : Int)] W fun e W' =>
      (e = .returned (.bool true) ∧ J (pre ++ [x]) W' ∧ Below n₀ W W') ∨ (e = .returned (.bool false) ∧ Jx (pre ++ [x]) W'))
    (W : World) (_hBs : W.cell? ⟨Bs, 0, none⟩ = some (.int .i64 N)) (hBs1 : W.cell? ⟨Bs, 1, none⟩ = some (.slice (some ⟨b, off, none⟩) ws.length cap)) (hT : Tab W)
    (hc : ∀ j, j < ws.length → W.cell? ⟨b, off + j, none⟩ = some (.int .u64 ((ws[j]?.getD 0 : Nat) : Int))) (h0 : J [] W) :
    CallsIn Fence.wide n Tryd.prog 59 #[.func (.yield l) #[] #[], .pointer (some ⟨Bs, 0, none⟩)] W fun e W' => (∃ v, e = .returned v) ∧
      ((∃ ys, ys = nums ws ∧ J ys W') ∨ (∃ pre, pre <+: nums ws ∧ Jx pre W')) := by
  refine callsIn_of_wp Tryd.func59 rfl trivial ?_ rfl
  simp only [Tryd.ntmps59, List.size_toArray, List.length_cons, List.length_nil, Nat.reduceAdd, Nat.reduceSub, Array.replicate_succ, Array.replicate_zero, List.push_toArray, List.append_toArray, List.nil_append, List.cons_append]
  obtain ⟨L, hL⟩ : ∃ L, ws.length = L := ⟨_, rfl⟩
  rw [hL] at hBs1 hl hc
  have HL := Lib.hid hL
  have HC := Lib.hid hc
  have HY := Lib.hid hY
  have HT := Lib.hid hT
  clear hL hc hY hT
  gi_wp2
  gi_loopw [8] (fun i wr => ∃ k : Nat, k ≤ L ∧ i = .int .i64 k ∧ ∃ pre, Hid (nums ws = pre ++ numsFrom k (ws.drop k)) ∧ J pre wr ∧ Below n₀ W wr)
    (fun i _ => L - (intOf i).toNat)
  case atStart => exact ⟨0, Nat.zero_le _, rfl, [], Lib.hid rfl, h0, Below.refl _ _⟩
  case round =>
    obtain ⟨k, hk, rfl, pre, hpre, hJs, hnx⟩ := hrel
    by_cases hlt : k < L
    · obtain ⟨x, hx⟩ : ∃ x, ws[k]?.getD 0 = x := ⟨_, rfl⟩
      have hcx : wr.cell? ⟨b, off + k, none⟩ = some (.int .u64 (x : Int)) := by rw [← hx]; exact (hnx.cell (p := ⟨b, off + k, none⟩) hb).trans (HC.out k hlt)
      have HX := Lib.hid hx
      have hxm : x < M64 := by rw [← hx]; exact hWB.at k
      have HLe : Hid (Left ws k x pre) := by
        have h1 := hpre.out
        rw [numsFrom_drop (by rw [HL.out]; exact hlt), hx] at h1
        exact h1
      clear hx hpre
      obtain ⟨wo, rfl⟩ : ∃ wo : World, wo = wr := ⟨_, rfl⟩
      gi_wp2
      gi_loopw [4] (fun v wi => ∃ (y : Nat) (pre : List Nat), v = .int .u64 (y : Int) ∧ y < M64 ∧ Hid (Left ws k y pre) ∧ J pre wi ∧ Below n₀ W wi) (fun v _ => (intOf v).toNat)
      case atStart => exact ⟨x, pre, rfl, hxm, HLe, hJs, hnx⟩
      case round =>
        clear hJs HLe hcx hxm HX
        obtain ⟨y, pre2, rfl, hym, hle, hJ2, hn2⟩ := hrel
        by_cases hy0 : y = 0
        · subst hy0
          gi_wp2
          go_roundw
          case rel =>
            refine ⟨k + 1, by omega, by simp, pre2, ?_, hJ2, hn2⟩
            have := hle.out
            unfold Left at this
            rw [wnums_zero] at this
            exact this
          case measure => simp [intOf]; omega
        · have hb0 : ((y : Int) != 0) = true := by simpa using hy0
          obtain ⟨z, hz⟩ : ∃ z, y &&& (y - 1) = z := ⟨_, rfl⟩
          have hym' : y < 18446744073709551616 := hym
          have hzb : bits .and .u64 (y : Int) ((y : Int) - 1) = (z : Int) := by
            rw [← hz, ← u64_and_nat y (y - 1) hym' (by omega)]
            congr 1
            omega
          have hsub : IntKind.u64.wrap ((y : Int) - 1) = (y : Int) - 1 := by rw [IntKind.wrap_u64]; omega
          have hzlt : z < y := by rw [← hz]; exact and_pred_lt hy0
          obtain ⟨c, hc⟩ : ∃ c, Lib.ctz 64 y = c := ⟨_, rfl⟩
          have hc64 : c < 64 := by rw [← hc]; exact ctz_lt hy0 hym
          have hTi : Tab wr := ⟨Nat.lt_of_lt_of_le HT.out.1 hn2.size, fun j hj => (hn2.cell (p := ⟨0, j, none⟩) hn0).trans (HT.out.2 j hj)⟩
          have hnext := hle.out.next hy0 hym
          rw [hz, hc] at hnext
          have HTZ := Lib.hid (tz_any y wr hy0 hym hTi)
          rw [hc] at HTZ
          have HNX := Lib.hid hnext
          have HZ := Lib.hid hz
          have HCC := Lib.hid hc
          obtain ⟨fn, tmps, assign, body, hy, hR⟩ := HY.out pre2 (k * 64 + c) wr hJ2 (hle.out.lt hy0 hym)
          have hNe := Lib.hid hy0
          have ecast : (((k * 64 + c : Nat)) : Int) = (k : Int) * 64 + (c : Int) := by simp
          rw [ecast] at hy
          clear hz hc hnext hTi hle ecast hy0
          gi_wp2_with (refine ⟨trivial, ?_⟩; gi_at_call 60; refine (callsIn_wide.2 HTZ.out).mono ?_; clear HTZ; rintro e w1 ⟨rfl, rfl⟩)
          refine hR.mono ?_
          clear hy hR
          rintro e W3 (⟨rfl, hJ3, hk3⟩ | ⟨rfl, hJx3⟩)
          · gi_wp2
            go_roundw
            case rel => exact ⟨z, _, rfl, Nat.lt_trans hzlt hym, HNX, hJ3, hn2.trans hk3⟩
            case measure => simp [intOf]; omega
          · gi_wp2
            refine bodyPost_ret (results_none rfl _ _ _) rfl ?_
            exact ⟨⟨_, rfl⟩, .inr ⟨_, ⟨_, (HNX.out).symm⟩, hJx3⟩⟩
    · obtain rfl : k = L := by omega
      have hp := hpre.out
      rw [List.drop_of_length_le (by rw [HL.out]; exact Nat.le_refl _)] at hp
      have HP := Lib.hid hp
      clear hp hpre
      gi_wp2
      go_end0
      exact ⟨⟨_, rfl⟩, .inl ⟨_, by have := HP.out; simpa [numsFrom] using this.symm, hJs⟩⟩

set_option maxRecDepth 100000 in
set_option maxHeartbeats 1000000 in
theorem numbers1_nil_in (n : Nat) (l Bs cap : Nat) (a : Option Addr) (N : Int) (J : List Nat → World → Prop)
    (W : World) (_hBs : W.cell? ⟨Bs, 0, none⟩ = some (.int .i64 N)) (hBs1 : W.cell? ⟨Bs, 1, none⟩ = some (.slice a 0 cap)) (h0 : J [] W) :
    CallsIn Fence.wide n Tryd.prog 59 #[.func (.yield l) #[] #[], .pointer (some ⟨Bs, 0, none⟩)] W fun e W' => (∃ v, e = .returned v) ∧ J [] W' := by
  refine callsIn_of_wp Tryd.func59 rfl trivial ?_ rfl
  simp only [Tryd.ntmps59, List.size_toArray, List.length_cons, List.length_nil, Nat.reduceAdd, Nat.reduceSub, Array.replicate_succ, Array.replicate_zero, List.push_toArray, List.append_toArray, List.nil_append, List.cons_append]
  gi_wp2
  gi_loopw [8] (fun i wr => i = .int .i64 0 ∧ J [] wr) (fun _ _ => 0)
  case atStart => exact ⟨rfl, h0⟩
  case round =>
    obtain ⟨rfl, hJs⟩ := hrel
    gi_wp2
    go_end0
    exact ⟨⟨_, rfl⟩, hJs⟩

set_option maxHeartbeats 1000000 in
/-- The function value that 'numbers' hands back. -/
theorem numbers_any (N : Int) (a : Option Addr) (len cap : Nat) (w : World) :
    Calls Tryd.prog 50 #[.agg #[.int .i64 N, .slice a len cap]] w fun e w' => e = .returned (.func (.func 59) #[] #[.pointer (some ⟨w.heap.size, 0, none⟩)]) ∧ w' = w.alloc (.cells #[.int .i64 N, .slice a len cap] 28) := by
  go_enter Tryd.func50, Tryd.ntmps50
  go_wp2
  go_ret
  exact ⟨rfl, rfl⟩

/-- A set's numbers come, all of them, rising; or the first of them. -/
theorem numbers_stops (n : Nat) (hn : 1 ≤ n) (Bs n₀ : Nat) (N : Int) (a : Option Addr) (ws : List Nat) (cap : Nat) (w : World) (hBl : Bs < w.heap.size) (hn₀ : n₀ ≤ w.heap.size) (hn0 : 0 < n₀) (hl : ws.length ≤ 16) (hWB : WB ws)
    (hBs : w.cell? ⟨Bs, 0, none⟩ = some (.int .i64 N)) (hBs1 : w.cell? ⟨Bs, 1, none⟩ = some (.slice a ws.length cap)) (hT : Tab w) (hWd : Wd n₀ w a ws) :
    SeqStopsK Fence.wide n Tryd.prog 59 #[.pointer (some ⟨Bs, 0, none⟩)] (fun x : Nat => #[Value.int .i64 (x : Int)]) (Below n₀) (fun ys => ys = nums ws) (fun pre => pre <+: nums ws) (nums ws).length w := fun l J Jx W hW _ _ hY h0 => by
  have c0 := (hW.cell (p := ⟨Bs, 0, none⟩) hBl).trans hBs
  have c1 := (hW.cell (p := ⟨Bs, 1, none⟩) hBl).trans hBs1
  by_cases hz : ws.length = 0
  · obtain rfl : ws = [] := List.eq_nil_of_length_eq_zero hz
    exact (numbers1_nil_in n l Bs cap a N J W c0 c1 h0).mono fun e W' ⟨he, hj⟩ => ⟨he, .inl ⟨_, rfl, hj⟩⟩
  · obtain ⟨b, o, rfl, hb, _⟩ := hWd 0 (by omega)
    refine numbers1_in n hn l Bs n₀ b o cap N ws hl hWB hb hn0 J Jx hY W c0 c1 (hT.below hW) (fun j hj => ?_) h0
    obtain ⟨b', o', e, hb', hc'⟩ := hWd j hj
    cases e
    exact (hW.cell (p := ⟨b, o + j, none⟩) (Nat.lt_of_lt_of_le hb hn₀)).trans hc'
end Go.Proofs.YtjlofjoekpoepaaDoor
