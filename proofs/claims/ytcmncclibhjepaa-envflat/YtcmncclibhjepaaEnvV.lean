import Derived.Test.YtcmncclibhjepaaEnvS
namespace Go.Proofs.Ytcmncclibhjepaa
open Go Go.RowKit Go.Sort

theorem joinF_offL (l1 : List V) (on2 : Bool) (l2 : List V) : joinF false l1 on2 l2 = ownLF on2 l2 := by
  cases on2 with
  | false => exact joinG_both_off _ _
  | true => exact tabG_congr (by simp [szG]) fun k => by rw [atG_off]; exact join_bot_left _
theorem joinF_offR (l1 l2 : List V) : joinF true l1 false l2 = ownLF true l1 :=
  tabG_congr (by simp [szG]) fun k => by rw [atG_off (l := l2)]; exact join_bot_right _
theorem joinS_offL (l1 : List Int) (on2 : Bool) (l2 : List Int) : joinS false l1 on2 l2 = ownLS on2 l2 := by
  cases on2 with
  | false => exact joinG_both_off _ _
  | true => exact tabG_congr (by simp [szG]) fun k => by dsimp only; rw [atG_off, sS_zero, Nat.zero_or]
theorem joinS_offR (l1 l2 : List Int) : joinS true l1 false l2 = ownLS true l1 :=
  tabG_congr (by simp [szG]) fun k => by dsimp only; rw [atG_off (l := l2), sS_zero, Nat.or_zero]
theorem setF_own (on : Bool) (l : List V) (i : Int) (v : V) : setF on l i v = putG (ownLF on l) i v.sn := by
  cases on with
  | true => rfl
  | false => simp [setF, ownLF, putG]
theorem setS_own (on : Bool) (l : List Int) (i v : Int) : setS on l i v = putG (ownLS on l) i ((sS v : Nat) : Int) := by
  cases on with
  | true => rfl
  | false => simp [setS, ownLS, putG]
theorem OwnF.below {t : TypeId} {n0 : Nat} {W W' : World} {a : Option Addr} {l : List V} (h : OwnF t n0 W a l) (hb : Below W.heap.size W W') : OwnF t n0 W' a l := h.block (Nat.le_refl _) fun g _ hl => hb.block g hl
theorem OwnS.below {t : TypeId} {n0 : Nat} {W W' : World} {a : Option Addr} {l : List Int} (h : OwnS t n0 W a l) (hb : Below W.heap.size W W') : OwnS t n0 W' a l := h.block (Nat.le_refl _) fun g _ hl => hb.block g hl

end Go.Proofs.Ytcmncclibhjepaa