import Derived.Laws.AppendOwn
import Derived.Test.YtcbfmplddjmiaaaBase
namespace Go.Proofs.Ytcbfmplddjmiaaa
open Go Go.RowKit Go.Sort

theorem info3 : (Try.prog.info? 3).map (fun i => (i.zero, i.size, i.bytes)) = some (some (.int .i64 0), 1, 8) := by kernel_rfl

/-- A slice's numbers, read in a world, in blocks below B. -/
def Is (B : Nat) (W : World) (a : Option Addr) (l : List Int) : Prop :=
  ∀ j, j < l.length → ∃ b o, a = some ⟨b, o, none⟩ ∧ b < B ∧ W.cell? ⟨b, o + j, none⟩ = some (.int .i64 (l[j]?.getD 0))

theorem Is.below {B : Nat} {W W' : World} {a : Option Addr} {l : List Int} (h : Is B W a l) (hb : Below B W W') : Is B W' a l :=
  fun j hj => let ⟨b, o, e, hlt, hc⟩ := h j hj; ⟨b, o, e, hlt, (hb.cell (p := ⟨b, o + j, none⟩) hlt).trans hc⟩
theorem Is.mono {B B' : Nat} {W : World} {a : Option Addr} {l : List Int} (h : Is B W a l) (hb : B ≤ B') : Is B' W a l :=
  fun j hj => let ⟨b, o, e, hlt, hc⟩ := h j hj; ⟨b, o, e, Nat.lt_of_lt_of_le hlt hb, hc⟩

theorem owns_base {W : World} {b b' : Nat} {e : TypeId} {size n : Nat} {v : Value} {xs : List Value} (h : W.ownsRow b e size v n xs) (hb : b' ≤ b) : W.ownsRow b' e size v n xs :=
  ⟨h.1, h.2.imp id fun ⟨g, cap, cur, a, hg, r⟩ => ⟨g, cap, cur, a, Nat.le_trans hb hg, r⟩⟩

theorem owns_grown {w0 W W' : World} {b : Nat} {e : TypeId} {size n : Nat} {v : Value} {xs : List Value} (hB : Below b w0 W) (h : W.ownsRow b e size v n xs) (hg : W.grownBy W' v.ownBlock) (hb : b ≤ W.heap.size) : Below b w0 W' :=
  hB.grown hg hb (fun k e => (h.lt k e).1)

/-- Numbers of the call's own, as a slice that is read. -/
theorem is_of_ints {n0 : Nat} {W : World} {u : Value} {l : List Int} {T : Nat} (h : W.ownsRow n0 3 1 u T (l.map (Value.int .i64))) : ∃ a cap, u = .slice a T cap ∧ l.length = T ∧ Is W.heap.size W a l := by
  obtain ⟨hlen, ⟨rfl, h0⟩ | ⟨g, cap, cur, rfl, hb, hc, hle, _, hsz, htk⟩⟩ := h
  · subst h0
    have : l = [] := List.eq_nil_of_length_eq_zero (by simpa using hlen)
    subst this
    exact ⟨none, 0, rfl, rfl, fun j hj => absurd hj (Nat.not_lt_zero _)⟩
  · have hl : l.length = T := by simpa using hlen
    refine ⟨_, cap, rfl, hl, fun j hj => ?_⟩
    refine ⟨g, 0, rfl, (Array.getElem?_eq_some_iff.1 hc).1, ?_⟩
    have e : (cur.toList.take (T * 1))[j]? = (l.map (Value.int .i64))[j]? := by rw [htk]
    rw [Nat.mul_one, List.getElem?_take_of_lt (by omega)] at e
    have e2 : cur[j]? = some (.int .i64 (l[j]?.getD 0)) := by
      rw [← Array.getElem?_toList, e]
      simp [hj]
    rw [Nat.zero_add]
    simp only [World.cell?, hc]
    simpa using e2

set_option maxHeartbeats 2000000 in
/-- Ints, of the document's answer. -/
theorem Ints_ref (a1 a2 : Option Addr) (w1 w2 : List Int) (c1 c2 : Nat) (w : World) (h1 : Is w.heap.size w a1 w1) (h2 : Is w.heap.size w a2 w2) (hl1 : w1.length ≤ 2000) :
    Calls Try.prog 19 #[.slice a1 w1.length c1, .slice a2 w2.length c2] w fun e w' => e = .returned (.bool (decide (w1 = w2))) ∧ Below w.heap.size w w' := by
  by_cases hl : w1.length = w2.length
  · have H1 := Lib.hid h1
    have H2 := Lib.hid h2
    obtain ⟨L, hL⟩ : ∃ L, w1.length = L := ⟨_, rfl⟩
    have hL2 : w2.length = L := by omega
    rw [hL] at hl1
    rw [hL, hL2]
    have HL := Lib.hid hL
    have HL2 := Lib.hid hL2
    have hb0 : ((L : Int) != (L : Int)) = false := by simp
    clear h1 h2 hl hL hL2
    go_enter Try.func19, Try.ntmps19
    go_wp2
    go_loopw [5] (fun i wr => ∃ k : Nat, k ≤ L ∧ i = .int .i64 k ∧ Hid (w1.take k = w2.take k) ∧ Below w.heap.size w wr) (fun i _ => L - (intOf i).toNat)
    case atStart => exact ⟨0, Nat.zero_le _, rfl, Lib.hid rfl, Below.refl _ _⟩
    case round =>
      obtain ⟨k, hk, rfl, hpre, hnx⟩ := hrel
      by_cases hlt : k < L
      · obtain ⟨b1, o1, rfl, hb1, e1⟩ := H1.out k (by rw [HL.out]; exact hlt)
        obtain ⟨b2, o2, rfl, hb2, e2⟩ := H2.out k (by rw [HL2.out]; exact hlt)
        have g1 := (hnx.cell (p := ⟨b1, o1 + k, none⟩) hb1).trans e1
        have g2 := (hnx.cell (p := ⟨b2, o2 + k, none⟩) hb2).trans e2
        obtain ⟨x, hx⟩ : ∃ x, w1[k]?.getD 0 = x := ⟨_, rfl⟩
        obtain ⟨y, hy⟩ : ∃ y, w2[k]?.getD 0 = y := ⟨_, rfl⟩
        rw [hx] at g1
        rw [hy] at g2
        have HX := Lib.hid hx
        have HY := Lib.hid hy
        have hki : (k : Int) < (L : Int) := by omega
        clear e1 e2 hx hy
        by_cases hxy : x = y
        · subst hxy
          have hbb : (x != x) = false := by simp
          go_wp2
          go_quiet (fail)
          go_wp2
          go_roundw
          case rel =>
            refine ⟨k + 1, by omega, by go_num, ?_, below_drewN hnx _⟩
            have i1 : k < w1.length := by rw [HL.out]; exact hlt
            have i2 : k < w2.length := by rw [HL2.out]; exact hlt
            have e1 := HX.out
            have e2 := HY.out
            simp only [i1, i2, List.getElem?_eq_getElem, Option.getD_some] at e1 e2
            show w1.take (k + 1) = w2.take (k + 1)
            rw [List.take_succ_eq_append_getElem i1, List.take_succ_eq_append_getElem i2, hpre.out, e1, e2]
          case measure => simp [intOf]; omega
        · have hbb : (x != y) = true := by rw [bne_iff_ne]; exact hxy
          have HXY := Lib.hid hxy
          clear hxy
          go_wp2
          go_quiet (fail)
          go_wp2
          go_ret
          refine ⟨ret_bool ?_, below_drewN hnx _⟩
          rw [eq_comm, decide_eq_false_iff_not]
          intro he
          apply HXY.out
          rw [← HX.out, ← HY.out, he]
      · obtain rfl : k = L := by omega
        go_wp2
        go_ret
        refine ⟨ret_bool ?_, hnx⟩
        have := hpre.out
        rw [List.take_of_length_le (by rw [HL.out]; exact Nat.le_refl _), List.take_of_length_le (by rw [HL2.out]; exact Nat.le_refl _)] at this
        simp [this]
  · have hne : ¬ w1 = w2 := fun e => hl (by rw [e])
    have hb0 : ((w1.length : Int) != (w2.length : Int)) = true := by rw [bne_iff_ne]; omega
    have hd : decide (w1 = w2) = false := by simp [hne]
    rw [hd]
    clear h1 h2 hl hne hd
    go_enter Try.func19, Try.ntmps19
    go_wp2
    go_ret
    exact ⟨rfl, Below.refl _ _⟩
end Go.Proofs.Ytcbfmplddjmiaaa
