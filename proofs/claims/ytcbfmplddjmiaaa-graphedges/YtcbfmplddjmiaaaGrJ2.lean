/- Graphs: Without. -/
import Derived.Test.YtcbfmplddjmiaaaGrJ
namespace Go.Proofs.Ytcbfmplddjmiaaa
open Go Go.RowKit Go.Sort

set_option maxRecDepth 100000 in
set_option maxHeartbeats 8000000 in
theorem Without_g (av : Option Addr) (g : List (List Int)) (cap n : Nat) (a b : Int) (w : World) (hG : GIs w.heap.size w av g) (hF : FewG g) (hn : g.length = n) (E : Nat → Nat → Bool) (hE : ∀ x y, x < n → y < n → edge g x y = E x y) :
    Calls Try.prog 24 #[.slice av n cap, .int .i64 a, .int .i64 b] w fun e w' => ∃ v, e = .returned v ∧ Below w.heap.size w w' ∧ isG n (zss (rows n (cutI E a b))) v w' := by
  have hn40 : n ≤ 40 := hn ▸ hF.1
  have HC : Hid (Calls Try.prog 12 #[.slice av n cap] w fun e w' => ∃ gb R, e = .returned (.slice (some ⟨gb, 0, none⟩) n n) ∧ GOwn w.heap.size w' gb n R (fun j => zs (rowE n (E j))) ∧ Below w.heap.size w w') :=
    Lib.hid ((Clean_any av g cap w hG hF n hn).mono fun _ _ ⟨gb, R, he, ho, hb⟩ => ⟨gb, R, he, ho.congr fun j hj => by rw [rowE_congr fun y hy => hE j y hj hy], hb⟩)
  clear hG hF hn hE
  by_cases ha : 0 ≤ a ∧ a < (n : Int)
  · obtain ⟨x, rfl⟩ : ∃ x : Nat, a = (x : Int) := ⟨a.toNat, by omega⟩
    have HA : Hid (∀ W v c, Calls Try.prog 33 #[.slice v n c, .int .i64 (x : Int)] W fun e w' => e = .returned (.bool true) ∧ W = w') := Lib.hid fun W v c => (isNode_any v n c x W).mono fun _ _ ⟨h1, h2⟩ => ⟨by rw [h1]; simp only [ha, and_self, decide_true], h2.symm⟩
    have hx : x < n := by omega
    have hxi : (x : Int) < (n : Int) := ha.2
    clear ha
    go_enter Try.func24, Try.ntmps24
    go_upto_region 4 with (first
      | (go_at_call 12; refine HC.out.mono ?_; rintro e w1 ⟨gb, R, rfl, ho, hb1⟩; have HO := Lib.hid ho; have HB1 := Lib.hid hb1; clear ho hb1)
      | (go_at_call 33; refine (HA.out _ _ _).mono ?_; rintro e w2 ⟨rfl, rfl⟩))
    obtain ⟨ra, rc, hR, hrl, hll, hI, hrb⟩ := is_own (HO.out.row x hx)
    have hcx := HO.out.top.cell hx
    rw [hR] at hcx
    have hrow := HO.out.row x hx
    rw [hR] at hrow
    have HI := Lib.hid hI
    have HR := Lib.hid hR
    have HRO := Lib.hid (fun (h : b ∉ zs (rowE n (E x))) => row_cut_no h)
    have HRT : Hid (∀ (h : b ∈ zs (rowE n (E x))), (zs (rowE n (E x))).take ((zs (rowE n (E x))).countP (· < b)) ++ (zs (rowE n (E x))).drop ((zs (rowE n (E x))).countP (· < b) + 1) = zs (rowE n (cutI E (x : Int) b x))) := Lib.hid fun h => by
      obtain ⟨y, _, rfl⟩ := List.mem_map.1 (show b ∈ (rowE n (E x)).map _ from h)
      exact row_cut h
    have HRS := Lib.hid (zs_rising (rowE_rising n (E x)))
    have HSP := Lib.hid (fun (h : b ∈ zs (rowE n (E x))) => (cut_split b _ (zs_rising (rowE_rising n (E x))) h).1)
    have HLE : Hid ((zs (rowE n (E x))).length ≤ 40) := by have := rowE_le n (E x); show _ ≤ _; rw [zs_length]; omega
    obtain ⟨l, hl⟩ : ∃ l, zs (rowE n (E x)) = l := ⟨_, rfl⟩
    rw [hl] at HI HRO HRT HRS HLE hrow hcx HR HSP
    have HSE := Lib.hid (SearchO ra l rc b w1 HI.out (by have := HLE.out; omega) HRS.out)
    obtain ⟨L, hL⟩ : ∃ L, l.length = L := ⟨_, rfl⟩
    rw [hL] at HLE hrow hcx HR HSE HSP
    have HL := Lib.hid hL
    obtain ⟨i, hi⟩ : ∃ i, l.countP (· < b) = i := ⟨_, rfl⟩
    have hiL : i ≤ L := by rw [← hi, ← hL]; exact List.countP_le_length
    rw [hi] at HRT HSE HSP
    have HROW := Lib.hid hrow
    clear hR hrl hll hI hrb hl hL hi hrow
    have hLE40 := HLE.out
    by_cases hth : b ∈ l
    · have hd : decide (b ∈ l) = true := by simpa using hth
      rw [hd] at HSE
      have hrt := HRT.out hth
      have hil := HSP.out hth
      have HRT2 := Lib.hid hrt
      clear hth hd hrt
      go_upto_region 6 with (go_at_call 37; refine HSE.out.mono ?_; rintro e w4 ⟨rfl, hb4⟩; have HB4 := Lib.hid hb4; clear hb4)
      have HO4 := Lib.hid (HO.out.below HB4.out)
      have hcx4 := HO4.out.top.cell hx
      rw [HR.out] at hcx4
      have HRW4 := Lib.hid (owns_kept HROW.out HB4.out)
      have hbs : w.heap.size ≤ w4.heap.size := Nat.le_trans HB1.out.size HB4.out.size
      obtain ⟨-, ⟨e0, h0⟩ | ⟨g1, cap1, cur1, e0, -⟩⟩ := id HRW4.out
      · omega
      simp only [Value.slice.injEq] at e0
      obtain ⟨rfl, _, rfl⟩ := e0
      have HDEL : Hid (Calls Try.prog 39 #[.slice (some ⟨g1, 0, none⟩) L rc, .int .i64 (i : Int), .int .i64 ((i : Int) + 1)] w4 fun e w' =>
        e = .returned (.slice (some ⟨g1, 0, none⟩) (L - 1) rc) ∧ w'.ownsRow w.heap.size 3 1 (.slice (some ⟨g1, 0, none⟩) (L - 1) rc) (L - 1) ((l.take i ++ l.drop (i + 1)).map (Value.int .i64)) ∧ w4.grownBy w' (some g1)) := Lib.hid (DeleteO HRW4.out hil)
      clear hcx
      go_wp2_with (go_at_call 39; refine HDEL.out.mono ?_; rintro e w5 ⟨rfl, ho5, hg5⟩; have hg6 : w4.grownBy w5 (R x).ownBlock := (by rw [HR.out]; exact hg5); have htop := HO4.out.top.of_block (hg6.block gb HO4.out.top.lt (fun e => HO4.out.apart x hx e.symm)); have hcy6 := htop.cell hx; have hfy6 := htop.frozen x; have HO5 := Lib.hid ho5; have HG5 := Lib.hid hg6; clear ho5 hg5 hg6 hcx4 htop)
      go_ret
      have hlen : (l.take i ++ l.drop (i + 1)).length = L - 1 := by
        have := HL.out
        simp
        omega
      have hnear : (Value.slice (some ⟨g1, 0, none⟩) (L - 1) rc).ownBlock = (R x).ownBlock ∨ ∃ k, (Value.slice (some ⟨g1, 0, none⟩) (L - 1) rc).ownBlock = some k ∧ w4.heap.size ≤ k := by rw [HR.out]; exact .inl rfl
      have hput := HO4.out.appendAt hx (v := .slice (some ⟨g1, 0, none⟩) (L - 1) rc) (l := l.take i ++ l.drop (i + 1)) HG5.out (by rw [hlen]; exact HO5.out) hnear
      refine ⟨_, rfl, ?_, isG_put hput fun j hj => ?_⟩
      · refine Below.setCell (p := ⟨gb, x, none⟩) ?_ HO.out.base _
        refine (HB1.out.trans (HB4.out.mono HB1.out.size)).grown HG5.out hbs (fun k hk => ?_)
        exact (HO4.out.row x hx).lt k hk |>.1
      · by_cases e : j = x
        · subst e; simp only [if_true]; exact HRT2.out
        · simp only [e, if_false]
          rw [(row_other (b := b) (by omega : ¬ (j : Int) = (x : Int))).2]
    · have hd : decide (b ∈ l) = false := by simpa using hth
      rw [hd] at HSE
      have hro := HRO.out hth
      have HRO2 := Lib.hid hro
      clear hth hd hro
      go_wp2_with (go_at_call 37; refine HSE.out.mono ?_; rintro e w4 ⟨rfl, hb4⟩; have HB4 := Lib.hid hb4; clear hb4)
      go_ret
      refine ⟨_, rfl, HB1.out.trans (HB4.out.mono HB1.out.size), isG_put (HO.out.below HB4.out) fun j hj => ?_⟩
      by_cases e : j = x
      · subst e; rw [HRO2.out]
      · rw [(row_other (b := b) (by omega : ¬ (j : Int) = (x : Int))).2]
  · have HA : Hid (∀ W v c, Calls Try.prog 33 #[.slice v n c, .int .i64 a] W fun e w' => e = .returned (.bool false) ∧ W = w') := Lib.hid fun W v c => (isNode_any v n c a W).mono fun _ _ ⟨h1, h2⟩ => ⟨by rw [h1]; simp only [ha, decide_false], h2.symm⟩
    have HQ : Hid (∀ j, j < n → rowE n (E j) = rowE n (cutI E a b j)) := Lib.hid fun j hj => (row_other (fun e => ha (by omega))).2.symm
    clear ha
    go_enter Try.func24, Try.ntmps24
    go_wp2_with (first
      | (go_at_call 12; refine HC.out.mono ?_; rintro e w1 ⟨gb, R, rfl, ho, hb1⟩; have HO := Lib.hid ho; have HB1 := Lib.hid hb1; clear ho hb1)
      | (go_at_call 33; refine (HA.out _ _ _).mono ?_; rintro e w2 ⟨rfl, rfl⟩))
    go_ret
    exact ⟨_, rfl, HB1.out, isG_put HO.out fun j hj => by rw [HQ.out j hj]⟩
end Go.Proofs.Ytcbfmplddjmiaaa
