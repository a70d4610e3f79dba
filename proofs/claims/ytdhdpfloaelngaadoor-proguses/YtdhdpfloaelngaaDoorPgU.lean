/- Programs: NewBlock; the first place of a number. -/
import Derived.Test.YtdhdpfloaelngaaDoorPgS
namespace Go.Proofs.YtdhdpfloaelngaaDoor
open Go Go.RowKit Go.Sort

/-- The first of n numbers of which it is so, or -1. -/
def First (n : Nat) (P : Nat → Prop) (z : Int) : Prop := (z = -1 ∧ ∀ k, k < n → ¬ P k) ∨ (∃ k, k < n ∧ z = (k : Int) ∧ P k ∧ ∀ j, j < k → ¬ P j)
theorem First.one {n : Nat} {P : Nat → Prop} {y z : Int} (hy : First n P y) (hz : First n P z) : y = z := by
  rcases hy with ⟨rfl, hy⟩ | ⟨k, hk, rfl, h1, h2⟩ <;> rcases hz with ⟨rfl, hz⟩ | ⟨j, hj, rfl, g1, g2⟩
  · rfl
  · exact absurd g1 (hy j hj)
  · exact absurd h1 (hz k hk)
  · rcases Nat.lt_trichotomy k j with h | rfl | h
    · exact absurd h1 (g2 k h)
    · rfl
    · exact absurd g1 (h2 j h)

set_option maxHeartbeats 4000000 in
theorem IndexR_any (g o n cap : Nat) (f : Nat → Int) (x : Int) (w : World) (hl : n ≤ 1000) (hc : ∀ k, k < n → w.cell? ⟨g, o + k, none⟩ = some (.int .i64 (f k))) :
    Calls Tryd.prog 27 #[.slice (some ⟨g, o, none⟩) n cap, .int .i64 x] w fun e w' => (∃ z : Int, e = .returned (.int .i64 z) ∧ First n (fun k => f k = x) z) ∧ w' = w := by
  have HC := Lib.hid hc
  clear hc
  go_enter Tryd.func27, Tryd.ntmps27
  go_wp2
  go_loop [8] (fun i => ∃ q : Nat, q ≤ n ∧ i = .int .i64 q ∧ Hid (∀ j : Nat, j < q → ¬ f j = x)) (fun i => n - (intOf i).toNat)
  case atStart => exact ⟨0, Nat.zero_le _, rfl, fun j hj => absurd hj (Nat.not_lt_zero _)⟩
  case round =>
    obtain ⟨q, hq, rfl, hne⟩ := hrel
    by_cases hlt : q < n
    · have hcell := HC.out q hlt
      obtain ⟨y, hy⟩ : ∃ y, f q = y := ⟨_, rfl⟩
      rw [hy] at hcell
      have HY := Lib.hid hy
      clear hy
      have hqi : (q : Int) < (n : Int) := by omega
      by_cases hxy : x = y
      · subst hxy
        go_wp2
        go_ret
        exact ⟨⟨_, rfl, .inr ⟨q, hlt, rfl, HY.out, hne.out⟩⟩, rfl⟩
      · have hxy' : ¬ (x = y) := hxy
        go_wp2
        refine ⟨⟨q + 1, by omega, by go_num, fun j hj => ?_⟩, by simp [intOf]; omega⟩
        rcases Nat.lt_succ_iff_lt_or_eq.1 hj with h | rfl
        · exact hne.out j h
        · rw [HY.out]; exact fun e => hxy' e.symm
    · obtain rfl : q = n := by omega
      go_wp2
      go_ret
      exact ⟨⟨_, rfl, .inl ⟨rfl, hne.out⟩⟩, rfl⟩

/-- What NewBlock tells. -/
def NewBlkIs (p : Pg) (f z : Int) : Prop := if funB p f = true then First 12 (fun k => ¬ liveAt (funR p f).blocks (k : Int)) z else z = -1

set_option maxRecDepth 100000 in
set_option maxHeartbeats 4000000 in
theorem NewBlock_any (p : Pg) (f : Int) (w : World) (hp : PgIs w.heap.size w p) (hT : KTab w) (hE : ETab w) (hfew : p.few) :
    Calls Tryd.prog 15 #[p.val, .int .i64 f] w fun e w' => (∃ z : Int, e = .returned (.int .i64 z) ∧ NewBlkIs p f z) ∧ Below w.heap.size w w' := by
  have HB1 := Lib.hid (below1 w (.cells #[.slice p.pa p.funs.length p.pc] 24))
  unfold NewBlkIs
  obtain ⟨x, hx⟩ : ∃ x, funR p f = x := ⟨_, rfl⟩
  obtain ⟨rf, hrf⟩ : ∃ rf, funB p f = rf := ⟨_, rfl⟩
  have HF := Lib.hid (Fun_any p f _ (hp.on HB1.out) (hT.on HB1.out) (hE.on HB1.out) hfew x hx rf hrf)
  have HFD := Lib.hid (funR_is hp f)
  have HFW := Lib.hid (funR_few hfew f)
  rw [hx] at HFD HFW
  rw [hx, hrf]
  clear hT hE hfew hp hx hrf
  unfold Pg.val Fd.val at *
  obtain ⟨ar, vr, ba, bc, bl⟩ := x
  dsimp only at *
  have hb20 : bl.length ≤ 20 := HFW.out.1
  obtain ⟨BL, hBL⟩ : ∃ BL, bl.length = BL := ⟨_, rfl⟩
  have HBL := Lib.hid hBL
  rw [hBL] at HF hb20
  clear hBL HFW
  cases rf with
  | false =>
    simp only [Bool.false_eq_true, if_false]
    go_enter Tryd.func15, Tryd.ntmps15
    go_wp2_with (go_at_call 10; refine HF.out.mono ?_; rintro e wa ⟨rfl, hba⟩; have HW2 := Lib.hid ((HB1.out.trans (hba.mono HB1.out.size)).alloc (Nat.le_trans HB1.out.size hba.size) (.cells #[.int .i64 ar, .int .i64 vr, .slice ba BL bc] 29)); clear hba)
    go_ret
    exact ⟨⟨_, rfl, rfl⟩, HW2.out⟩
  | true =>
    simp only [if_true]
    go_enter Tryd.func15, Tryd.ntmps15
    go_wp2_with (go_at_call 10; refine HF.out.mono ?_; rintro e wa ⟨rfl, hba⟩; have HW2 := Lib.hid ((HB1.out.trans (hba.mono HB1.out.size)).alloc (Nat.le_trans HB1.out.size hba.size) (.cells #[.int .i64 ar, .int .i64 vr, .slice ba BL bc] 29)); clear hba)
    have HIL := Lib.hid (fun b r hr => isLive_any ba bl bc b _ ((HFD.out.below HW2.out).mono HW2.out.size) BL HBL.out r hr)
    go_loop [16] (fun i => ∃ q : Nat, q ≤ 12 ∧ i = .int .i64 q ∧ Hid (∀ j : Nat, j < q → ¬ ¬ liveAt bl (j : Int))) (fun i => 12 - (intOf i).toNat)
    case atStart => exact ⟨0, Nat.zero_le _, rfl, fun j hj => absurd hj (Nat.not_lt_zero _)⟩
    case round =>
      obtain ⟨q, hq, rfl, hne⟩ := hrel
      by_cases hlt : q < 12
      · have hqi : (q : Int) < 12 := by omega
        by_cases hlv : liveAt bl (q : Int)
        · have HC := Lib.hid (HIL.out (q : Int) true (by simp [hlv]))
          have HLV := Lib.hid hlv
          clear HIL hlv
          go_wp2_with (go_at_call 25; refine HC.out.mono ?_; rintro e w' ⟨rfl, rfl⟩)
          refine ⟨⟨q + 1, by omega, by go_num, fun j hj => ?_⟩, by simp [intOf]; omega⟩
          rcases Nat.lt_succ_iff_lt_or_eq.1 hj with h | rfl
          · exact hne.out j h
          · exact fun h => h HLV.out
        · have HC := Lib.hid (HIL.out (q : Int) false (by simp [hlv]))
          have HLV := Lib.hid hlv
          clear HIL hlv
          go_wp2_with (go_at_call 25; refine HC.out.mono ?_; rintro e w' ⟨rfl, rfl⟩)
          go_ret
          exact ⟨⟨_, rfl, .inr ⟨q, hlt, rfl, HLV.out, hne.out⟩⟩, HW2.out⟩
      · obtain rfl : q = 12 := by omega
        go_wp2_with fail
        go_ret
        exact ⟨⟨_, rfl, .inl ⟨rfl, hne.out⟩⟩, HW2.out⟩
end Go.Proofs.YtdhdpfloaelngaaDoor
