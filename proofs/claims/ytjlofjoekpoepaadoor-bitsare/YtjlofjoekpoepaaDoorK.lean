import Derived.Test.YtjlofjoekpoepaaDoorJ
import Derived.Test.YtjlofjoekpoepaaDoorC
namespace Go.Proofs.YtjlofjoekpoepaaDoor
open Go Go.RowKit Go.Sort

/-- Words with one number more. -/
def putW (n : Nat) (ws : List Nat) (i : Int) : List Nat :=
  if 0 ≤ i ∧ i < n then ws.set (i.toNat / 64) ((ws[i.toNat / 64]?.getD 0) ||| 2 ^ (i.toNat % 64)) else ws

theorem putW_length (n : Nat) (ws : List Nat) (i : Int) : (putW n ws i).length = ws.length := by unfold putW; split <;> simp

theorem or_lt_M64 {x y : Nat} (hx : x < M64) (hy : y < M64) : x ||| y < M64 := by
  have e : M64 = 2 ^ 64 := rfl
  rw [e] at *
  exact Nat.or_lt_two_pow hx hy

theorem or_word (x k : Nat) (hx : x < M64) (hk : k < 64) : bits .or .u64 (x : Int) ((2 ^ k : Nat) : Int) = ((x ||| 2 ^ k : Nat) : Int) := by
  have h2 : 2 ^ k < 2 ^ 64 := Nat.pow_lt_pow_right (by decide) hk
  have h3 : (2 : Nat) ^ 64 = 18446744073709551616 := rfl
  rw [u64_or_nat x (2 ^ k) hx (by omega)]


theorem digit_at (n : Int) (D : Nat) (w : World) (h0 : 0 ≤ n) (h1 : n < 1024) (hD : Hid (2 ^ (n.toNat % 64) = D)) :
    Calls Tryd.prog 49 #[.int .i64 n] w fun e w' => e = .returned (.int .u64 (D : Int)) ∧ w = w' :=
  (digit_any n w h0 h1).mono fun _ _ ⟨he, hw⟩ => ⟨by rw [he, hD.out], hw.symm⟩

theorem grownBy_set {w w1 : World} (h : Below w.heap.size w w1) (g j : Nat) (v : Value) : w.grownBy (w1.setCell ⟨g, j, none⟩ v).drew (some g) :=
  ⟨h.os, h.tape, h.output, by have := h.size; simpa [World.setCell, World.drew] using this, fun k hk hne => (Below.heap_setCell w1 ⟨g, j, none⟩ v k (fun e => hne (by rw [e]))).trans (h.block k hk)⟩

theorem grownBy_of_below {w w1 : World} (h : Below w.heap.size w w1) (row : Option Nat) : w.grownBy w1 row :=
  ⟨h.os, h.tape, h.output, h.size, fun k hk _ => h.block k hk⟩

set_option maxRecDepth 100000 in
set_option maxHeartbeats 1000000 in
/-- put writes into words of its own. -/
theorem put_any (n0 n g cap : Nat) (ws : List Nat) (i : Int) (w : World) (hF : Fresh n0 w g ws) (hn : n ≤ 1024) (hl : ws.length = wcount n) (hB : WB ws) :
    Calls Tryd.prog 47 #[.agg #[.int .i64 (n : Int), .slice (some ⟨g, 0, none⟩) ws.length cap], .int .i64 i] w fun e w' => (∃ v, e = .returned v) ∧ Fresh n0 w' g (putW n ws i) ∧ w.grownBy w' (some g) := by
  obtain ⟨L, hL⟩ : ∃ L, ws.length = L := ⟨_, rfl⟩
  rw [hL]
  have hW1 : Below w.heap.size w (w.alloc (.cells #[.int .i64 (n : Int), .slice (some ⟨g, 0, none⟩) L cap] 28)) := (Below.refl _ _).alloc (Nat.le_refl _) _
  have BX := Box.new w (.int .i64 (n : Int)) (.slice (some ⟨g, 0, none⟩) L cap) 28
  generalize hW : w.alloc (.cells #[.int .i64 (n : Int), .slice (some ⟨g, 0, none⟩) L cap] 28) = W1 at *
  have HFi := Lib.hid (fits_any (n : Int) i (some ⟨g, 0, none⟩) L cap W1)
  obtain ⟨x0, x1, _, _⟩ := id BX
  by_cases hin : 0 ≤ i ∧ i < n
  · obtain ⟨j, rfl⟩ := Int.eq_ofNat_of_zero_le hin.1
    have hjn : j < n := by omega
    have hq : j / 64 < L := by rw [← hL, hl]; unfold wcount; omega
    have hres : putW n ws j = ws.set (j / 64) ((ws[j / 64]?.getD 0) ||| 2 ^ (j % 64)) := by simp [putW, hjn]
    rw [hres]
    have hx := hB.at (j / 64)
    have hcell := hF.cellAt (j := j / 64) (by rw [hL]; exact hq)
    have hfr := hF.frozenAt (j / 64)
    have hg := hF.lt
    obtain ⟨x, hxx⟩ : ∃ x, ws[j / 64]?.getD 0 = x := ⟨_, rfl⟩
    rw [hxx] at hcell hx ⊢
    have hor := or_word x (j % 64) hx (Nat.mod_lt _ (by decide))
    obtain ⟨D, hD⟩ : ∃ D : Nat, 2 ^ (j % 64) = D := ⟨_, rfl⟩
    rw [hD] at hor ⊢
    obtain ⟨z, hz⟩ : ∃ z, x ||| D = z := ⟨_, rfl⟩
    rw [hz] at hor ⊢
    have hD' : Hid (2 ^ (Int.toNat (j : Int) % 64) = D) := hD
    have hdec : decide (0 ≤ (j : Int) ∧ (j : Int) < (n : Int)) = true := by simp; omega
    rw [hdec] at HFi
    have HF := Lib.hid hF
    have HW1 := Lib.hid hW1
    have g1 : (0 : Int) ≤ (j : Int) / 64 := by omega
    have g2 : (j : Int) / 64 < (L : Int) := by omega
    have g3 : ((j : Int) / 64).toNat = j / 64 := by omega
    have g4 : (0 : Int) ≤ (j : Int) := by omega
    have g5 : (j : Int) < 1024 := by omega
    have hLl : L ≤ 16 := by rw [← hL, hl]; exact wcount_le hn
    clear hF hL hl hB hin hres hxx hD hz hdec hjn hq hx hn
    go_enter Tryd.func47, Tryd.ntmps47
    go_wp2_with fail
    refine HFi.out.mono ?_
    clear HFi
    rintro e w1 ⟨rfl, hb⟩
    have hc1 := (hb.cell (p := ⟨g, j / 64, none⟩) (Nat.lt_of_lt_of_le hg HW1.out.size)).trans ((HW1.out.cell (p := ⟨g, j / 64, none⟩) hg).trans hcell)
    have hf1 := (hb.frozen (p := ⟨g, j / 64, none⟩) (Nat.lt_of_lt_of_le hg HW1.out.size)).trans ((HW1.out.frozen (p := ⟨g, j / 64, none⟩) hg).trans hfr)
    obtain ⟨y0, y1, _, _⟩ := BX.below hb BX.lt
    have HB := Lib.hid hb
    clear hb hcell hfr x0 x1 hW hW1 BX
    go_wp2_with fail
    have q1 : IntKind.i64.wrap ((j : Int) / 64) = (j : Int) / 64 := by rw [IntKind.wrap_i64]; omega
    go_region_with (go_at_call 49; refine (digit_at _ D _ g4 g5 hD').mono ?_; rintro e w' ⟨rfl, rfl⟩)
    all_goals
      go_wp2_with fail
      go_end0
      have hb1 : Below w.heap.size w w1 := HW1.out.trans (HB.out.mono HW1.out.size)
      exact ⟨⟨_, rfl⟩, (HF.out.below hb1 hg).set _ _, grownBy_set hb1 g _ _⟩
  · have hres : putW n ws i = ws := by simp [putW, hin]
    rw [hres]
    have hdec : decide (0 ≤ i ∧ i < (n : Int)) = false := by simp [hin]
    rw [hdec] at HFi
    have HF := Lib.hid hF
    have HW1 := Lib.hid hW1
    clear hF hL hl hB hin hres hdec
    go_enter Tryd.func47, Tryd.ntmps47
    go_wp2_with fail
    refine HFi.out.mono ?_
    clear HFi
    rintro e w1 ⟨rfl, hb⟩
    have HB := Lib.hid hb
    clear hb
    go_wp2
    go_end0
    have hb1 : Below w.heap.size w w1 := HW1.out.trans (HB.out.mono HW1.out.size)
    exact ⟨⟨_, rfl⟩, HF.out.below hb1 HF.out.lt, grownBy_of_below hb1 _⟩
end Go.Proofs.YtjlofjoekpoepaaDoor
