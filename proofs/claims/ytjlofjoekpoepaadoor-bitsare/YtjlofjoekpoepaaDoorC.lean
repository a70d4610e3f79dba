import Derived.Test.YtjlofjoekpoepaaDoorA
namespace Go.Proofs.YtjlofjoekpoepaaDoor
open Go Go.RowKit Go.Sort

theorem and_word (x k : Nat) (hx : x < M64) (hk : k < 64) : (bits .and .u64 (x : Int) ((2 ^ k : Nat) : Int) != 0) = x.testBit k := by
  have h2 : 2 ^ k < 2 ^ 64 := Nat.pow_lt_pow_right (by decide) hk
  have h3 : (2 : Nat) ^ 64 = 18446744073709551616 := rfl
  rw [u64_and_nat x (2 ^ k) hx (by omega), ← and_pow_ne x k]
  rw [Bool.eq_iff_iff]
  simp only [bne_iff_ne, ne_eq]
  omega

theorem WB.at {ws : List Nat} (h : WB ws) (j : Nat) : ws[j]?.getD 0 < M64 := by
  by_cases hj : j < ws.length
  · simp [hj]; exact h _ (List.getElem_mem hj)
  · simp [List.getElem?_eq_none (Nat.le_of_not_lt hj), M64]

set_option maxHeartbeats 1000000 in
/-- has, of a set that may be. -/
theorem has_any (n : Nat) (a : Option Addr) (ws : List Nat) (cap : Nat) (i : Int) (w : World) (hWd : Wd w.heap.size w a ws) (hB : WB ws) (hn : n ≤ 1024) (hl : ws.length = wcount n) :
    Calls Tryd.prog 44 #[.agg #[.int .i64 (n : Int), .slice a ws.length cap], .int .i64 i] w fun e w' => e = .returned (.bool (hasB n ws i)) ∧ Below w.heap.size w w' := by
  have hW1 : Below w.heap.size w (w.alloc (.cells #[.int .i64 (n : Int), .slice a ws.length cap] 28)) := (Below.refl _ _).alloc (Nat.le_refl _) _
  by_cases hin : 0 ≤ i ∧ i < n
  · obtain ⟨j, rfl⟩ := Int.eq_ofNat_of_zero_le hin.1
    have hjn : j < n := by omega
    have hq : j / 64 < ws.length := by rw [hl]; unfold wcount; omega
    obtain ⟨b, o, rfl, hbl, hcell⟩ := hWd _ hq
    have hres : hasB n ws j = (ws[j / 64]?.getD 0).testBit (j % 64) := by simp [hasB, bitAt, hjn]
    rw [hres]
    have hx := hB.at (j / 64)
    have hlen : ws.length ≤ 16 := by rw [hl]; exact wcount_le hn
    have h64 : j % 64 < 64 := Nat.mod_lt _ (by decide)
    obtain ⟨x, hxx⟩ : ∃ x, ws[j / 64]?.getD 0 = x := ⟨_, rfl⟩
    rw [hxx] at hcell hx ⊢
    obtain ⟨L, hL⟩ : ∃ L, ws.length = L := ⟨_, rfl⟩
    rw [hL] at hq hlen hW1 ⊢
    have hword := and_word x (j % 64) hx h64
    generalize hW : w.alloc (.cells #[.int .i64 (n : Int), .slice (some ⟨b, o, none⟩) L cap] 28) = W1 at *
    have c0 : W1.cell? ⟨w.heap.size, 0, none⟩ = some (.int .i64 (n : Int)) := by rw [← hW]; simp
    have c1 : W1.cell? ⟨w.heap.size, 1, none⟩ = some (.slice (some ⟨b, o, none⟩) L cap) := by rw [← hW]; simp
    have cw : W1.cell? ⟨b, o + j / 64, none⟩ = some (.int .u64 (x : Int)) := (hW1.cell (p := ⟨b, o + j / 64, none⟩) hbl).trans hcell
    have k0 := cell_regrown c0
    have k1 := cell_regrown c1
    have kw := cell_regrown cw
    have cF : ∀ d os, Calls Tryd.prog 48 #[.agg #[.int .i64 (n : Int), .slice (some ⟨b, o, none⟩) L cap], .int .i64 (j : Int)] (grow (redrawn W1 d) os) fun e w'' => e = .returned (.bool true) ∧ ∃ p : Regrown, w'' = grow (redrawn W1 p.d) p.os :=
      fun d os => Calls.regrown_of ((fits_any _ _ _ _ _ _).mono fun _ _ ⟨he, hb⟩ => ⟨by rw [he]; simp [hjn], hb⟩)
    have cD : ∀ d os, Calls Tryd.prog 49 #[.int .i64 (j : Int)] (grow (redrawn W1 d) os) fun e w'' => e = .returned (.int .u64 ((2 ^ (j % 64) : Nat) : Int)) ∧ ∃ p : Regrown, w'' = grow (redrawn W1 p.d) p.os :=
      fun d os => Calls.regrown_of ((digit_any _ _ (by omega) (by omega)).mono fun _ _ ⟨he, hb⟩ => ⟨by rw [he]; simp, by rw [hb]; exact Below.refl _ _⟩)
    have g1 : (0 : Int) ≤ (j : Int) / 64 := by omega
    have g2 : (j : Int) / 64 < (L : Int) := by omega
    have g3 : ((j : Int) / 64).toNat = j / 64 := by omega
    have HWORD := Lib.hid hword
    have HXX := Lib.hid hxx
    have HL := Lib.hid hL
    have HH := Lib.hid hW
    have HW1 := Lib.hid hW1
    obtain ⟨D, hD⟩ : ∃ D : Nat, 2 ^ (j % 64) = D := ⟨_, rfl⟩
    rw [hD] at cD
    have HD := Lib.hid hD
    clear hword hxx hL hl hWd hres hn hB hcell c0 c1 cw hin hD
    go_enter Tryd.func44, Tryd.ntmps44
    go_wp2
    clear hW
    refine wp_region_quiet_below (by kernel_rfl) (by kernel_rfl) ?_
    repeat (first | go_big_quiet_step (first | exact cF _ _ | exact cD _ _) | quiet_step (first | exact cF _ _ | exact cD _ _))
    refine wpQuiet_nil ?_
    intro _ hw'
    obtain ⟨⟨dq, osq⟩, hw''⟩ := hw'
    subst hw''
    go_wp2
    go_ret
    refine ⟨ret_bool ?_, HW1.out.trans ((below_regrown W1 dq osq).mono HW1.out.size)⟩
    rw [← HWORD.out, HD.out]
  · have hres : hasB n ws i = false := by simp [hasB]; omega
    rw [hres]
    generalize hL : ws.length = L at *
    have HL := Lib.hid hL
    have HIN := Lib.hid hin
    clear hL hl hin hWd hres
    generalize hW : w.alloc (.cells #[.int .i64 (n : Int), .slice a L cap] 28) = W1 at *
    have c0 : W1.cell? ⟨w.heap.size, 0, none⟩ = some (.int .i64 (n : Int)) := by rw [← hW]; simp
    have c1 : W1.cell? ⟨w.heap.size, 1, none⟩ = some (.slice a L cap) := by rw [← hW]; simp
    have k0 := cell_regrown c0
    have k1 := cell_regrown c1
    have cF : ∀ d os, Calls Tryd.prog 48 #[.agg #[.int .i64 (n : Int), .slice a L cap], .int .i64 i] (grow (redrawn W1 d) os) fun e w'' => e = .returned (.bool false) ∧ ∃ p : Regrown, w'' = grow (redrawn W1 p.d) p.os :=
      fun d os => Calls.regrown_of ((fits_any _ _ _ _ _ _).mono fun _ _ ⟨he, hb⟩ => ⟨by rw [he]; simp [HIN.out], hb⟩)
    have HW1 := Lib.hid hW1
    clear c0 c1
    go_enter Tryd.func44, Tryd.ntmps44
    go_wp2
    clear hW
    refine wp_region_quiet_below (by kernel_rfl) (by kernel_rfl) ?_
    repeat (first | go_big_quiet_step (exact cF _ _) | quiet_step (exact cF _ _))
    refine wpQuiet_nil ?_
    intro _ hw'
    obtain ⟨⟨dq, osq⟩, hw''⟩ := hw'
    subst hw''
    go_wp2
    go_ret
    exact ⟨rfl, HW1.out.trans ((below_regrown W1 dq osq).mono HW1.out.size)⟩
end Go.Proofs.YtjlofjoekpoepaaDoor
