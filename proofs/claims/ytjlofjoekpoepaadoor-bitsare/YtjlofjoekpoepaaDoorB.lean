import Derived.Test.YtjlofjoekpoepaaDoorA
namespace Go.Proofs.YtjlofjoekpoepaaDoor
open Go Go.RowKit Go.Sort

theorem Wd.last {B : Nat} {W : World} {a : Option Addr} {ws : List Nat} (h : Wd B W a ws) (h0 : 0 < ws.length) :
    ∃ b o, a = some ⟨b, o, none⟩ ∧ b < B ∧ W.cell? ⟨b, o + (ws.length - 1), none⟩ = some (.int .u64 ((ws[ws.length - 1]?.getD 0 : Nat) : Int)) := h _ (by omega)

set_option maxHeartbeats 1000000 in
theorem sane_any (n : Int) (a : Option Addr) (ws : List Nat) (cap : Nat) (w : World) (hWd : Wd w.heap.size w a ws) (hl : ws.length ≤ 30) :
    Calls Tryd.prog 14 #[.agg #[.int .i64 n, .slice a ws.length cap]] w fun e w' => e = .returned (.bool (saneB n ws)) ∧ Below w.heap.size w w' := by
  by_cases h0 : n < 0
  · have hf : saneB n ws = false := by simp [saneB]; omega
    rw [hf]
    clear hf hWd
    go_enter Tryd.func14, Tryd.ntmps14
    go_wp2
    go_quiet (fail)
    go_wp2
    go_ret
    exact ⟨rfl, below_drewN ((Below.refl _ _).alloc (Nat.le_refl _) _) _⟩
  · by_cases h1 : 1024 < n
    · have hf : saneB n ws = false := by simp [saneB]; omega
      rw [hf]
      clear hf hWd
      go_enter Tryd.func14, Tryd.ntmps14
      go_wp2
      go_quiet (fail)
      go_wp2
      go_ret
      exact ⟨rfl, below_drewN ((Below.refl _ _).alloc (Nat.le_refl _) _) _⟩
    · obtain ⟨m, rfl⟩ := Int.eq_ofNat_of_zero_le (show 0 ≤ n by omega)
      obtain ⟨k, hk⟩ : ∃ k, wcount m = k := ⟨_, rfl⟩
      have hk' : Hid (wcount (m : Int).toNat = k) := hk
      have h2 : (m : Int) ≤ 1024 := by omega
      have h3 : (0 : Int) ≤ m := by omega
      have hkl : k ≤ 16 := by have := wcount_le (show m ≤ 1024 by omega); omega
      have hwq : ∀ (W : World) (q : Nat), Calls Tryd.prog 43 #[.int .i64 (m : Int)] (W.drewN q) fun e w' => e = .returned (.int .i64 (k : Nat)) ∧ ∃ r, w' = W.drewN r := fun W q =>
        (wordsFor_at _ k _ h3 h2 hk').mono fun _ _ ⟨he, hw⟩ => ⟨he, q, hw.symm⟩
      have hd1 : decide ((m : Int) < 0) = false := by simp
      have hd2 : decide (1024 < (m : Int)) = false := by simp; omega
      by_cases hlen : ws.length = k
      · have hs : saneB m ws = topClear m ws := by simp [saneB, hlen, hk, h2]
        rw [hs]
        have hb1 : ((ws.length : Int) != (k : Int)) = false := by simp [hlen]
        by_cases hr : m % 64 = 0
        · have ht : topClear m ws = true := by simp [topClear, hr]
          have hb2 : ((m : Int) % 64 == 0) = true := by simp; omega
          rw [ht]
          have HL := Lib.hid hlen
          clear hs ht hlen hk hr hWd
          go_enter Tryd.func14, Tryd.ntmps14
          go_wp2
          go_quiet ((go_at_call 43; exact hwq _ _))
          go_wp2
          go_ret
          exact ⟨rfl, below_drewN ((Below.refl _ _).alloc (Nat.le_refl _) _) _⟩
        · have hpos : 0 < ws.length := by rw [hlen, ← hk]; unfold wcount; omega
          obtain ⟨b, o, rfl, hbl, hcell⟩ := hWd.last hpos
          have hb2 : ((m : Int) % 64 == 0) = false := by simp; omega
          have HR := Lib.hid hr
          have HL := Lib.hid hlen
          have HS := Lib.hid hs
          obtain ⟨L, hL⟩ : ∃ L, ws.length = L + 1 := ⟨ws.length - 1, by omega⟩
          rw [hL] at hcell hb1 hl ⊢
          simp only [Nat.add_sub_cancel, Int.natCast_add, Int.natCast_one] at hcell hb1
          have HLL := Lib.hid hL
          clear hs hlen hk hr hWd hpos hL
          go_enter Tryd.func14, Tryd.ntmps14
          go_wp2
          go_quiet ((go_at_call 43; exact hwq _ _))
          go_wp2
          go_ret
          refine ⟨ret_bool ?_, below_drewN ((Below.refl _ _).alloc (Nat.le_refl _) _) _⟩
          unfold topClear
          rw [HLL.out]
          simp only [Nat.add_sub_cancel]
          have hr1 : (m % 64 == 0) = false := by have := HR.out; simpa using this
          rw [hr1, Bool.false_or, Nat.shiftRight_eq_div_pow, Bool.eq_iff_iff]
          simp only [beq_iff_eq]
          have e1 : ((ws[L]?.getD 0 : Nat) : Int) / 2 ^ (m % 64) = (((ws[L]?.getD 0) / 2 ^ (m % 64) : Nat) : Int) := by simp
          rw [e1]
          exact Int.natCast_eq_zero
      · have hs : saneB m ws = false := by simp [saneB, hk, hlen]
        rw [hs]
        have hb1 : ((ws.length : Int) != (k : Int)) = true := by simp; omega
        have HL := Lib.hid hlen
        clear hs hlen hk hWd
        go_enter Tryd.func14, Tryd.ntmps14
        go_wp2
        go_quiet ((go_at_call 43; exact hwq _ _))
        go_wp2
        go_ret
        exact ⟨rfl, below_drewN ((Below.refl _ _).alloc (Nat.le_refl _) _) _⟩
end Go.Proofs.YtjlofjoekpoepaaDoor
