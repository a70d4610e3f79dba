import Derived.Test.YtjlofjoekpoepaaDoorP
namespace Go.Proofs.YtjlofjoekpoepaaDoor
open Go Go.RowKit Go.Sort

theorem shr_word (x k : Nat) (hx : x < M64) : (bits .and .u64 ((x : Int) / 2 ^ k) 1 == 1) = x.testBit k := by
  have e1 : (x : Int) / 2 ^ k = ((x / 2 ^ k : Nat) : Int) := by simp
  have h1 : x / 2 ^ k < M64 := Nat.lt_of_le_of_lt (Nat.div_le_self _ _) hx
  have h2 := u64_and_nat (x / 2 ^ k) 1 h1 (by decide)
  simp only [Int.natCast_one] at h2
  rw [e1, h2, Nat.and_one_is_mod, Nat.testBit_eq_decide_div_mod_eq, Bool.eq_iff_iff]
  simp only [beq_iff_eq, decide_eq_true_eq]
  omega

set_option maxHeartbeats 1000000 in
/-- bit, of the document's answer: a digit of words. -/
theorem bit_ref {B : Nat} (a : Option Addr) (ws : List Nat) (cap j : Nat) (w : World) (hWd : Wd B w a ws) (hB : WB ws) (hl : ws.length ≤ 30) (hj : j < 64 * ws.length) :
    Calls Tryd.prog 42 #[.slice a ws.length cap, .int .i64 (j : Int)] w fun e w' => e = .returned (.bool (bitAt ws j)) ∧ w' = w := by
  have hq : j / 64 < ws.length := by omega
  obtain ⟨b, o, rfl, hbl, hcell⟩ := hWd _ hq
  have hx := hB.at (j / 64)
  unfold bitAt
  obtain ⟨x, hxx⟩ : ∃ x, ws[j / 64]?.getD 0 = x := ⟨_, rfl⟩
  rw [hxx] at hcell hx ⊢
  obtain ⟨L, hL⟩ : ∃ L, ws.length = L := ⟨_, rfl⟩
  rw [hL] at hq hl hj ⊢
  have hs := shr_word x (j % 64) hx
  have g1 : (0 : Int) ≤ (j : Int) / 64 := by omega
  have g2 : (j : Int) / 64 < (L : Int) := by omega
  have g3 : ((j : Int) / 64).toNat = j / 64 := by omega
  have hj2 : (j : Int) < 2000 := by omega
  have HS := Lib.hid hs
  clear hs hxx hL hWd hB hbl hx
  go_enter Tryd.func42, Tryd.ntmps42
  go_wp2
  go_ret
  refine ⟨ret_bool ?_, rfl⟩
  rw [← HS.out]

set_option maxHeartbeats 2000000 in
/-- Sane, of the document's answer. -/
theorem Sane_ref (n : Int) (a : Option Addr) (ws : List Nat) (cap : Nat) (w : World) (hWd : Wd w.heap.size w a ws) (hB : WB ws) (hl : ws.length ≤ 30) :
    Calls Tryd.prog 15 #[.agg #[.int .i64 n, .slice a ws.length cap]] w fun e w' => e = .returned (.bool (saneB n ws)) ∧ Below w.heap.size w w' := by
  have hW1 : Below w.heap.size w (w.alloc (.cells #[.int .i64 n, .slice a ws.length cap] 24)) := (Below.refl _ _).alloc (Nat.le_refl _) _
  have B1 := Box.new w (.int .i64 n) (.slice a ws.length cap) 24
  have HWd := Lib.hid (hWd.below hW1)
  clear hWd
  by_cases h0 : n < 0
  · have hf : saneB n ws = false := by simp [saneB]; omega
    rw [hf]
    generalize hW : w.alloc (.cells #[.int .i64 n, .slice a ws.length cap] 24) = W1 at *
    obtain ⟨c0, c1, -, -⟩ := B1
    have d0 : decide (n < 0) = true := by simp; omega
    have HW1 := Lib.hid hW1
    clear hf hW1
    go_enter Tryd.func15, Tryd.ntmps15
    go_wp2
    go_ret
    exact ⟨rfl, HW1.out⟩
  · have d0 : decide (n < 0) = false := by simp; omega
    by_cases h1 : 1024 < n
    · have hf : saneB n ws = false := by simp [saneB]; omega
      rw [hf]
      generalize hW : w.alloc (.cells #[.int .i64 n, .slice a ws.length cap] 24) = W1 at *
      obtain ⟨c0, c1, -, -⟩ := B1
      have d1 : decide (1024 < n) = true := by simp; omega
      have HW1 := Lib.hid hW1
      clear hf hW1
      go_enter Tryd.func15, Tryd.ntmps15
      go_wp2
      go_ret
      exact ⟨rfl, HW1.out⟩
    · have d1 : decide (1024 < n) = false := by simp; omega
      obtain ⟨m, rfl⟩ := Int.eq_ofNat_of_zero_le (show 0 ≤ n by omega)
      obtain ⟨k, hk⟩ : ∃ k, wcount m = k := ⟨_, rfl⟩
      have hkl : k ≤ 16 := by have := wcount_le (show m ≤ 1024 by omega); omega
      have hm : m ≤ 1024 := by omega
      have hq : IntKind.i64.wrap (((m : Int) + 63) / 64) = (k : Int) := by rw [IntKind.wrap_i64, ← hk]; unfold wcount; omega
      have hq2 : ((m : Int) + 63) / 64 = (k : Int) := by rw [← hk]; unfold wcount; omega
      by_cases hlen : ws.length = k
      · have hs : saneB m ws = topClear m ws := by simp [saneB, hlen, hk]; omega
        rw [hs]
        have hiff := topClear_iff (hlen.trans hk.symm) hB
        have HIff := Lib.hid hiff
        have HL := Lib.hid hlen
        have hmk : m ≤ 64 * k := by rw [← hk]; unfold wcount; omega
        have hb1 : ((k : Int) != (k : Int)) = false := by simp
        have cB : Hid (∀ (W : World) (j : Nat), Wd w.heap.size W a ws → j < 64 * k → Calls Tryd.prog 42 #[.slice a k cap, .int .i64 (j : Int)] W fun e w' => e = .returned (.bool (bitAt ws j)) ∧ w' = W) := fun W j hw hj => by
          have := bit_ref a ws cap j W hw hB hl (by omega)
          rw [HL.out] at this
          exact this
        rw [hlen] at HWd hW1 B1 ⊢
        clear hs hiff hlen hk hl
        generalize hW : w.alloc (.cells #[.int .i64 (m : Int), .slice a k cap] 24) = W1 at *
        have HW1 := Lib.hid hW1
        obtain ⟨c0, c1, -, -⟩ := B1
        clear hW1
        go_enter Tryd.func15, Tryd.ntmps15
        go_wp2
        go_loopw [3] (fun i wr => ∃ j : Nat, m ≤ j ∧ j ≤ 64 * k ∧ i = .int .i64 (j : Int) ∧ Hid (∀ i, m ≤ i → i < j → bitAt ws i = false) ∧ wr = W1) (fun i _ => 64 * k - (intOf i).toNat)
        case atStart => exact ⟨m, Nat.le_refl _, hmk, rfl, Lib.hid (fun i h1 h2 => by omega), rfl⟩
        case round =>
          obtain ⟨j, hj1, hj2, rfl, hpre, rfl⟩ := hrel
          by_cases hlt : j < 64 * k
          · have hjl : (j : Int) < (k : Int) * 64 := by omega
            have cj := cB.out _ j HWd.out hlt
            obtain ⟨bb, hbb⟩ : ∃ bb, bitAt ws j = bb := ⟨_, rfl⟩
            rw [hbb] at cj
            have HBB := Lib.hid hbb
            clear hbb
            cases bb with
            | true =>
              go_wp2_with (go_at_call 42; refine cj.mono ?_; rintro e w1 ⟨rfl, rfl⟩)
              go_ret
              refine ⟨ret_bool ?_, HW1.out⟩
              rw [eq_comm, ← Bool.not_eq_true, HIff.out]
              intro h
              have := h j hj1
              rw [HBB.out] at this
              cases this
            | false =>
              go_wp2_with (go_at_call 42; refine cj.mono ?_; rintro e w1 ⟨rfl, rfl⟩)
              go_roundw
              case rel =>
                refine ⟨j + 1, by omega, by omega, by go_num, ?_, by first | trivial | rfl⟩
                intro i h1 h2
                by_cases e : i = j
                · rw [e]; exact HBB.out
                · exact hpre.out i h1 (by omega)
              case measure => simp [intOf]; omega
          · have hjl : ¬ (j : Int) < (k : Int) * 64 := by omega
            go_wp2
            go_ret
            refine ⟨ret_bool ?_, HW1.out⟩
            rw [eq_comm, HIff.out]
            intro i hi
            by_cases h : i < 64 * k
            · exact hpre.out i hi (by omega)
            · have : ws.length ≤ i / 64 := by rw [HL.out]; omega
              simp [bitAt, List.getElem?_eq_none this]
      · have hs : saneB m ws = false := by simp [saneB, hk, hlen]
        rw [hs]
        have hb1 : ((ws.length : Int) != (k : Int)) = true := by simp; omega
        generalize hW : w.alloc (.cells #[.int .i64 (m : Int), .slice a ws.length cap] 24) = W1 at *
        obtain ⟨c0, c1, -, -⟩ := B1
        have HW1 := Lib.hid hW1
        clear hs hk hlen hW1
        go_enter Tryd.func15, Tryd.ntmps15
        go_wp2
        go_ret
        exact ⟨rfl, HW1.out⟩
end Go.Proofs.YtjlofjoekpoepaaDoor
