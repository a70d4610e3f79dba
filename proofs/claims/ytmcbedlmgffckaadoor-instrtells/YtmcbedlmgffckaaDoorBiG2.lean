/- BiG2: several texts in one: BiRa BiRb BiRc BiRd BiRe BiRf BiRg BiRh BiRi BiRj BiRk BiRl. -/
import Derived.Test.YtmcbedlmgffckaaDoorBiG1
import Derived.Laws.AppendOwn

namespace Go.Proofs.YtmcbedlmgffckaaDoor.Bi
open Go Go.RowKit Go.Sort

theorem shr_word (x k : Nat) (hx : x < M64) : (bits .and .u64 ((x : Int) / 2 ^ k) 1 == 1) = x.testBit k := by
  have e1 : (x : Int) / 2 ^ k = ((x / 2 ^ k : Nat) : Int) := by simp
  have h1 : x / 2 ^ k < M64 := Nat.lt_of_le_of_lt (Nat.div_le_self _ _) hx
  have h2 := u64_and_nat (x / 2 ^ k) 1 h1 (by decide)
  simp only [Int.natCast_one] at h2
  rw [e1, h2, Nat.and_one_is_mod, Nat.testBit_eq_decide_div_mod_eq, Bool.eq_iff_iff]
  simp only [beq_iff_eq, decide_eq_true_eq]
  omega

set_option maxHeartbeats 1000000 in
/-- bit, of the document's answer: a digit of words. -/
theorem bit_ref {B : Nat} (a : Option Addr) (ws : List Nat) (cap j : Nat) (w : World) (hWd : Wd B w a ws) (hB : WB ws) (hl : ws.length ≤ 30) (hj : j < 64 * ws.length) :
    Calls Tryd.prog 135 #[.slice a ws.length cap, .int .i64 (j : Int)] w fun e w' => e = .returned (.bool (bitAt ws j)) ∧ w' = w := by
  have hq : j / 64 < ws.length := by omega
  obtain ⟨b, o, rfl, hbl, hcell⟩ := hWd _ hq
  have hx := hB.at (j / 64)
  unfold bitAt
  obtain ⟨x, hxx⟩ : ∃ x, ws[j / 64]?.getD 0 = x := ⟨_, rfl⟩
  rw [hxx] at hcell hx ⊢
  obtain ⟨L, hL⟩ : ∃ L, ws.length = L := ⟨_, rfl⟩
  rw [hL] at hq hl hj ⊢
  have hs := shr_word x (j % 64) hx
  have g1 : (0 : Int) ≤ (j : Int) / 64 := by omega
  have g2 : (j : Int) / 64 < (L : Int) := by omega
  have g3 : ((j : Int) / 64).toNat = j / 64 := by omega
  have hj2 : (j : Int) < 2000 := by omega
  have HS := Lib.hid hs
  clear hs hxx hL hWd hB hbl hx
  go_enter Tryd.func135, Tryd.ntmps135
  go_wp2
  go_ret
  refine ⟨ret_bool ?_, rfl⟩
  rw [← HS.out]

set_option maxHeartbeats 2000000 in
/-- Sane, of the document's answer. -/
theorem Sane_ref (n : Int) (a : Option Addr) (ws : List Nat) (cap : Nat) (w : World) (hWd : Wd w.heap.size w a ws) (hB : WB ws) (hl : ws.length ≤ 30) :
    Calls Tryd.prog 136 #[.agg #[.int .i64 n, .slice a ws.length cap]] w fun e w' => e = .returned (.bool (saneB n ws)) ∧ Below w.heap.size w w' := by
  have hW1 : Below w.heap.size w (w.alloc (.cells #[.int .i64 n, .slice a ws.length cap] 35)) := (Below.refl _ _).alloc (Nat.le_refl _) _
  have B1 := Box.new w (.int .i64 n) (.slice a ws.length cap) 35
  have HWd := Lib.hid (hWd.below hW1)
  clear hWd
  by_cases h0 : n < 0
  · have hf : saneB n ws = false := by simp [saneB]; omega
    rw [hf]
    generalize hW : w.alloc (.cells #[.int .i64 n, .slice a ws.length cap] 35) = W1 at *
    obtain ⟨c0, c1, -, -⟩ := B1
    have d0 : decide (n < 0) = true := by simp; omega
    have HW1 := Lib.hid hW1
    clear hf hW1
    go_enter Tryd.func136, Tryd.ntmps136
    go_wp2
    go_ret
    exact ⟨rfl, HW1.out⟩
  · have d0 : decide (n < 0) = false := by simp; omega
    by_cases h1 : 1024 < n
    · have hf : saneB n ws = false := by simp [saneB]; omega
      rw [hf]
      generalize hW : w.alloc (.cells #[.int .i64 n, .slice a ws.length cap] 35) = W1 at *
      obtain ⟨c0, c1, -, -⟩ := B1
      have d1 : decide (1024 < n) = true := by simp; omega
      have HW1 := Lib.hid hW1
      clear hf hW1
      go_enter Tryd.func136, Tryd.ntmps136
      go_wp2
      go_ret
      exact ⟨rfl, HW1.out⟩
    · have d1 : decide (1024 < n) = false := by simp; omega
      obtain ⟨m, rfl⟩ := Int.eq_ofNat_of_zero_le (show 0 ≤ n by omega)
      obtain ⟨k, hk⟩ : ∃ k, wcount m = k := ⟨_, rfl⟩
      have hkl : k ≤ 16 := by have := wcount_le (show m ≤ 1024 by omega); omega
      have hm : m ≤ 1024 := by omega
      have hq : IntKind.i64.wrap (((m : Int) + 63) / 64) = (k : Int) := by rw [IntKind.wrap_i64, ← hk]; unfold wcount; omega
      have hq2 : ((m : Int) + 63) / 64 = (k : Int) := by rw [← hk]; unfold wcount; omega
      by_cases hlen : ws.length = k
      · have hs : saneB m ws = topClear m ws := by simp [saneB, hlen, hk]; omega
        rw [hs]
        have hiff := topClear_iff (hlen.trans hk.symm) hB
        have HIff := Lib.hid hiff
        have HL := Lib.hid hlen
        have hmk : m ≤ 64 * k := by rw [← hk]; unfold wcount; omega
        have hb1 : ((k : Int) != (k : Int)) = false := by simp
        have cB : Hid (∀ (W : World) (j : Nat), Wd w.heap.size W a ws → j < 64 * k → Calls Tryd.prog 135 #[.slice a k cap, .int .i64 (j : Int)] W fun e w' => e = .returned (.bool (bitAt ws j)) ∧ w' = W) := fun W j hw hj => by
          have := bit_ref a ws cap j W hw hB hl (by omega)
          rw [HL.out] at this
          exact this
        rw [hlen] at HWd hW1 B1 ⊢
        clear hs hiff hlen hk hl
        generalize hW : w.alloc (.cells #[.int .i64 (m : Int), .slice a k cap] 35) = W1 at *
        have HW1 := Lib.hid hW1
        obtain ⟨c0, c1, -, -⟩ := B1
        clear hW1
        go_enter Tryd.func136, Tryd.ntmps136
        go_wp2
        go_loopw [3] (fun i wr => ∃ j : Nat, m ≤ j ∧ j ≤ 64 * k ∧ i = .int .i64 (j : Int) ∧ Hid (∀ i, m ≤ i → i < j → bitAt ws i = false) ∧ wr = W1) (fun i _ => 64 * k - (intOf i).toNat)
        case atStart => exact ⟨m, Nat.le_refl _, hmk, rfl, Lib.hid (fun i h1 h2 => by omega), rfl⟩
        case round =>
          obtain ⟨j, hj1, hj2, rfl, hpre, rfl⟩ := hrel
          by_cases hlt : j < 64 * k
          · have hjl : (j : Int) < (k : Int) * 64 := by omega
            have cj := cB.out _ j HWd.out hlt
            obtain ⟨bb, hbb⟩ : ∃ bb, bitAt ws j = bb := ⟨_, rfl⟩
            rw [hbb] at cj
            have HBB := Lib.hid hbb
            clear hbb
            cases bb with
            | true =>
              go_wp2_with (go_at_call 135; refine cj.mono ?_; rintro e w1 ⟨rfl, rfl⟩)
              go_ret
              refine ⟨ret_bool ?_, HW1.out⟩
              rw [eq_comm, ← Bool.not_eq_true, HIff.out]
              intro h
              have := h j hj1
              rw [HBB.out] at this
              cases this
            | false =>
              go_wp2_with (go_at_call 135; refine cj.mono ?_; rintro e w1 ⟨rfl, rfl⟩)
              go_roundw
              case rel =>
                refine ⟨j + 1, by omega, by omega, by go_num, ?_, by first | trivial | rfl⟩
                intro i h1 h2
                by_cases e : i = j
                · rw [e]; exact HBB.out
                · exact hpre.out i h1 (by omega)
              case measure => simp [intOf]; omega
          · have hjl : ¬ (j : Int) < (k : Int) * 64 := by omega
            go_wp2
            go_ret
            refine ⟨ret_bool ?_, HW1.out⟩
            rw [eq_comm, HIff.out]
            intro i hi
            by_cases h : i < 64 * k
            · exact hpre.out i hi (by omega)
            · have : ws.length ≤ i / 64 := by rw [HL.out]; omega
              simp [bitAt, List.getElem?_eq_none this]
      · have hs : saneB m ws = false := by simp [saneB, hk, hlen]
        rw [hs]
        have hb1 : ((ws.length : Int) != (k : Int)) = true := by simp; omega
        generalize hW : w.alloc (.cells #[.int .i64 (m : Int), .slice a ws.length cap] 35) = W1 at *
        obtain ⟨c0, c1, -, -⟩ := B1
        have HW1 := Lib.hid hW1
        clear hs hk hlen hW1
        go_enter Tryd.func136, Tryd.ntmps136
        go_wp2
        go_ret
        exact ⟨rfl, HW1.out⟩
end Go.Proofs.YtmcbedlmgffckaaDoor.Bi

namespace Go.Proofs.YtmcbedlmgffckaaDoor.Bi
open Go Go.RowKit Go.Sort

set_option maxHeartbeats 2000000 in
/-- size, of the document's answer. -/
theorem size_ref (n : Int) (a : Option Addr) (ws : List Nat) (cap : Nat) (w : World) (hWd : Wd w.heap.size w a ws) (hB : WB ws) (hl : ws.length ≤ 30) :
    Calls Tryd.prog 94 #[.agg #[.int .i64 n, .slice a ws.length cap]] w fun e w' => e = .returned (.int .i64 ((nrm n ws : Nat) : Int)) ∧ Below w.heap.size w w' := by
  have hW1 : Below w.heap.size w (w.alloc (.cells #[.int .i64 n, .slice a ws.length cap] 35)) := (Below.refl _ _).alloc (Nat.le_refl _) _
  have B1 := Box.new w (.int .i64 n) (.slice a ws.length cap) 35
  have HS := Lib.hid (Sane_ref n a ws cap _ ((hWd.below hW1).mono hW1.size) hB hl)
  obtain ⟨L, hL⟩ : ∃ L, ws.length = L := ⟨_, rfl⟩
  rw [hL] at hW1 B1 HS ⊢
  clear hL
  generalize hW : w.alloc (.cells #[.int .i64 n, .slice a L cap] 35) = W1 at *
  obtain ⟨c0, c1, -, -⟩ := id B1
  have HB1 := Lib.hid B1
  have HW1 := Lib.hid hW1
  obtain ⟨N, hN⟩ : ∃ N, nrm n ws = N := ⟨_, rfl⟩
  rw [hN]
  obtain ⟨sn, hsn⟩ : ∃ sn, saneB n ws = sn := ⟨_, rfl⟩
  rw [hsn] at HS
  have HN : Hid (N = if sn then n.toNat else 0) := by
    show N = _
    rw [← hN, ← hsn]; rfl
  have HSN := Lib.hid hsn
  clear B1 hW1 hN hWd hB hl hsn
  cases sn with
  | true =>
    go_enter Tryd.func94, Tryd.ntmps94
    go_wp2_with fail
    clear hW c0 c1
    refine HS.out.mono ?_
    rintro e w1 ⟨rfl, hb⟩
    obtain ⟨c0, c1, -, -⟩ := HB1.out.below hb HB1.out.lt
    have HB := Lib.hid hb
    clear hb
    go_wp2
    go_ret
    refine ⟨ret_int ?_, HW1.out.trans (HB.out.mono HW1.out.size)⟩
    have h := HSN.out
    simp only [saneB, Bool.and_eq_true, decide_eq_true_eq] at h
    rw [HN.out]
    simp only [if_true]
    omega
  | false =>
    obtain rfl : N = 0 := HN.out
    go_enter Tryd.func94, Tryd.ntmps94
    go_wp2_with fail
    clear hW c0 c1
    refine HS.out.mono ?_
    rintro e w1 ⟨rfl, hb⟩
    have HB := Lib.hid hb
    clear hb
    go_wp2
    go_ret
    exact ⟨rfl, HW1.out.trans (HB.out.mono HW1.out.size)⟩

set_option maxHeartbeats 2000000 in
/-- New, of the document's answer. -/
theorem New_ref (n : Int) (w : World) :
    Calls Tryd.prog 58 #[.int .i64 n] w fun e w' => ∃ g, e = .returned (.agg #[.int .i64 ((clampN n : Nat) : Int), .slice (some ⟨g, 0, none⟩) (wcount (clampN n)) (wcount (clampN n))]) ∧
      Fresh w.heap.size w' g (List.replicate (wcount (clampN n)) 0) ∧ Below w.heap.size w w' := by
  have main : ∀ (c k : Nat), c ≤ 1024 → wcount c = k → clampN n = c → (n ≤ 0 ∧ c = 0 ∧ k = 0 ∨ 1024 < n ∧ c = 1024 ∧ k = 16 ∨ n = (c : Int) ∧ 0 < c) →
      Calls Tryd.prog 58 #[.int .i64 n] w fun e w' => ∃ g, e = .returned (.agg #[.int .i64 (c : Int), .slice (some ⟨g, 0, none⟩) k k]) ∧ Fresh w.heap.size w' g (List.replicate k 0) ∧ Below w.heap.size w w' := by
    intro c k hcl hk hc hcase
    have hm := fun W => mk_run k (by have := wcount_le hcl; omega) W
    have hq : ((c : Int) + 63) / 64 = (k : Int) := by rw [← hk]; unfold wcount; omega
    clear hk hc
    rcases hcase with ⟨h0, rfl, rfl⟩ | ⟨h0, rfl, rfl⟩ | ⟨rfl, h00⟩
    · clear hq
      have hr : ∀ W, (Instr.makeSlice 33 (.int .i64 0) (.int .i64 0)).run Tryd.prog W = .ok (.slice (some ⟨W.heap.size, 0, none⟩) 0 0) (W.alloc (.cells (zeros 0) 85)) := fun W => hm W
      clear hm
      go_enter Tryd.func58, Tryd.ntmps58
      go_wp2
      exact bodyPost_ret (v := .agg #[.int .i64 0, .slice (some ⟨w.heap.size + 1, 0, none⟩) 0 0]) (by simp [results, Tryd.results58, go_sem]) rfl ⟨_, rfl, fresh_zeros _ _ _, ((Below.refl _ _).alloc (Nat.le_refl _) _).alloc (by simp) _⟩
    · clear hq
      have hr : ∀ W, (Instr.makeSlice 33 (.int .i64 16) (.int .i64 16)).run Tryd.prog W = .ok (.slice (some ⟨W.heap.size, 0, none⟩) 16 16) (W.alloc (.cells (zeros 16) 85)) := fun W => hm W
      clear hm
      go_enter Tryd.func58, Tryd.ntmps58
      go_wp2
      exact bodyPost_ret (v := .agg #[.int .i64 1024, .slice (some ⟨w.heap.size + 1, 0, none⟩) 16 16]) (by simp [results, Tryd.results58, go_sem]) rfl ⟨_, rfl, fresh_zeros _ _ _, ((Below.refl _ _).alloc (Nat.le_refl _) _).alloc (by simp) _⟩
    · have h0 : (0 : Int) < c := by omega
      have h1 : (c : Int) ≤ 1024 := by omega
      have hr : ∀ W, (Instr.makeSlice 33 (.int .i64 k) (.int .i64 k)).run Tryd.prog W = .ok (.slice (some ⟨W.heap.size, 0, none⟩) k k) (W.alloc (.cells (zeros k) 85)) := fun W => hm W
      clear hm
      go_enter Tryd.func58, Tryd.ntmps58
      go_wp2
      exact bodyPost_ret (v := .agg #[.int .i64 (c : Int), .slice (some ⟨w.heap.size + 1, 0, none⟩) k k]) (by simp [results, Tryd.results58, go_sem]) rfl ⟨_, rfl, fresh_zeros _ _ _, ((Below.refl _ _).alloc (Nat.le_refl _) _).alloc (by simp) _⟩
  have hcl := clampN_le n
  refine main _ _ hcl rfl rfl ?_
  by_cases h0 : n ≤ 0
  · have e : clampN n = 0 := by unfold clampN; split <;> (try split) <;> omega
    rw [e]; exact .inl ⟨h0, rfl, rfl⟩
  · by_cases h1 : 1024 < n
    · have e : clampN n = 1024 := by unfold clampN; split <;> (try split) <;> omega
      rw [e]; exact .inr (.inl ⟨h1, rfl, rfl⟩)
    · have e : clampN n = n.toNat := by unfold clampN; split <;> (try split) <;> omega
      rw [e]; exact .inr (.inr ⟨by omega, by omega⟩)
end Go.Proofs.YtmcbedlmgffckaaDoor.Bi

namespace Go.Proofs.YtmcbedlmgffckaaDoor.Bi
open Go Go.RowKit Go.Sort

theorem shl_word (k : Nat) (hk : k < 64) : IntKind.u64.wrap (1 * 2 ^ k) = ((2 ^ k : Nat) : Int) := by
  rw [Int.one_mul]; exact wrap_pow k hk

theorem grownBy_put2 {w W : World} {r : Option Nat} (h : w.grownBy W r) {b : Nat} (hb : w.heap.size ≤ b) (x y : Value) : w.grownBy ((W.setCell ⟨b, 0, none⟩ x).setCell ⟨b, 1, none⟩ y) r :=
  ⟨h.os, h.tape, h.output, by have := h.size; simpa [World.setCell] using this, fun k hk hne => (heap_put2 W b k x y (by omega)).trans (h.block k hk hne)⟩

theorem Box.setOther {W : World} {b : Nat} {x y : Value} (h : Box W b x y) {p : Addr} (hne : b ≠ p.block) (v : Value) : Box (W.setCell p v) b x y := by
  have e := Below.heap_setCell W p v b hne
  exact ⟨(World.cell?_of_block (w := W) e).trans h.c0, (World.cell?_of_block (w := W) e).trans h.c1, (World.frozen?_of_block (w := W) e).trans h.f0, (World.frozen?_of_block (w := W) e).trans h.f1⟩

set_option maxRecDepth 100000 in
set_option maxHeartbeats 1000000 in
/-- put, of the document's answer. -/
theorem put_ref (n0 n g cap : Nat) (ws : List Nat) (j : Nat) (w : World) (hF : Fresh n0 w g ws) (hn : n ≤ 1024) (hl : ws.length = wcount n) (hB : WB ws) (hjn : j < n) :
    Calls Tryd.prog 95 #[.agg #[.int .i64 (n : Int), .slice (some ⟨g, 0, none⟩) ws.length cap], .int .i64 (j : Int)] w fun e w' => e = .returned (.agg #[.int .i64 (n : Int), .slice (some ⟨g, 0, none⟩) ws.length cap]) ∧ Fresh n0 w' g (putW n ws j) ∧ w.grownBy w' (some g) := by
  obtain ⟨L, hL⟩ : ∃ L, ws.length = L := ⟨_, rfl⟩
  rw [hL]
  have hW1 : Below w.heap.size w ((w.alloc (.cells #[.int .i64 (n : Int), .slice (some ⟨g, 0, none⟩) L cap] 35)).alloc (.cells #[.int .i64 0, .slice none 0 0] 35)) := ((Below.refl _ _).alloc (Nat.le_refl _) _).alloc (by simp) _
  have BX := (Box.new w (.int .i64 (n : Int)) (.slice (some ⟨g, 0, none⟩) L cap) 35).alloc (.cells #[.int .i64 0, .slice none 0 0] 35)
  have BR := Box.new (w.alloc (.cells #[.int .i64 (n : Int), .slice (some ⟨g, 0, none⟩) L cap] 35)) (.int .i64 0) (.slice none 0 0) 35
  simp only [World.size_alloc] at BR
  generalize hW : (w.alloc (.cells #[.int .i64 (n : Int), .slice (some ⟨g, 0, none⟩) L cap] 35)).alloc (.cells #[.int .i64 0, .slice none 0 0] 35) = W1 at *
  have hq : j / 64 < L := by rw [← hL, hl]; unfold wcount; omega
  have hres : putW n ws j = ws.set (j / 64) ((ws[j / 64]?.getD 0) ||| 2 ^ (j % 64)) := by simp [putW, hjn]
  rw [hres]
  have hx := hB.at (j / 64)
  have hcell := hF.cellAt (j := j / 64) (by rw [hL]; exact hq)
  have hfr := hF.frozenAt (j / 64)
  have hg := hF.lt
  obtain ⟨x, hxx⟩ : ∃ x, ws[j / 64]?.getD 0 = x := ⟨_, rfl⟩
  rw [hxx] at hcell hx ⊢
  have hor := or_word x (j % 64) hx (Nat.mod_lt _ (by decide))
  have hsh := shl_word (j % 64) (Nat.mod_lt _ (by decide))
  have hsh' := wrap_pow (j % 64) (Nat.mod_lt _ (by decide))
  obtain ⟨D, hD⟩ : ∃ D : Nat, 2 ^ (j % 64) = D := ⟨_, rfl⟩
  rw [hD] at hor hsh hsh' ⊢
  obtain ⟨z, hz⟩ : ∃ z, x ||| D = z := ⟨_, rfl⟩
  rw [hz] at hor ⊢
  have HV : Hid (bits .or .u64 (x : Int) (IntKind.u64.wrap (2 ^ min (IntKind.u64.wrap ((j : Int).tmod 64)).toNat 64)) = (z : Int)) := by
    have e1 : (j : Int).tmod 64 = ((j % 64 : Nat) : Int) := by rw [Int.tmod_eq_emod_of_nonneg (by omega)]; omega
    have e2 : IntKind.u64.wrap ((j % 64 : Nat) : Int) = ((j % 64 : Nat) : Int) := by rw [IntKind.wrap_u64]; omega
    have e3 : min (j % 64) 64 = j % 64 := by omega
    show _ = _
    rw [e1, e2, Int.toNat_natCast, e3, hsh', hor]
  have HF := Lib.hid hF
  have HW1 := Lib.hid hW1
  have g1 : (0 : Int) ≤ (j : Int) / 64 := by omega
  have g2 : (j : Int) / 64 < (L : Int) := by omega
  have g3 : ((j : Int) / 64).toNat = j / 64 := by omega
  have g4 : (0 : Int) ≤ (j : Int) := by omega
  have g5 : (j : Int) < 1024 := by omega
  have hLl : L ≤ 16 := by rw [← hL, hl]; exact wcount_le hn
  have hc1 := (HW1.out.cell (p := ⟨g, j / 64, none⟩) hg).trans hcell
  have hf1 := (HW1.out.frozen (p := ⟨g, j / 64, none⟩) hg).trans hfr
  obtain ⟨x0, x1, _, _⟩ := id BX
  have HBX := Lib.hid BX
  have HBR := Lib.hid BR
  have HG := Lib.hid hg
  have q1 : IntKind.i64.wrap ((j : Int) / 64) = (j : Int) / 64 := by rw [IntKind.wrap_i64]; omega
  clear hF hL hl hB hres hxx hD hz hjn hq hx hn BX BR hcell hfr hg hor hsh hsh'
  go_enter Tryd.func95, Tryd.ntmps95
  go_wp2_with fail
  clear hW hW1
  go_region_with (fail)
  all_goals
    rw [HV.out]
    have BX3 := (HBX.out.setOther (p := ⟨g, j / 64, none⟩) (Nat.ne_of_gt HG.out) (.int .u64 (z : Int))).drew
    have BR3 := (HBR.out.setOther (p := ⟨g, j / 64, none⟩) (by have := HG.out; show w.heap.size + 1 ≠ g; omega) (.int .u64 (z : Int))).drew
    have F3 : Fresh n0 (W1.setCell ⟨g, j / 64, none⟩ (.int .u64 (z : Int))).drew g (ws.set (j / 64) z) := (HF.out.below HW1.out HG.out).set _ _
    have G3 := grownBy_set HW1.out g (j / 64) (.int .u64 (z : Int))
    generalize (W1.setCell ⟨g, j / 64, none⟩ (.int .u64 (z : Int))).drew = W3 at *
    have HF3 := Lib.hid F3
    have HG3 := Lib.hid G3
    clear HBX HBR hc1 hf1 x0 x1 F3 G3
    obtain ⟨x0, x1, _, _⟩ := BX3
    obtain ⟨y0, y1, r0, r1⟩ := BR3
    go_wp2_with fail
    exact bodyPost_ret (v := .agg #[.int .i64 (n : Int), .slice (some ⟨g, 0, none⟩) L cap]) (by simp [results, Tryd.results95, go_sem, y0, y1]) rfl
      ⟨rfl, HF3.out.block (heap_put2 _ _ _ _ _ (by have := HG.out; omega)), grownBy_put2 HG3.out (by omega) _ _⟩
end Go.Proofs.YtmcbedlmgffckaaDoor.Bi

namespace Go.Proofs.YtmcbedlmgffckaaDoor.Bi
open Go Go.RowKit Go.Sort

set_option maxRecDepth 100000 in
set_option maxHeartbeats 2000000 in
/-- Of, of the document's answer. -/
theorem Of_ref (n : Int) (a : Option Addr) (l : List Int) (cap : Nat) (w : World) (hIs : Is w.heap.size w a l) (hl : l.length ≤ 2000) :
    Calls Tryd.prog 61 #[.int .i64 n, .slice a l.length cap] w fun e w' => ∃ g, e = .returned (.agg #[.int .i64 (clampN n : Nat), .slice (some ⟨g, 0, none⟩) (wcount (clampN n)) (wcount (clampN n))]) ∧
      Fresh w.heap.size w' g (ofW (clampN n) l) ∧ Below w.heap.size w w' := by
  have hW1 : Below w.heap.size w (w.alloc (.cells #[.int .i64 0, .slice none 0 0] 35)) := (Below.refl _ _).alloc (Nat.le_refl _) _
  have BR := Box.new w (.int .i64 0) (.slice none 0 0) 35
  have hs1 : (w.alloc (.cells #[.int .i64 0, .slice none 0 0] 35)).heap.size = w.heap.size + 1 := by simp
  generalize hW : w.alloc (.cells #[.int .i64 0, .slice none 0 0] 35) = W1 at *
  have HN := Lib.hid (New_ref n W1)
  have hcl := clampN_le n
  generalize clampN n = c at *
  obtain ⟨k, hk⟩ : ∃ k, wcount c = k := ⟨_, rfl⟩
  rw [hk] at HN ⊢
  have HK := Lib.hid hk
  have HIs := Lib.hid hIs
  obtain ⟨L, hL⟩ : ∃ L, l.length = L := ⟨_, rfl⟩
  rw [hL] at hl ⊢
  have HL := Lib.hid hL
  have HW1 := Lib.hid hW1
  clear hIs hL hk hW1
  go_enter Tryd.func61, Tryd.ntmps61
  go_wp2_with fail
  refine HN.out.mono ?_
  clear HN
  rintro e w1 ⟨g, rfl, hF, hb⟩
  have BR1 := BR.below hb BR.lt
  have hgl := hF.lt
  have hg1 := hF.1
  have HF := Lib.hid hF
  have HB := Lib.hid hb
  clear hF hb hW BR
  go_wp2_with fail
  have hb1 : Below w.heap.size w w1 := HW1.out.trans (HB.out.mono HW1.out.size)
  have BX := Box.new w1 (.int .i64 (c : Int)) (.slice (some ⟨g, 0, none⟩) k k) 35
  have BR2 := BR1.alloc (.cells #[.int .i64 (c : Int), .slice (some ⟨g, 0, none⟩) k k] 35)
  have hb2 := hb1.alloc hb1.size (.cells #[.int .i64 (c : Int), .slice (some ⟨g, 0, none⟩) k k] 35)
  have hF2 : Fresh w.heap.size (w1.alloc (.cells #[.int .i64 (c : Int), .slice (some ⟨g, 0, none⟩) k k] 35)) g (ofW c []) := by
    have h1 := HF.out.below ((Below.refl w1.heap.size w1).alloc (Nat.le_refl _) (.cells #[.int .i64 (c : Int), .slice (some ⟨g, 0, none⟩) k k] 35)) hgl
    have e : ofW c [] = List.replicate k 0 := by simp [ofW, HK.out]
    rw [e]
    exact h1.base (by omega)
  obtain ⟨b5, hb5⟩ : ∃ b5, w1.heap.size = b5 := ⟨_, rfl⟩
  rw [hb5] at BX ⊢
  rw [hb5] at hgl
  have HB5 := Lib.hid hb5
  clear hb5 BR1 hb1
  generalize w1.alloc (.cells #[.int .i64 (c : Int), .slice (some ⟨g, 0, none⟩) k k] 35) = W2 at *
  go_loopw [6] (fun i wr => ∃ q : Nat, q ≤ L ∧ i = .int .i64 q ∧ Hid (Fresh w.heap.size wr g (ofW c (l.take q))) ∧ Hid (Box wr b5 (.int .i64 (c : Int)) (.slice (some ⟨g, 0, none⟩) k k)) ∧ Hid (Box wr w.heap.size (.int .i64 0) (.slice none 0 0)) ∧ Hid (Below w.heap.size w wr)) (fun i _ => L - (intOf i).toNat)
  case atStart => exact ⟨0, Nat.zero_le _, rfl, hF2, BX, BR2, hb2⟩
  case round =>
    clear hF2 BX BR2 hb2
    obtain ⟨q, hq, rfl, hF, hBX, hBR, hB⟩ := hrel
    by_cases hlt : q < L
    · obtain ⟨b, o, rfl, hbl, hcell⟩ := HIs.out q (by rw [HL.out]; exact hlt)
      have hcx := (hB.out.cell (p := ⟨b, o + q, none⟩) hbl).trans hcell
      obtain ⟨x, hx⟩ : ∃ x, l[q]?.getD 0 = x := ⟨_, rfl⟩
      rw [hx] at hcx
      have HX : Hid (l.take (q + 1) = l.take q ++ [x]) := by
        have hi : q < l.length := by rw [HL.out]; exact hlt
        have e : l.take (q + 1) = l.take q ++ [l[q]] := List.take_succ_eq_append_getElem hi
        rw [Hid, e, ← hx]
        simp [hi]
      have hlw : (ofW c (l.take q)).length = k := by rw [ofW_length]; exact HK.out
      obtain ⟨x0, x1, _, _⟩ := hBX.out
      have hqi : (q : Int) < (L : Int) := by omega
      have kc := hcx
      by_cases hin : 0 ≤ x ∧ x < (c : Int)
      · obtain ⟨j, rfl⟩ := Int.eq_ofNat_of_zero_le hin.1
        have d0 : decide (0 ≤ (j : Int)) = true := by simp
        have d1 : decide ((j : Int) < (c : Int)) = true := by simp; omega
        have hjc : j < c := by omega
        have HLW := Lib.hid hlw
        have HJC := Lib.hid hjc
        clear hcell hx hlw hjc
        go_wp2_with fail
        go_quiet (fail)
        go_wp2_with fail
        clear x0 x1 kc
        have hd := below_drewN (Below.refl wr.heap.size wr) nq
        have hF2 := hF.out.below hd hF.out.lt
        have BX2 := hBX.out.below hd hBX.out.lt
        have BR2 := hBR.out.below hd hBR.out.lt
        have hB2 := hB.out.trans (hd.mono hB.out.size)
        have hc2 := (hd.cell (p := ⟨b, o + q, none⟩) (Nat.lt_of_lt_of_le hbl hB.out.size)).trans hcx
        clear hcx hd
        generalize wr.drewN nq = wq at *
        have HP := Lib.hid (put_ref w.heap.size c g k (ofW c (l.take q)) j wq.drew (hF2.below (Below.refl _ wq).drew hF2.lt) hcl (ofW_length _ _) (ofW_wb _ _) HJC.out)
        rw [HLW.out] at HP
        have HG1 := Lib.hid hF2.1
        have HBX := Lib.hid BX2.drew
        have HBR := Lib.hid BR2.drew
        have HB2 := Lib.hid hB2.drew
        obtain ⟨x0, x1, _, _⟩ := BX2
        clear hF2 BR2 hB2 hF hBX hBR hB
        go_region_with (go_at_call 95; refine HP.out.mono ?_; clear HP x0 x1 hc2; rintro e w3 ⟨rfl, hF3, hg3⟩; have hBX3 := HBX.out.grown hg3 (by simp; omega); have H4 := Lib.hid hBX3; have H5 := Lib.hid (HBR.out.grown hg3 (by simp; have := HG1.out; omega)); have H6 := Lib.hid (Below.grownBy HB2.out hg3 HB2.out.size HG1.out); have H3 := Lib.hid hF3; obtain ⟨y0, y1, y2, y3⟩ := hBX3; clear hF3 hg3)
        all_goals
          have B7 := Lib.hid (H4.out.put (.int .i64 (c : Int)) (.slice (some ⟨g, 0, none⟩) k k))
          have R7 := Lib.hid (H5.out.other (b' := b5) (by omega) (.int .i64 (c : Int)) (.slice (some ⟨g, 0, none⟩) k k))
          have F7 := Lib.hid (H3.out.block (heap_put2 w3 b5 g (.int .i64 (c : Int)) (.slice (some ⟨g, 0, none⟩) k k) (by omega)))
          have W7 := Lib.hid (below_put2 H6.out (b := b5) (by omega) (.int .i64 (c : Int)) (.slice (some ⟨g, 0, none⟩) k k))
          go_wp2
          go_roundw
          case rel => exact ⟨q + 1, by omega, by go_num, by rw [HX.out, ofW_snoc]; exact F7, B7, R7, W7⟩
          case measure => simp [intOf]; omega
      · have HPW : Hid (putW c (ofW c (l.take q)) x = ofW c (l.take q)) := by show _ = _; simp [putW, hin]
        have hd := fun nq => below_drewN (Below.refl wr.heap.size wr) nq
        have HD := Lib.hid hd
        clear hcell hx hlw hd
        by_cases hx0 : 0 ≤ x
        · have d0 : decide (0 ≤ x) = true := by simpa using hx0
          have d1 : decide (x < (c : Int)) = false := by simp; omega
          go_wp2_with fail
          go_quiet (fail)
          go_wp2_with fail
          go_roundw
          case rel => exact ⟨q + 1, by omega, by go_num, by rw [HX.out, ofW_snoc, HPW.out]; exact hF.out.below (HD.out _) hF.out.lt, hBX.out.below (HD.out _) hBX.out.lt, hBR.out.below (HD.out _) hBR.out.lt, hB.out.trans ((HD.out _).mono hB.out.size)⟩
          case measure => simp [intOf]; omega
        · have d0 : decide (0 ≤ x) = false := by simpa using hx0
          go_wp2_with fail
          go_quiet (fail)
          go_wp2_with fail
          go_roundw
          case rel => exact ⟨q + 1, by omega, by go_num, by rw [HX.out, ofW_snoc, HPW.out]; exact hF.out.below (HD.out _) hF.out.lt, hBX.out.below (HD.out _) hBX.out.lt, hBR.out.below (HD.out _) hBR.out.lt, hB.out.trans ((HD.out _).mono hB.out.size)⟩
          case measure => simp [intOf]; omega
    · obtain rfl : q = L := by omega
      have hF' := hF.out
      rw [List.take_of_length_le (by rw [HL.out]; exact Nat.le_refl _)] at hF'
      have HF' := Lib.hid hF'
      obtain ⟨x0, x1, _, _⟩ := hBX.out
      obtain ⟨y0, y1, f0, f1⟩ := hBR.out
      clear hF hF'
      go_wp2
      have hput := below_put2 hB.out (b := w.heap.size) (Nat.le_refl _) (.int .i64 (c : Int)) (.slice (some ⟨g, 0, none⟩) k k)
      refine bodyPost_ret (v := .agg #[.int .i64 (c : Int), .slice (some ⟨g, 0, none⟩) k k]) (by simp [results, Tryd.results61, go_sem, y0, y1]) rfl ⟨g, rfl, HF'.out.block (heap_put2 _ _ _ _ _ (by omega)), hput⟩
end Go.Proofs.YtmcbedlmgffckaaDoor.Bi

namespace Go.Proofs.YtmcbedlmgffckaaDoor.Bi
open Go Go.RowKit Go.Sort

set_option maxRecDepth 100000 in
set_option maxHeartbeats 2000000 in
/-- Equal, of the document's answer: the same, word by word. -/
theorem Equal_ref (n1 n2 : Int) (a1 a2 : Option Addr) (w1 w2 : List Nat) (c1 c2 : Nat) (w : World) (h1 : Wd w.heap.size w a1 w1) (h2 : Wd w.heap.size w a2 w2) (hl1 : w1.length ≤ 30) :
    Calls Tryd.prog 21 #[.agg #[.int .i64 n1, .slice a1 w1.length c1], .agg #[.int .i64 n2, .slice a2 w2.length c2]] w fun e w' => e = .returned (.bool (decide (n1 = n2 ∧ w1 = w2))) ∧ Below w.heap.size w w' := by
  obtain ⟨L, hL⟩ : ∃ L, w1.length = L := ⟨_, rfl⟩
  obtain ⟨M, hM⟩ : ∃ M, w2.length = M := ⟨_, rfl⟩
  rw [hL, hM]
  have hW1 : Below w.heap.size w ((w.alloc (.cells #[.int .i64 n1, .slice a1 L c1] 35)).alloc (.cells #[.int .i64 n2, .slice a2 M c2] 35)) := ((Below.refl _ _).alloc (Nat.le_refl _) _).alloc (by simp) _
  have BX := (Box.new w (.int .i64 n1) (.slice a1 L c1) 35).alloc (.cells #[.int .i64 n2, .slice a2 M c2] 35)
  have BY := Box.new (w.alloc (.cells #[.int .i64 n1, .slice a1 L c1] 35)) (.int .i64 n2) (.slice a2 M c2) 35
  simp only [World.size_alloc] at BY
  generalize hW : (w.alloc (.cells #[.int .i64 n1, .slice a1 L c1] 35)).alloc (.cells #[.int .i64 n2, .slice a2 M c2] 35) = W1 at *
  obtain ⟨x0, x1, -, -⟩ := id BX
  obtain ⟨y0, y1, -, -⟩ := id BY
  have HBX := Lib.hid BX
  have HBY := Lib.hid BY
  have HW1 := Lib.hid hW1
  clear BX BY hW1
  by_cases hn : n1 = n2
  · have hbn : (n1 != n2) = false := by simp [hn]
    have HE : Hid (decide (n1 = n2 ∧ w1 = w2) = decide (w1 = w2)) := by show _ = _; simp [hn]
    clear hn
    by_cases hl : L = M
    · subst hl
      have hb0 : ((L : Int) != (L : Int)) = false := by simp
      have H1 := Lib.hid h1
      have H2 := Lib.hid h2
      rw [hL] at hl1
      have HL := Lib.hid hL
      have HL2 := Lib.hid hM
      rw [HE.out]
      clear h1 h2 hL hM HE
      go_enter Tryd.func21, Tryd.ntmps21
      go_wp2
      clear x0 x1 y0 y1 hW
      go_loopw [5] (fun i wr => ∃ k : Nat, k ≤ L ∧ i = .int .i64 k ∧ Hid (w1.take k = w2.take k) ∧ Hid (Below W1.heap.size W1 wr)) (fun i _ => L - (intOf i).toNat)
      case atStart => exact ⟨0, Nat.zero_le _, rfl, Lib.hid rfl, Below.refl _ _⟩
      case round =>
        obtain ⟨k, hk, rfl, hpre, hnx⟩ := hrel
        obtain ⟨x0, x1, -, -⟩ := HBX.out.below hnx.out HBX.out.lt
        obtain ⟨y0, y1, -, -⟩ := HBY.out.below hnx.out HBY.out.lt
        have HB := Lib.hid (HW1.out.trans (hnx.out.mono HW1.out.size))
        by_cases hlt : k < L
        · obtain ⟨b1, o1, rfl, hb1, e1⟩ := H1.out k (by rw [HL.out]; exact hlt)
          obtain ⟨b2, o2, rfl, hb2, e2⟩ := H2.out k (by rw [HL2.out]; exact hlt)
          have g1 := (HB.out.cell (p := ⟨b1, o1 + k, none⟩) hb1).trans e1
          have g2 := (HB.out.cell (p := ⟨b2, o2 + k, none⟩) hb2).trans e2
          obtain ⟨x, hx⟩ : ∃ x, w1[k]?.getD 0 = x := ⟨_, rfl⟩
          obtain ⟨y, hy⟩ : ∃ y, w2[k]?.getD 0 = y := ⟨_, rfl⟩
          rw [hx] at g1
          rw [hy] at g2
          have HX := Lib.hid hx
          have HY := Lib.hid hy
          have hki : (k : Int) < (L : Int) := by omega
          clear e1 e2 hx hy
          by_cases hxy : x = y
          · subst hxy
            have hbb : ((x : Int) != (x : Int)) = false := by simp
            go_wp2
            go_quiet (fail)
            go_wp2
            go_roundw
            case rel =>
              refine ⟨k + 1, by omega, by go_num, ?_, below_drewN hnx.out _⟩
              have i1 : k < w1.length := by rw [HL.out]; exact hlt
              have i2 : k < w2.length := by rw [HL2.out]; exact hlt
              have e1 := HX.out
              have e2 := HY.out
              simp only [i1, i2, List.getElem?_eq_getElem, Option.getD_some] at e1 e2
              show w1.take (k + 1) = w2.take (k + 1)
              rw [List.take_succ_eq_append_getElem i1, List.take_succ_eq_append_getElem i2, hpre.out, e1, e2]
            case measure => simp [intOf]; omega
          · have hbb : ((x : Int) != (y : Int)) = true := by rw [bne_iff_ne]; omega
            have HXY := Lib.hid hxy
            clear hxy
            go_wp2
            go_quiet (fail)
            go_wp2
            go_ret
            refine ⟨ret_bool ?_, below_drewN HB.out _⟩
            rw [eq_comm, decide_eq_false_iff_not]
            intro he
            apply HXY.out
            rw [← HX.out, ← HY.out, he]
        · obtain rfl : k = L := by omega
          go_wp2
          go_ret
          refine ⟨ret_bool ?_, HB.out⟩
          have := hpre.out
          rw [List.take_of_length_le (by rw [HL.out]; exact Nat.le_refl _), List.take_of_length_le (by rw [HL2.out]; exact Nat.le_refl _)] at this
          simp [this]
    · have hb0 : ((L : Int) != (M : Int)) = true := by rw [bne_iff_ne]; omega
      have hd : decide (n1 = n2 ∧ w1 = w2) = false := by
        rw [decide_eq_false_iff_not]
        intro h
        apply hl
        rw [← hL, ← hM, h.2]
      rw [hd]
      clear h1 h2 hl hd hL hM
      go_enter Tryd.func21, Tryd.ntmps21
      go_wp2
      go_ret
      exact ⟨rfl, HW1.out⟩
  · have hbn : (n1 != n2) = true := by simpa using hn
    have hd : decide (n1 = n2 ∧ w1 = w2) = false := by simp [hn]
    rw [hd]
    clear h1 h2 hd hL hM hn
    go_enter Tryd.func21, Tryd.ntmps21
    go_wp2
    go_ret
    exact ⟨rfl, HW1.out⟩
end Go.Proofs.YtmcbedlmgffckaaDoor.Bi

namespace Go.Proofs.YtmcbedlmgffckaaDoor.Bi
open Go Go.RowKit Go.Sort

theorem range_cut {n : Nat} {ws : List Nat} (h : Ok n ws) {M : Nat} (hM : n ≤ M) : (List.range M).filter (fun i => bitAt ws i) = (List.range n).filter (fun i => bitAt ws i) := by
  have e : List.range M = List.range n ++ (List.range (M - n)).map (n + ·) := by
    rw [← List.range_add]; congr 1; omega
  rw [e, List.filter_append]
  have f : ((List.range (M - n)).map (n + ·)).filter (fun i => bitAt ws i) = [] := by
    rw [List.filter_eq_nil_iff]
    intro i hi
    obtain ⟨j, _, rfl⟩ := List.mem_map.1 hi
    rw [h.clear (by omega)]
    simp
  rw [f, List.append_nil]

theorem nums_upto {n : Nat} {ws : List Nat} (h : Ok n ws) : nums ws = (List.range n).filter (fun i => bitAt ws i) := by
  rw [nums_eq, range_cut h (by rw [h.len]; unfold wcount; omega)]

theorem owns_base {W : World} {b b' : Nat} {e : TypeId} {size n : Nat} {v : Value} {xs : List Value} (h : W.ownsRow b e size v n xs) (hb : b' ≤ b) : W.ownsRow b' e size v n xs :=
  ⟨h.1, h.2.imp id fun ⟨g, cap, cur, a, hg, r⟩ => ⟨g, cap, cur, a, Nat.le_trans hb hg, r⟩⟩

theorem owns_grown {w0 W W' : World} {b : Nat} {e : TypeId} {size n : Nat} {v : Value} {xs : List Value} (hB : Below b w0 W) (h : W.ownsRow b e size v n xs) (hg : W.grownBy W' v.ownBlock) (hb : b ≤ W.heap.size) : Below b w0 W' :=
  hB.grown hg hb (fun k e => (h.lt k e).1)

/-- The numbers below q that are told. -/
def told (p : Nat → Bool) (q : Nat) : List Nat := (List.range q).filter p
theorem told_succ (p : Nat → Bool) (q : Nat) : told p (q + 1) = told p q ++ (if p q then [q] else []) := by
  unfold told
  rw [List.range_succ, List.filter_append]
  congr 1
  cases h : p q <;> simp [h]
theorem told_le (p : Nat → Bool) (q : Nat) : (told p q).length ≤ q := by
  unfold told
  have := List.length_filter_le p (List.range q)
  simpa using this

set_option maxRecDepth 100000 in
set_option maxHeartbeats 2000000 in
/-- List, of the document's answer. -/
theorem List_ref (n : Int) (a : Option Addr) (ws : List Nat) (cap : Nat) (w : World) (hWd : Wd w.heap.size w a ws) (hB : WB ws) (hl : ws.length ≤ 30) :
    Calls Tryd.prog 93 #[.agg #[.int .i64 n, .slice a ws.length cap]] w fun e w' => ∃ u, e = .returned u ∧ w'.ownsRow w.heap.size 3 1 u (nums (nrmW n ws)).length ((nums (nrmW n ws)).map encI) ∧ Below w.heap.size w w' := by
  have hW1 : Below w.heap.size w (w.alloc (.cells #[.int .i64 n, .slice a ws.length cap] 35)) := (Below.refl _ _).alloc (Nat.le_refl _) _
  have B1 := Box.new w (.int .i64 n) (.slice a ws.length cap) 35
  have HS := Lib.hid (size_ref n a ws cap _ ((hWd.below hW1).mono hW1.size) hB hl)
  have hok := nrm_ok (n := n) hB
  have hsame : 0 < nrm n ws → nrmW n ws = ws := by unfold nrm nrmW; split <;> simp
  have hnl : 0 < nrm n ws → nrm n ws ≤ 64 * ws.length := by
    intro h
    have e1 := hok.len
    rw [hsame h] at e1
    rw [e1]; unfold wcount; omega
  have cB : Hid (∀ (W : World) (j : Nat), Wd w.heap.size W a ws → j < nrm n ws → Calls Tryd.prog 135 #[.slice a ws.length cap, .int .i64 (j : Int)] W fun e w' => e = .returned (.bool (bitAt (nrmW n ws) j)) ∧ w' = W) := fun W j hw hj => by
    have h0 : 0 < nrm n ws := by omega
    rw [hsame h0]
    exact bit_ref a ws cap j W hw hB hl (by have := hnl h0; omega)
  obtain ⟨L, hL⟩ : ∃ L, ws.length = L := ⟨_, rfl⟩
  rw [hL] at hW1 B1 HS cB ⊢
  generalize nrm n ws = N at *
  generalize nrmW n ws = us at *
  have hN := hok.le
  rw [nums_upto hok]
  change Calls Tryd.prog 93 _ w fun e w' => ∃ u, e = .returned u ∧ w'.ownsRow w.heap.size 3 1 u (told (fun i => bitAt us i) N).length ((told (fun i => bitAt us i) N).map encI) ∧ Below w.heap.size w w'
  obtain ⟨p, hp⟩ : ∃ p, (fun i => bitAt us i) = p := ⟨_, rfl⟩
  rw [hp]
  have cP : Hid (∀ (W : World) (j : Nat), Wd w.heap.size W a ws → j < N → Calls Tryd.prog 135 #[.slice a L cap, .int .i64 (j : Int)] W fun e w' => e = .returned (.bool (p j)) ∧ w' = W) := by
    rw [← hp]; exact cB
  have HWd := Lib.hid hWd
  clear hp cB hok hsame hnl hL hWd hB hl
  obtain ⟨i0, hi, hz0, hz1, hz2⟩ := info_parts Tryd_info3
  generalize hW : w.alloc (.cells #[.int .i64 n, .slice a L cap] 35) = W1 at *
  have HW1 := Lib.hid hW1
  have HB1 := Lib.hid B1
  obtain ⟨c0, c1, -, -⟩ := B1
  clear hW1
  go_enter Tryd.func93, Tryd.ntmps93
  go_wp2_with fail
  refine HS.out.mono ?_
  clear HS c0 c1 hW
  rintro e w1 ⟨rfl, hb⟩
  have HB2 := Lib.hid (HB1.out.below hb HB1.out.lt)
  have HW2 := Lib.hid (HW1.out.trans (hb.mono HW1.out.size))
  clear HB1 HW1 hb
  go_wp2_with fail
  go_loopw [3, 5] (fun v i wr => ∃ q : Nat, q ≤ N ∧ i = .int .i64 q ∧ Hid (wr.ownsRow w1.heap.size 3 1 v (told p q).length ((told p q).map encI)) ∧ Hid (Below w1.heap.size w1 wr)) (fun _ i _ => N - (intOf i).toNat)
  case atStart => exact ⟨0, Nat.zero_le _, rfl, World.ownsRow_nil _ _ _ _, Below.refl _ _⟩
  case round =>
    obtain ⟨q, hq, rfl, hown, hBw⟩ := hrel
    obtain ⟨x0, x1, -, -⟩ := HB2.out.below hBw.out HB2.out.lt
    by_cases hlt : q < N
    · have hqi : (q : Int) < (N : Int) := by omega
      have cj := Lib.hid (cP.out wr q (HWd.out.below (HW2.out.trans (hBw.out.mono HW2.out.size))) hlt)
      have hts := told_succ p q
      have htl := told_le p q
      obtain ⟨pq, hpq⟩ : ∃ pq, p q = pq := ⟨_, rfl⟩
      rw [hpq] at cj hts
      have HTS := Lib.hid hts
      clear hpq hts
      cases pq with
      | true =>
        have h63 : (told p q).length + 1 ≤ maxLen := by unfold maxLen; omega
        have hby : ((told p q).length + 1) * 8 ≤ 140737488355328 := by omega
        go_wp2_with (first
          | (go_at_call 135; refine cj.out.mono ?_; rintro e w3 ⟨rfl, rfl⟩)
          | (at_builtin; refine wpList_append_own _ rfl _ _ 29 rfl w1.heap.size 3 i0 (.int .i64 0) 1 8 Tryd.underlying29 hi hz0 hz1 hz2 rfl (by decide) _ _ _ rfl (hown.out.alloc _) ⟨_, 0, none⟩ 1 1 [.int .i64 (q : Int)] rfl rfl (cell_one_new _ _ _) (by simp [Value.oneCell']) h63 hby (by have := hBw.out.size; simp; omega) ?_; intro v' w4 hown' hgrow _; have HO := Lib.hid hown'; have HG := Lib.hid hgrow; clear hown' hgrow))
        go_roundw
        case rel =>
          have e : told p (q + 1) = told p q ++ [q] := HTS.out
          refine ⟨q + 1, by omega, by go_num, ?_, ?_⟩
          · show w4.ownsRow _ 3 1 _ (told p (q + 1)).length ((told p (q + 1)).map encI)
            rw [e]
            simpa [encI] using HO.out
          · exact owns_grown (hBw.out.alloc hBw.out.size _) (hown.out.alloc _) HG.out (by have := hBw.out.size; simp; omega)
        case measure => simp [intOf]; omega
      | false =>
        go_wp2_with (go_at_call 135; refine cj.out.mono ?_; rintro e w3 ⟨rfl, rfl⟩)
        go_roundw
        case rel =>
          have e : told p (q + 1) = told p q ++ [] := HTS.out
          rw [List.append_nil] at e
          exact ⟨q + 1, by omega, by go_num, by rw [e]; exact hown, hBw⟩
        case measure => simp [intOf]; omega
    · obtain rfl : q = N := by omega
      go_wp2
      go_ret
      exact ⟨_, rfl, owns_base hown.out HW2.out.size, HW2.out.trans (hBw.out.mono HW2.out.size)⟩
end Go.Proofs.YtmcbedlmgffckaaDoor.Bi

namespace Go.Proofs.YtmcbedlmgffckaaDoor.Bi
open Go Go.RowKit Go.Sort

theorem sane_facts (n : Int) (ws : List Nat) (hB : WB ws) : (0 < nrm n ws → nrmW n ws = ws) ∧ (0 < nrm n ws → nrm n ws ≤ 64 * ws.length) := by
  have hok := nrm_ok (n := n) hB
  have hsame : 0 < nrm n ws → nrmW n ws = ws := by unfold nrm nrmW; split <;> simp
  refine ⟨hsame, fun h => ?_⟩
  have e1 := hok.len
  rw [hsame h] at e1
  rw [e1]; unfold wcount; omega

theorem bit_nrm {B : Nat} (n : Int) (a : Option Addr) (ws : List Nat) (cap : Nat) (W : World) (j : Nat) (hw : Wd B W a ws) (hB : WB ws) (hl : ws.length ≤ 30) (hj : j < nrm n ws) :
    Calls Tryd.prog 135 #[.slice a ws.length cap, .int .i64 (j : Int)] W fun e w' => e = .returned (.bool (bitAt (nrmW n ws) j)) ∧ w' = W := by
  have h0 : 0 < nrm n ws := by omega
  obtain ⟨e, hle⟩ := sane_facts n ws hB
  rw [e h0]
  exact bit_ref a ws cap j W hw hB hl (by have := hle h0; omega)


set_option maxRecDepth 100000 in
set_option maxHeartbeats 4000000 in
theorem pick0_ref (n1 : Int) (a1 : Option Addr) (ws1 : List Nat) (cap1 : Nat) (n2 : Int) (a2 : Option Addr) (ws2 : List Nat) (cap2 : Nat) (w : World) (hWd1 : Wd w.heap.size w a1 ws1) (hWB1 : WB ws1) (hl1 : ws1.length ≤ 30) (hWd2 : Wd w.heap.size w a2 ws2) (hWB2 : WB ws2) (hl2 : ws2.length ≤ 30)
    (k m : Nat) (us vs : List Nat) (hk : nrm n1 ws1 = k) (hm : nrm n2 ws2 = m) (hus : nrmW n1 ws1 = us) (hvs : nrmW n2 ws2 = vs) (N K : Nat) (hN : max k m = N) (hK : wcount N = K) (p : Nat → Bool) (hp : ∀ i, p i = (fun x y => x || y) (bitAt us i) (bitAt vs i)) :
    Calls Tryd.prog 92 #[.agg #[.int .i64 n1, .slice a1 ws1.length cap1], .agg #[.int .i64 n2, .slice a2 ws2.length cap2], .int .i64 0] w fun e w' =>
      ∃ g, e = .returned (.agg #[.int .i64 (N : Int), .slice (some ⟨g, 0, none⟩) K K]) ∧ Fresh w.heap.size w' g (ofW N ((told p N).map fun (x : Nat) => (x : Int))) ∧ Below w.heap.size w w' := by
  have hok1 := nrm_ok (n := n1) hWB1
  have hok2 := nrm_ok (n := n2) hWB2
  have cA : Hid (∀ (W : World) (j : Nat), Below w.heap.size w W → j < k → Calls Tryd.prog 135 #[.slice a1 ws1.length cap1, .int .i64 (j : Int)] W fun e w' => e = .returned (.bool (bitAt us j)) ∧ w' = W) := fun W j hw hj => by
    rw [← hus]; exact bit_nrm n1 a1 ws1 cap1 W j (hWd1.below hw) hWB1 hl1 (by omega)
  have cB : Hid (∀ (W : World) (j : Nat), Below w.heap.size w W → j < m → Calls Tryd.prog 135 #[.slice a2 ws2.length cap2, .int .i64 (j : Int)] W fun e w' => e = .returned (.bool (bitAt vs j)) ∧ w' = W) := fun W j hw hj => by
    rw [← hvs]; exact bit_nrm n2 a2 ws2 cap2 W j (hWd2.below hw) hWB2 hl2 (by omega)
  have sA : Hid (∀ W, Below w.heap.size w W → Calls Tryd.prog 94 #[.agg #[.int .i64 n1, .slice a1 ws1.length cap1]] W fun e w' => e = .returned (.int .i64 (k : Int)) ∧ Below W.heap.size W w') := fun W hw => by
    rw [← hk]; exact size_ref n1 a1 ws1 cap1 W ((hWd1.below hw).mono hw.size) hWB1 hl1
  have sB : Hid (∀ W, Below w.heap.size w W → Calls Tryd.prog 94 #[.agg #[.int .i64 n2, .slice a2 ws2.length cap2]] W fun e w' => e = .returned (.int .i64 (m : Int)) ∧ Below W.heap.size W w') := fun W hw => by
    rw [← hm]; exact size_ref n2 a2 ws2 cap2 W ((hWd2.below hw).mono hw.size) hWB2 hl2
  rw [hk, hus] at hok1
  rw [hm, hvs] at hok2
  obtain ⟨L1, hL1⟩ : ∃ L, ws1.length = L := ⟨_, rfl⟩
  obtain ⟨L2, hL2⟩ : ∃ L, ws2.length = L := ⟨_, rfl⟩
  rw [hL1] at cA sA
  rw [hL2] at cB sB
  rw [hL1, hL2]
  have hNl : N ≤ 1024 := by have := hok1.le; have := hok2.le; omega
  have hcl : clampN (N : Int) = N := by unfold clampN; split <;> (try split) <;> omega
  have HP := Lib.hid hp
  have HO1 := Lib.hid hok1
  have HO2 := Lib.hid hok2
  have HKK := Lib.hid hK
  have HCL := Lib.hid hcl
  have hmx : N = if k < m then m else k := by split <;> omega
  have hkN : k ≤ N := by omega
  have hmN : m ≤ N := by omega
  clear hWd1 hWd2 hWB1 hWB2 hl1 hl2 hk hm hus hvs hN hK hp hok1 hok2 hL1 hL2 hcl
  obtain ⟨i0, hi, hz0, hz1, hz2⟩ := info_parts Tryd_info3
  by_cases hkm : k < m
  · have e : N = m := by rw [hmx, if_pos hkm]
    subst e
    have hki : (k : Int) < (N : Int) := by omega
    clear hmx hkm
    have hW1 : Below w.heap.size w (((w.alloc (.cells #[.int .i64 n1, .slice a1 L1 cap1] 35)).alloc (.cells #[.int .i64 n2, .slice a2 L2 cap2] 35)).alloc (.cells #[.int .i64 0, .slice none 0 0] 35)) := (((Below.refl _ _).alloc (Nat.le_refl _) _).alloc (by simp) _).alloc (by simp <;> omega) _
    have BA := ((Box.new w (.int .i64 n1) (.slice a1 L1 cap1) 35).alloc (.cells #[.int .i64 n2, .slice a2 L2 cap2] 35)).alloc (.cells #[.int .i64 0, .slice none 0 0] 35)
    have BB := (Box.new (w.alloc (.cells #[.int .i64 n1, .slice a1 L1 cap1] 35)) (.int .i64 n2) (.slice a2 L2 cap2) 35).alloc (.cells #[.int .i64 0, .slice none 0 0] 35)
    have BR := Box.new ((w.alloc (.cells #[.int .i64 n1, .slice a1 L1 cap1] 35)).alloc (.cells #[.int .i64 n2, .slice a2 L2 cap2] 35)) (.int .i64 0) (.slice none 0 0) 35
    simp only [World.size_alloc] at BB BR
    generalize hW : ((w.alloc (.cells #[.int .i64 n1, .slice a1 L1 cap1] 35)).alloc (.cells #[.int .i64 n2, .slice a2 L2 cap2] 35)).alloc (.cells #[.int .i64 0, .slice none 0 0] 35) = W1 at *
    have HA := Lib.hid BA
    have HB := Lib.hid BB
    have HR := Lib.hid BR
    have HW := Lib.hid hW1
    obtain ⟨x0, x1, -, -⟩ := BA
    clear BB BR hW1
    go_enter Tryd.func92, Tryd.ntmps92
    go_wp2_with fail
    refine (sA.out _ HW.out).mono ?_
    clear x0 x1 hW
    rintro e w1 ⟨rfl, hb⟩
    have HA1 := Lib.hid (HA.out.below hb HA.out.lt)
    have HB1 := Lib.hid (HB.out.below hb HB.out.lt)
    have HR1 := Lib.hid (HR.out.below hb HR.out.lt)
    have HW1 := Lib.hid (HW.out.trans (hb.mono HW.out.size))
    clear HA HB HR HW hb
    obtain ⟨x0, x1, -, -⟩ := id HB1.out
    go_wp2_with fail
    refine (sB.out _ HW1.out).mono ?_
    clear x0 x1
    rintro e w2 ⟨rfl, hb⟩
    have HA := Lib.hid (HA1.out.below hb HA1.out.lt)
    have HB := Lib.hid (HB1.out.below hb HB1.out.lt)
    have HR := Lib.hid (HR1.out.below hb HR1.out.lt)
    have HW := Lib.hid (HW1.out.trans (hb.mono HW1.out.size))
    clear HA1 HB1 HR1 HW1 hb sA sB
    go_wp2_with fail
    go_loopw [10, 11] (fun v i wr => ∃ q : Nat, q ≤ N ∧ i = .int .i64 q ∧ Hid (wr.ownsRow w2.heap.size 3 1 v (told p q).length ((told p q).map encI)) ∧ Hid (Below w2.heap.size w2 wr)) (fun _ i _ => N - (intOf i).toNat)
    case atStart => exact ⟨0, Nat.zero_le _, rfl, World.ownsRow_nil _ _ _ _, Below.refl _ _⟩
    case round =>
      obtain ⟨q, hq, rfl, hown, hBw⟩ := hrel
      have hWr := HW.out.trans (hBw.out.mono HW.out.size)
      obtain ⟨x0, x1, -, -⟩ := HA.out.below hBw.out HA.out.lt
      obtain ⟨y0, y1, -, -⟩ := HB.out.below hBw.out HB.out.lt
      by_cases hlt : q < N
      · have hqi : (q : Int) < (N : Int) := by omega
        have htl := told_le p q
        have h63 : (told p q).length + 1 ≤ maxLen := by unfold maxLen; omega
        have hby : ((told p q).length + 1) * 8 ≤ 140737488355328 := by omega
        have hqm : q < N := hlt
        by_cases hqk : q < k
        · skip
          have cjA := Lib.hid (cA.out wr q hWr hqk)
          have dk : (q : Int) < (k : Int) := by omega
          have cjB := Lib.hid (cB.out wr q hWr hqm)
          have dm : (q : Int) < (N : Int) := by omega
          obtain ⟨bu, hbu⟩ : ∃ b, Hid (bitAt us q = b) := ⟨_, Lib.hid rfl⟩
          obtain ⟨bv, hbv⟩ : ∃ b, Hid (bitAt vs q = b) := ⟨_, Lib.hid rfl⟩
          rw [hbu.out] at cjA
          rw [hbv.out] at cjB
          clear hWr
          cases bu with
          | true =>
            cases bv with
            | true =>
              have tokA : True := trivial
              have tokB : True := trivial
              have HPQ : Hid (p q = true) := by show _ = _; rw [HP.out, hbu.out, hbv.out]; rfl
              go_wp2_with (first
                | (have _t := tokA; go_at_call 135; refine cjA.out.mono ?_; clear _t tokA; rintro e w3 ⟨rfl, rfl⟩)
                | (have _t := tokB; go_at_call 135; refine cjB.out.mono ?_; clear _t tokB; rintro e w3 ⟨rfl, rfl⟩)
                | (at_builtin; refine wpList_append_own _ rfl _ _ 29 rfl w2.heap.size 3 i0 (.int .i64 0) 1 8 Tryd.underlying29 hi hz0 hz1 hz2 rfl (by decide) _ _ _ rfl (hown.out.alloc _) ⟨_, 0, none⟩ 1 1 [.int .i64 (q : Int)] rfl rfl (cell_one_new _ _ _) (by simp [Value.oneCell']) h63 hby (by have := hBw.out.size; simp; omega) ?_; intro v' w4 hown' hgrow _; have HO := Lib.hid hown'; have HG := Lib.hid hgrow; clear hown' hgrow))
              go_roundw
              case rel =>
                have e := told_succ p q
                rw [HPQ.out, if_pos rfl] at e
                refine ⟨q + 1, by omega, by go_num, ?_, ?_⟩
                · show w4.ownsRow _ 3 1 _ (told p (q + 1)).length ((told p (q + 1)).map encI)
                  rw [e]
                  simpa [encI] using HO.out
                · exact owns_grown (hBw.out.alloc hBw.out.size _) (hown.out.alloc _) HG.out (by have := hBw.out.size; simp; omega)
              case measure => simp [intOf]; omega
            | false =>
              have tokA : True := trivial
              have tokB : True := trivial
              have HPQ : Hid (p q = true) := by show _ = _; rw [HP.out, hbu.out, hbv.out]; rfl
              go_wp2_with (first
                | (have _t := tokA; go_at_call 135; refine cjA.out.mono ?_; clear _t tokA; rintro e w3 ⟨rfl, rfl⟩)
                | (have _t := tokB; go_at_call 135; refine cjB.out.mono ?_; clear _t tokB; rintro e w3 ⟨rfl, rfl⟩)
                | (at_builtin; refine wpList_append_own _ rfl _ _ 29 rfl w2.heap.size 3 i0 (.int .i64 0) 1 8 Tryd.underlying29 hi hz0 hz1 hz2 rfl (by decide) _ _ _ rfl (hown.out.alloc _) ⟨_, 0, none⟩ 1 1 [.int .i64 (q : Int)] rfl rfl (cell_one_new _ _ _) (by simp [Value.oneCell']) h63 hby (by have := hBw.out.size; simp; omega) ?_; intro v' w4 hown' hgrow _; have HO := Lib.hid hown'; have HG := Lib.hid hgrow; clear hown' hgrow))
              go_roundw
              case rel =>
                have e := told_succ p q
                rw [HPQ.out, if_pos rfl] at e
                refine ⟨q + 1, by omega, by go_num, ?_, ?_⟩
                · show w4.ownsRow _ 3 1 _ (told p (q + 1)).length ((told p (q + 1)).map encI)
                  rw [e]
                  simpa [encI] using HO.out
                · exact owns_grown (hBw.out.alloc hBw.out.size _) (hown.out.alloc _) HG.out (by have := hBw.out.size; simp; omega)
              case measure => simp [intOf]; omega
          | false =>
            cases bv with
            | true =>
              have tokA : True := trivial
              have tokB : True := trivial
              have HPQ : Hid (p q = true) := by show _ = _; rw [HP.out, hbu.out, hbv.out]; rfl
              go_wp2_with (first
                | (have _t := tokA; go_at_call 135; refine cjA.out.mono ?_; clear _t tokA; rintro e w3 ⟨rfl, rfl⟩)
                | (have _t := tokB; go_at_call 135; refine cjB.out.mono ?_; clear _t tokB; rintro e w3 ⟨rfl, rfl⟩)
                | (at_builtin; refine wpList_append_own _ rfl _ _ 29 rfl w2.heap.size 3 i0 (.int .i64 0) 1 8 Tryd.underlying29 hi hz0 hz1 hz2 rfl (by decide) _ _ _ rfl (hown.out.alloc _) ⟨_, 0, none⟩ 1 1 [.int .i64 (q : Int)] rfl rfl (cell_one_new _ _ _) (by simp [Value.oneCell']) h63 hby (by have := hBw.out.size; simp; omega) ?_; intro v' w4 hown' hgrow _; have HO := Lib.hid hown'; have HG := Lib.hid hgrow; clear hown' hgrow))
              go_roundw
              case rel =>
                have e := told_succ p q
                rw [HPQ.out, if_pos rfl] at e
                refine ⟨q + 1, by omega, by go_num, ?_, ?_⟩
                · show w4.ownsRow _ 3 1 _ (told p (q + 1)).length ((told p (q + 1)).map encI)
                  rw [e]
                  simpa [encI] using HO.out
                · exact owns_grown (hBw.out.alloc hBw.out.size _) (hown.out.alloc _) HG.out (by have := hBw.out.size; simp; omega)
              case measure => simp [intOf]; omega
            | false =>
              have tokA : True := trivial
              have tokB : True := trivial
              have HPQ : Hid (p q = false) := by show _ = _; rw [HP.out, hbu.out, hbv.out]; rfl
              go_wp2_with (first
                | (have _t := tokA; go_at_call 135; refine cjA.out.mono ?_; clear _t tokA; rintro e w3 ⟨rfl, rfl⟩)
                | (have _t := tokB; go_at_call 135; refine cjB.out.mono ?_; clear _t tokB; rintro e w3 ⟨rfl, rfl⟩))
              go_roundw
              case rel =>
                have e := told_succ p q
                rw [HPQ.out, if_neg (by simp), List.append_nil] at e
                exact ⟨q + 1, by omega, by go_num, by rw [e]; exact hown, hBw⟩
              case measure => simp [intOf]; omega
        · skip
          have dk : ¬ (q : Int) < (k : Int) := by omega
          have cjB := Lib.hid (cB.out wr q hWr hqm)
          have dm : (q : Int) < (N : Int) := by omega
          obtain ⟨bu, hbu⟩ : ∃ b, Hid (bitAt us q = b) := ⟨_, Lib.hid rfl⟩
          obtain ⟨bv, hbv⟩ : ∃ b, Hid (bitAt vs q = b) := ⟨_, Lib.hid rfl⟩
          obtain rfl : bu = false := hbu.out.symm.trans (HO1.out.clear (by omega))
          rw [hbv.out] at cjB
          clear hWr
          cases bv with
          | true =>
            have tokB : True := trivial
            have HPQ : Hid (p q = true) := by show _ = _; rw [HP.out, hbu.out, hbv.out]; rfl
            go_wp2_with (first
              | (have _t := tokB; go_at_call 135; refine cjB.out.mono ?_; clear _t tokB; rintro e w3 ⟨rfl, rfl⟩)
              | (at_builtin; refine wpList_append_own _ rfl _ _ 29 rfl w2.heap.size 3 i0 (.int .i64 0) 1 8 Tryd.underlying29 hi hz0 hz1 hz2 rfl (by decide) _ _ _ rfl (hown.out.alloc _) ⟨_, 0, none⟩ 1 1 [.int .i64 (q : Int)] rfl rfl (cell_one_new _ _ _) (by simp [Value.oneCell']) h63 hby (by have := hBw.out.size; simp; omega) ?_; intro v' w4 hown' hgrow _; have HO := Lib.hid hown'; have HG := Lib.hid hgrow; clear hown' hgrow))
            go_roundw
            case rel =>
              have e := told_succ p q
              rw [HPQ.out, if_pos rfl] at e
              refine ⟨q + 1, by omega, by go_num, ?_, ?_⟩
              · show w4.ownsRow _ 3 1 _ (told p (q + 1)).length ((told p (q + 1)).map encI)
                rw [e]
                simpa [encI] using HO.out
              · exact owns_grown (hBw.out.alloc hBw.out.size _) (hown.out.alloc _) HG.out (by have := hBw.out.size; simp; omega)
            case measure => simp [intOf]; omega
          | false =>
            have tokB : True := trivial
            have HPQ : Hid (p q = false) := by show _ = _; rw [HP.out, hbu.out, hbv.out]; rfl
            go_wp2_with (first
              | (have _t := tokB; go_at_call 135; refine cjB.out.mono ?_; clear _t tokB; rintro e w3 ⟨rfl, rfl⟩))
            go_roundw
            case rel =>
              have e := told_succ p q
              rw [HPQ.out, if_neg (by simp), List.append_nil] at e
              exact ⟨q + 1, by omega, by go_num, by rw [e]; exact hown, hBw⟩
            case measure => simp [intOf]; omega
      · obtain rfl : q = N := by omega
        obtain ⟨al, cl, rfl, hIs⟩ := is_of_owns hown.out
        have htl := told_le p q
        have HOf := Lib.hid (Of_ref (q : Int) al ((told p q).map fun (x : Nat) => (x : Int)) cl wr hIs (by rw [List.length_map]; omega))
        rw [HCL.out, HKK.out, List.length_map] at HOf
        obtain ⟨z0, z1, f0, f1⟩ := HR.out.below hBw.out HR.out.lt
        have HRr := Lib.hid (HR.out.below hBw.out HR.out.lt)
        have HWr := Lib.hid hWr
        obtain ⟨T, hT⟩ : ∃ T, (told p q).length = T := ⟨_, rfl⟩
        rw [hT] at HOf
        clear hIs hWr
        go_wp2_with fail
        refine HOf.out.mono ?_
        clear HOf z0 z1 f0 f1 x0 x1 y0 y1
        rintro e w5 ⟨g, rfl, hF, hb⟩
        have hg := hF.1
        have HF := Lib.hid hF
        have HB5 := Lib.hid (HWr.out.trans (hb.mono HWr.out.size))
        have hRlt := HRr.out.lt
        obtain ⟨z0, z1, f0, f1⟩ := HRr.out.below hb HRr.out.lt
        have hsz := HWr.out.size
        clear hF hb
        go_wp2_with fail
        exact bodyPost_ret (v := .agg #[.int .i64 (q : Int), .slice (some ⟨g, 0, none⟩) K K]) (by simp [results, Tryd.results92, go_sem, z0, z1]) rfl
          ⟨g, rfl, (HF.out.base hsz).block (heap_put2 _ _ _ _ _ (by omega)), below_put2 HB5.out (by omega) _ _⟩
  · have e : N = k := by rw [hmx, if_neg hkm]
    subst e
    have hki : ¬ (N : Int) < (m : Int) := by omega
    clear hmx hkm
    have hW1 : Below w.heap.size w (((w.alloc (.cells #[.int .i64 n1, .slice a1 L1 cap1] 35)).alloc (.cells #[.int .i64 n2, .slice a2 L2 cap2] 35)).alloc (.cells #[.int .i64 0, .slice none 0 0] 35)) := (((Below.refl _ _).alloc (Nat.le_refl _) _).alloc (by simp) _).alloc (by simp <;> omega) _
    have BA := ((Box.new w (.int .i64 n1) (.slice a1 L1 cap1) 35).alloc (.cells #[.int .i64 n2, .slice a2 L2 cap2] 35)).alloc (.cells #[.int .i64 0, .slice none 0 0] 35)
    have BB := (Box.new (w.alloc (.cells #[.int .i64 n1, .slice a1 L1 cap1] 35)) (.int .i64 n2) (.slice a2 L2 cap2) 35).alloc (.cells #[.int .i64 0, .slice none 0 0] 35)
    have BR := Box.new ((w.alloc (.cells #[.int .i64 n1, .slice a1 L1 cap1] 35)).alloc (.cells #[.int .i64 n2, .slice a2 L2 cap2] 35)) (.int .i64 0) (.slice none 0 0) 35
    simp only [World.size_alloc] at BB BR
    generalize hW : ((w.alloc (.cells #[.int .i64 n1, .slice a1 L1 cap1] 35)).alloc (.cells #[.int .i64 n2, .slice a2 L2 cap2] 35)).alloc (.cells #[.int .i64 0, .slice none 0 0] 35) = W1 at *
    have HA := Lib.hid BA
    have HB := Lib.hid BB
    have HR := Lib.hid BR
    have HW := Lib.hid hW1
    obtain ⟨x0, x1, -, -⟩ := BA
    clear BB BR hW1
    go_enter Tryd.func92, Tryd.ntmps92
    go_wp2_with fail
    refine (sA.out _ HW.out).mono ?_
    clear x0 x1 hW
    rintro e w1 ⟨rfl, hb⟩
    have HA1 := Lib.hid (HA.out.below hb HA.out.lt)
    have HB1 := Lib.hid (HB.out.below hb HB.out.lt)
    have HR1 := Lib.hid (HR.out.below hb HR.out.lt)
    have HW1 := Lib.hid (HW.out.trans (hb.mono HW.out.size))
    clear HA HB HR HW hb
    obtain ⟨x0, x1, -, -⟩ := id HB1.out
    go_wp2_with fail
    refine (sB.out _ HW1.out).mono ?_
    clear x0 x1
    rintro e w2 ⟨rfl, hb⟩
    have HA := Lib.hid (HA1.out.below hb HA1.out.lt)
    have HB := Lib.hid (HB1.out.below hb HB1.out.lt)
    have HR := Lib.hid (HR1.out.below hb HR1.out.lt)
    have HW := Lib.hid (HW1.out.trans (hb.mono HW1.out.size))
    clear HA1 HB1 HR1 HW1 hb sA sB
    go_wp2_with fail
    go_loopw [10, 11] (fun v i wr => ∃ q : Nat, q ≤ N ∧ i = .int .i64 q ∧ Hid (wr.ownsRow w2.heap.size 3 1 v (told p q).length ((told p q).map encI)) ∧ Hid (Below w2.heap.size w2 wr)) (fun _ i _ => N - (intOf i).toNat)
    case atStart => exact ⟨0, Nat.zero_le _, rfl, World.ownsRow_nil _ _ _ _, Below.refl _ _⟩
    case round =>
      obtain ⟨q, hq, rfl, hown, hBw⟩ := hrel
      have hWr := HW.out.trans (hBw.out.mono HW.out.size)
      obtain ⟨x0, x1, -, -⟩ := HA.out.below hBw.out HA.out.lt
      obtain ⟨y0, y1, -, -⟩ := HB.out.below hBw.out HB.out.lt
      by_cases hlt : q < N
      · have hqi : (q : Int) < (N : Int) := by omega
        have htl := told_le p q
        have h63 : (told p q).length + 1 ≤ maxLen := by unfold maxLen; omega
        have hby : ((told p q).length + 1) * 8 ≤ 140737488355328 := by omega
        have hqk : q < N := hlt
        by_cases hqm : q < m
        · skip
          have cjA := Lib.hid (cA.out wr q hWr hqk)
          have dk : (q : Int) < (N : Int) := by omega
          have cjB := Lib.hid (cB.out wr q hWr hqm)
          have dm : (q : Int) < (m : Int) := by omega
          obtain ⟨bu, hbu⟩ : ∃ b, Hid (bitAt us q = b) := ⟨_, Lib.hid rfl⟩
          obtain ⟨bv, hbv⟩ : ∃ b, Hid (bitAt vs q = b) := ⟨_, Lib.hid rfl⟩
          rw [hbu.out] at cjA
          rw [hbv.out] at cjB
          clear hWr
          cases bu with
          | true =>
            cases bv with
            | true =>
              have tokA : True := trivial
              have tokB : True := trivial
              have HPQ : Hid (p q = true) := by show _ = _; rw [HP.out, hbu.out, hbv.out]; rfl
              go_wp2_with (first
                | (have _t := tokA; go_at_call 135; refine cjA.out.mono ?_; clear _t tokA; rintro e w3 ⟨rfl, rfl⟩)
                | (have _t := tokB; go_at_call 135; refine cjB.out.mono ?_; clear _t tokB; rintro e w3 ⟨rfl, rfl⟩)
                | (at_builtin; refine wpList_append_own _ rfl _ _ 29 rfl w2.heap.size 3 i0 (.int .i64 0) 1 8 Tryd.underlying29 hi hz0 hz1 hz2 rfl (by decide) _ _ _ rfl (hown.out.alloc _) ⟨_, 0, none⟩ 1 1 [.int .i64 (q : Int)] rfl rfl (cell_one_new _ _ _) (by simp [Value.oneCell']) h63 hby (by have := hBw.out.size; simp; omega) ?_; intro v' w4 hown' hgrow _; have HO := Lib.hid hown'; have HG := Lib.hid hgrow; clear hown' hgrow))
              go_roundw
              case rel =>
                have e := told_succ p q
                rw [HPQ.out, if_pos rfl] at e
                refine ⟨q + 1, by omega, by go_num, ?_, ?_⟩
                · show w4.ownsRow _ 3 1 _ (told p (q + 1)).length ((told p (q + 1)).map encI)
                  rw [e]
                  simpa [encI] using HO.out
                · exact owns_grown (hBw.out.alloc hBw.out.size _) (hown.out.alloc _) HG.out (by have := hBw.out.size; simp; omega)
              case measure => simp [intOf]; omega
            | false =>
              have tokA : True := trivial
              have tokB : True := trivial
              have HPQ : Hid (p q = true) := by show _ = _; rw [HP.out, hbu.out, hbv.out]; rfl
              go_wp2_with (first
                | (have _t := tokA; go_at_call 135; refine cjA.out.mono ?_; clear _t tokA; rintro e w3 ⟨rfl, rfl⟩)
                | (have _t := tokB; go_at_call 135; refine cjB.out.mono ?_; clear _t tokB; rintro e w3 ⟨rfl, rfl⟩)
                | (at_builtin; refine wpList_append_own _ rfl _ _ 29 rfl w2.heap.size 3 i0 (.int .i64 0) 1 8 Tryd.underlying29 hi hz0 hz1 hz2 rfl (by decide) _ _ _ rfl (hown.out.alloc _) ⟨_, 0, none⟩ 1 1 [.int .i64 (q : Int)] rfl rfl (cell_one_new _ _ _) (by simp [Value.oneCell']) h63 hby (by have := hBw.out.size; simp; omega) ?_; intro v' w4 hown' hgrow _; have HO := Lib.hid hown'; have HG := Lib.hid hgrow; clear hown' hgrow))
              go_roundw
              case rel =>
                have e := told_succ p q
                rw [HPQ.out, if_pos rfl] at e
                refine ⟨q + 1, by omega, by go_num, ?_, ?_⟩
                · show w4.ownsRow _ 3 1 _ (told p (q + 1)).length ((told p (q + 1)).map encI)
                  rw [e]
                  simpa [encI] using HO.out
                · exact owns_grown (hBw.out.alloc hBw.out.size _) (hown.out.alloc _) HG.out (by have := hBw.out.size; simp; omega)
              case measure => simp [intOf]; omega
          | false =>
            cases bv with
            | true =>
              have tokA : True := trivial
              have tokB : True := trivial
              have HPQ : Hid (p q = true) := by show _ = _; rw [HP.out, hbu.out, hbv.out]; rfl
              go_wp2_with (first
                | (have _t := tokA; go_at_call 135; refine cjA.out.mono ?_; clear _t tokA; rintro e w3 ⟨rfl, rfl⟩)
                | (have _t := tokB; go_at_call 135; refine cjB.out.mono ?_; clear _t tokB; rintro e w3 ⟨rfl, rfl⟩)
                | (at_builtin; refine wpList_append_own _ rfl _ _ 29 rfl w2.heap.size 3 i0 (.int .i64 0) 1 8 Tryd.underlying29 hi hz0 hz1 hz2 rfl (by decide) _ _ _ rfl (hown.out.alloc _) ⟨_, 0, none⟩ 1 1 [.int .i64 (q : Int)] rfl rfl (cell_one_new _ _ _) (by simp [Value.oneCell']) h63 hby (by have := hBw.out.size; simp; omega) ?_; intro v' w4 hown' hgrow _; have HO := Lib.hid hown'; have HG := Lib.hid hgrow; clear hown' hgrow))
              go_roundw
              case rel =>
                have e := told_succ p q
                rw [HPQ.out, if_pos rfl] at e
                refine ⟨q + 1, by omega, by go_num, ?_, ?_⟩
                · show w4.ownsRow _ 3 1 _ (told p (q + 1)).length ((told p (q + 1)).map encI)
                  rw [e]
                  simpa [encI] using HO.out
                · exact owns_grown (hBw.out.alloc hBw.out.size _) (hown.out.alloc _) HG.out (by have := hBw.out.size; simp; omega)
              case measure => simp [intOf]; omega
            | false =>
              have tokA : True := trivial
              have tokB : True := trivial
              have HPQ : Hid (p q = false) := by show _ = _; rw [HP.out, hbu.out, hbv.out]; rfl
              go_wp2_with (first
                | (have _t := tokA; go_at_call 135; refine cjA.out.mono ?_; clear _t tokA; rintro e w3 ⟨rfl, rfl⟩)
                | (have _t := tokB; go_at_call 135; refine cjB.out.mono ?_; clear _t tokB; rintro e w3 ⟨rfl, rfl⟩))
              go_roundw
              case rel =>
                have e := told_succ p q
                rw [HPQ.out, if_neg (by simp), List.append_nil] at e
                exact ⟨q + 1, by omega, by go_num, by rw [e]; exact hown, hBw⟩
              case measure => simp [intOf]; omega
        · skip
          have cjA := Lib.hid (cA.out wr q hWr hqk)
          have dk : (q : Int) < (N : Int) := by omega
          have dm : ¬ (q : Int) < (m : Int) := by omega
          obtain ⟨bu, hbu⟩ : ∃ b, Hid (bitAt us q = b) := ⟨_, Lib.hid rfl⟩
          obtain ⟨bv, hbv⟩ : ∃ b, Hid (bitAt vs q = b) := ⟨_, Lib.hid rfl⟩
          rw [hbu.out] at cjA
          obtain rfl : bv = false := hbv.out.symm.trans (HO2.out.clear (by omega))
          clear hWr
          cases bu with
          | true =>
            have tokA : True := trivial
            have HPQ : Hid (p q = true) := by show _ = _; rw [HP.out, hbu.out, hbv.out]; rfl
            go_wp2_with (first
              | (have _t := tokA; go_at_call 135; refine cjA.out.mono ?_; clear _t tokA; rintro e w3 ⟨rfl, rfl⟩)
              | (at_builtin; refine wpList_append_own _ rfl _ _ 29 rfl w2.heap.size 3 i0 (.int .i64 0) 1 8 Tryd.underlying29 hi hz0 hz1 hz2 rfl (by decide) _ _ _ rfl (hown.out.alloc _) ⟨_, 0, none⟩ 1 1 [.int .i64 (q : Int)] rfl rfl (cell_one_new _ _ _) (by simp [Value.oneCell']) h63 hby (by have := hBw.out.size; simp; omega) ?_; intro v' w4 hown' hgrow _; have HO := Lib.hid hown'; have HG := Lib.hid hgrow; clear hown' hgrow))
            go_roundw
            case rel =>
              have e := told_succ p q
              rw [HPQ.out, if_pos rfl] at e
              refine ⟨q + 1, by omega, by go_num, ?_, ?_⟩
              · show w4.ownsRow _ 3 1 _ (told p (q + 1)).length ((told p (q + 1)).map encI)
                rw [e]
                simpa [encI] using HO.out
              · exact owns_grown (hBw.out.alloc hBw.out.size _) (hown.out.alloc _) HG.out (by have := hBw.out.size; simp; omega)
            case measure => simp [intOf]; omega
          | false =>
            have tokA : True := trivial
            have HPQ : Hid (p q = false) := by show _ = _; rw [HP.out, hbu.out, hbv.out]; rfl
            go_wp2_with (first
              | (have _t := tokA; go_at_call 135; refine cjA.out.mono ?_; clear _t tokA; rintro e w3 ⟨rfl, rfl⟩))
            go_roundw
            case rel =>
              have e := told_succ p q
              rw [HPQ.out, if_neg (by simp), List.append_nil] at e
              exact ⟨q + 1, by omega, by go_num, by rw [e]; exact hown, hBw⟩
            case measure => simp [intOf]; omega
      · obtain rfl : q = N := by omega
        obtain ⟨al, cl, rfl, hIs⟩ := is_of_owns hown.out
        have htl := told_le p q
        have HOf := Lib.hid (Of_ref (q : Int) al ((told p q).map fun (x : Nat) => (x : Int)) cl wr hIs (by rw [List.length_map]; omega))
        rw [HCL.out, HKK.out, List.length_map] at HOf
        obtain ⟨z0, z1, f0, f1⟩ := HR.out.below hBw.out HR.out.lt
        have HRr := Lib.hid (HR.out.below hBw.out HR.out.lt)
        have HWr := Lib.hid hWr
        obtain ⟨T, hT⟩ : ∃ T, (told p q).length = T := ⟨_, rfl⟩
        rw [hT] at HOf
        clear hIs hWr
        go_wp2_with fail
        refine HOf.out.mono ?_
        clear HOf z0 z1 f0 f1 x0 x1 y0 y1
        rintro e w5 ⟨g, rfl, hF, hb⟩
        have hg := hF.1
        have HF := Lib.hid hF
        have HB5 := Lib.hid (HWr.out.trans (hb.mono HWr.out.size))
        have hRlt := HRr.out.lt
        obtain ⟨z0, z1, f0, f1⟩ := HRr.out.below hb HRr.out.lt
        have hsz := HWr.out.size
        clear hF hb
        go_wp2_with fail
        exact bodyPost_ret (v := .agg #[.int .i64 (q : Int), .slice (some ⟨g, 0, none⟩) K K]) (by simp [results, Tryd.results92, go_sem, z0, z1]) rfl
          ⟨g, rfl, (HF.out.base hsz).block (heap_put2 _ _ _ _ _ (by omega)), below_put2 HB5.out (by omega) _ _⟩

set_option maxRecDepth 100000 in
set_option maxHeartbeats 4000000 in
theorem pick1_ref (n1 : Int) (a1 : Option Addr) (ws1 : List Nat) (cap1 : Nat) (n2 : Int) (a2 : Option Addr) (ws2 : List Nat) (cap2 : Nat) (w : World) (hWd1 : Wd w.heap.size w a1 ws1) (hWB1 : WB ws1) (hl1 : ws1.length ≤ 30) (hWd2 : Wd w.heap.size w a2 ws2) (hWB2 : WB ws2) (hl2 : ws2.length ≤ 30)
    (k m : Nat) (us vs : List Nat) (hk : nrm n1 ws1 = k) (hm : nrm n2 ws2 = m) (hus : nrmW n1 ws1 = us) (hvs : nrmW n2 ws2 = vs) (N K : Nat) (hN : max k m = N) (hK : wcount N = K) (p : Nat → Bool) (hp : ∀ i, p i = (fun x y => x && !y) (bitAt us i) (bitAt vs i)) :
    Calls Tryd.prog 92 #[.agg #[.int .i64 n1, .slice a1 ws1.length cap1], .agg #[.int .i64 n2, .slice a2 ws2.length cap2], .int .i64 1] w fun e w' =>
      ∃ g, e = .returned (.agg #[.int .i64 (N : Int), .slice (some ⟨g, 0, none⟩) K K]) ∧ Fresh w.heap.size w' g (ofW N ((told p N).map fun (x : Nat) => (x : Int))) ∧ Below w.heap.size w w' := by
  have hok1 := nrm_ok (n := n1) hWB1
  have hok2 := nrm_ok (n := n2) hWB2
  have cA : Hid (∀ (W : World) (j : Nat), Below w.heap.size w W → j < k → Calls Tryd.prog 135 #[.slice a1 ws1.length cap1, .int .i64 (j : Int)] W fun e w' => e = .returned (.bool (bitAt us j)) ∧ w' = W) := fun W j hw hj => by
    rw [← hus]; exact bit_nrm n1 a1 ws1 cap1 W j (hWd1.below hw) hWB1 hl1 (by omega)
  have cB : Hid (∀ (W : World) (j : Nat), Below w.heap.size w W → j < m → Calls Tryd.prog 135 #[.slice a2 ws2.length cap2, .int .i64 (j : Int)] W fun e w' => e = .returned (.bool (bitAt vs j)) ∧ w' = W) := fun W j hw hj => by
    rw [← hvs]; exact bit_nrm n2 a2 ws2 cap2 W j (hWd2.below hw) hWB2 hl2 (by omega)
  have sA : Hid (∀ W, Below w.heap.size w W → Calls Tryd.prog 94 #[.agg #[.int .i64 n1, .slice a1 ws1.length cap1]] W fun e w' => e = .returned (.int .i64 (k : Int)) ∧ Below W.heap.size W w') := fun W hw => by
    rw [← hk]; exact size_ref n1 a1 ws1 cap1 W ((hWd1.below hw).mono hw.size) hWB1 hl1
  have sB : Hid (∀ W, Below w.heap.size w W → Calls Tryd.prog 94 #[.agg #[.int .i64 n2, .slice a2 ws2.length cap2]] W fun e w' => e = .returned (.int .i64 (m : Int)) ∧ Below W.heap.size W w') := fun W hw => by
    rw [← hm]; exact size_ref n2 a2 ws2 cap2 W ((hWd2.below hw).mono hw.size) hWB2 hl2
  rw [hk, hus] at hok1
  rw [hm, hvs] at hok2
  obtain ⟨L1, hL1⟩ : ∃ L, ws1.length = L := ⟨_, rfl⟩
  obtain ⟨L2, hL2⟩ : ∃ L, ws2.length = L := ⟨_, rfl⟩
  rw [hL1] at cA sA
  rw [hL2] at cB sB
  rw [hL1, hL2]
  have hNl : N ≤ 1024 := by have := hok1.le; have := hok2.le; omega
  have hcl : clampN (N : Int) = N := by unfold clampN; split <;> (try split) <;> omega
  have HP := Lib.hid hp
  have HO1 := Lib.hid hok1
  have HO2 := Lib.hid hok2
  have HKK := Lib.hid hK
  have HCL := Lib.hid hcl
  have hmx : N = if k < m then m else k := by split <;> omega
  have hkN : k ≤ N := by omega
  have hmN : m ≤ N := by omega
  clear hWd1 hWd2 hWB1 hWB2 hl1 hl2 hk hm hus hvs hN hK hp hok1 hok2 hL1 hL2 hcl
  obtain ⟨i0, hi, hz0, hz1, hz2⟩ := info_parts Tryd_info3
  by_cases hkm : k < m
  · have e : N = m := by rw [hmx, if_pos hkm]
    subst e
    have hki : (k : Int) < (N : Int) := by omega
    clear hmx hkm
    have hW1 : Below w.heap.size w (((w.alloc (.cells #[.int .i64 n1, .slice a1 L1 cap1] 35)).alloc (.cells #[.int .i64 n2, .slice a2 L2 cap2] 35)).alloc (.cells #[.int .i64 0, .slice none 0 0] 35)) := (((Below.refl _ _).alloc (Nat.le_refl _) _).alloc (by simp) _).alloc (by simp <;> omega) _
    have BA := ((Box.new w (.int .i64 n1) (.slice a1 L1 cap1) 35).alloc (.cells #[.int .i64 n2, .slice a2 L2 cap2] 35)).alloc (.cells #[.int .i64 0, .slice none 0 0] 35)
    have BB := (Box.new (w.alloc (.cells #[.int .i64 n1, .slice a1 L1 cap1] 35)) (.int .i64 n2) (.slice a2 L2 cap2) 35).alloc (.cells #[.int .i64 0, .slice none 0 0] 35)
    have BR := Box.new ((w.alloc (.cells #[.int .i64 n1, .slice a1 L1 cap1] 35)).alloc (.cells #[.int .i64 n2, .slice a2 L2 cap2] 35)) (.int .i64 0) (.slice none 0 0) 35
    simp only [World.size_alloc] at BB BR
    generalize hW : ((w.alloc (.cells #[.int .i64 n1, .slice a1 L1 cap1] 35)).alloc (.cells #[.int .i64 n2, .slice a2 L2 cap2] 35)).alloc (.cells #[.int .i64 0, .slice none 0 0] 35) = W1 at *
    have HA := Lib.hid BA
    have HB := Lib.hid BB
    have HR := Lib.hid BR
    have HW := Lib.hid hW1
    obtain ⟨x0, x1, -, -⟩ := BA
    clear BB BR hW1
    go_enter Tryd.func92, Tryd.ntmps92
    go_wp2_with fail
    refine (sA.out _ HW.out).mono ?_
    clear x0 x1 hW
    rintro e w1 ⟨rfl, hb⟩
    have HA1 := Lib.hid (HA.out.below hb HA.out.lt)
    have HB1 := Lib.hid (HB.out.below hb HB.out.lt)
    have HR1 := Lib.hid (HR.out.below hb HR.out.lt)
    have HW1 := Lib.hid (HW.out.trans (hb.mono HW.out.size))
    clear HA HB HR HW hb
    obtain ⟨x0, x1, -, -⟩ := id HB1.out
    go_wp2_with fail
    refine (sB.out _ HW1.out).mono ?_
    clear x0 x1
    rintro e w2 ⟨rfl, hb⟩
    have HA := Lib.hid (HA1.out.below hb HA1.out.lt)
    have HB := Lib.hid (HB1.out.below hb HB1.out.lt)
    have HR := Lib.hid (HR1.out.below hb HR1.out.lt)
    have HW := Lib.hid (HW1.out.trans (hb.mono HW1.out.size))
    clear HA1 HB1 HR1 HW1 hb sA sB
    go_wp2_with fail
    go_loopw [10, 11] (fun v i wr => ∃ q : Nat, q ≤ N ∧ i = .int .i64 q ∧ Hid (wr.ownsRow w2.heap.size 3 1 v (told p q).length ((told p q).map encI)) ∧ Hid (Below w2.heap.size w2 wr)) (fun _ i _ => N - (intOf i).toNat)
    case atStart => exact ⟨0, Nat.zero_le _, rfl, World.ownsRow_nil _ _ _ _, Below.refl _ _⟩
    case round =>
      obtain ⟨q, hq, rfl, hown, hBw⟩ := hrel
      have hWr := HW.out.trans (hBw.out.mono HW.out.size)
      obtain ⟨x0, x1, -, -⟩ := HA.out.below hBw.out HA.out.lt
      obtain ⟨y0, y1, -, -⟩ := HB.out.below hBw.out HB.out.lt
      by_cases hlt : q < N
      · have hqi : (q : Int) < (N : Int) := by omega
        have htl := told_le p q
        have h63 : (told p q).length + 1 ≤ maxLen := by unfold maxLen; omega
        have hby : ((told p q).length + 1) * 8 ≤ 140737488355328 := by omega
        have hqm : q < N := hlt
        by_cases hqk : q < k
        · skip
          have cjA := Lib.hid (cA.out wr q hWr hqk)
          have dk : (q : Int) < (k : Int) := by omega
          have cjB := Lib.hid (cB.out wr q hWr hqm)
          have dm : (q : Int) < (N : Int) := by omega
          obtain ⟨bu, hbu⟩ : ∃ b, Hid (bitAt us q = b) := ⟨_, Lib.hid rfl⟩
          obtain ⟨bv, hbv⟩ : ∃ b, Hid (bitAt vs q = b) := ⟨_, Lib.hid rfl⟩
          rw [hbu.out] at cjA
          rw [hbv.out] at cjB
          clear hWr
          cases bu with
          | true =>
            cases bv with
            | true =>
              have tokA : True := trivial
              have tokB : True := trivial
              have HPQ : Hid (p q = false) := by show _ = _; rw [HP.out, hbu.out, hbv.out]; rfl
              go_wp2_with (first
                | (have _t := tokA; go_at_call 135; refine cjA.out.mono ?_; clear _t tokA; rintro e w3 ⟨rfl, rfl⟩)
                | (have _t := tokB; go_at_call 135; refine cjB.out.mono ?_; clear _t tokB; rintro e w3 ⟨rfl, rfl⟩))
              go_roundw
              case rel =>
                have e := told_succ p q
                rw [HPQ.out, if_neg (by simp), List.append_nil] at e
                exact ⟨q + 1, by omega, by go_num, by rw [e]; exact hown, hBw⟩
              case measure => simp [intOf]; omega
            | false =>
              have tokA : True := trivial
              have tokB : True := trivial
              have HPQ : Hid (p q = true) := by show _ = _; rw [HP.out, hbu.out, hbv.out]; rfl
              go_wp2_with (first
                | (have _t := tokA; go_at_call 135; refine cjA.out.mono ?_; clear _t tokA; rintro e w3 ⟨rfl, rfl⟩)
                | (have _t := tokB; go_at_call 135; refine cjB.out.mono ?_; clear _t tokB; rintro e w3 ⟨rfl, rfl⟩)
                | (at_builtin; refine wpList_append_own _ rfl _ _ 29 rfl w2.heap.size 3 i0 (.int .i64 0) 1 8 Tryd.underlying29 hi hz0 hz1 hz2 rfl (by decide) _ _ _ rfl (hown.out.alloc _) ⟨_, 0, none⟩ 1 1 [.int .i64 (q : Int)] rfl rfl (cell_one_new _ _ _) (by simp [Value.oneCell']) h63 hby (by have := hBw.out.size; simp; omega) ?_; intro v' w4 hown' hgrow _; have HO := Lib.hid hown'; have HG := Lib.hid hgrow; clear hown' hgrow))
              go_roundw
              case rel =>
                have e := told_succ p q
                rw [HPQ.out, if_pos rfl] at e
                refine ⟨q + 1, by omega, by go_num, ?_, ?_⟩
                · show w4.ownsRow _ 3 1 _ (told p (q + 1)).length ((told p (q + 1)).map encI)
                  rw [e]
                  simpa [encI] using HO.out
                · exact owns_grown (hBw.out.alloc hBw.out.size _) (hown.out.alloc _) HG.out (by have := hBw.out.size; simp; omega)
              case measure => simp [intOf]; omega
          | false =>
            cases bv with
            | true =>
              have tokA : True := trivial
              have tokB : True := trivial
              have HPQ : Hid (p q = false) := by show _ = _; rw [HP.out, hbu.out, hbv.out]; rfl
              go_wp2_with (first
                | (have _t := tokA; go_at_call 135; refine cjA.out.mono ?_; clear _t tokA; rintro e w3 ⟨rfl, rfl⟩)
                | (have _t := tokB; go_at_call 135; refine cjB.out.mono ?_; clear _t tokB; rintro e w3 ⟨rfl, rfl⟩))
              go_roundw
              case rel =>
                have e := told_succ p q
                rw [HPQ.out, if_neg (by simp), List.append_nil] at e
                exact ⟨q + 1, by omega, by go_num, by rw [e]; exact hown, hBw⟩
              case measure => simp [intOf]; omega
            | false =>
              have tokA : True := trivial
              have tokB : True := trivial
              have HPQ : Hid (p q = false) := by show _ = _; rw [HP.out, hbu.out, hbv.out]; rfl
              go_wp2_with (first
                | (have _t := tokA; go_at_call 135; refine cjA.out.mono ?_; clear _t tokA; rintro e w3 ⟨rfl, rfl⟩)
                | (have _t := tokB; go_at_call 135; refine cjB.out.mono ?_; clear _t tokB; rintro e w3 ⟨rfl, rfl⟩))
              go_roundw
              case rel =>
                have e := told_succ p q
                rw [HPQ.out, if_neg (by simp), List.append_nil] at e
                exact ⟨q + 1, by omega, by go_num, by rw [e]; exact hown, hBw⟩
              case measure => simp [intOf]; omega
        · skip
          have dk : ¬ (q : Int) < (k : Int) := by omega
          have cjB := Lib.hid (cB.out wr q hWr hqm)
          have dm : (q : Int) < (N : Int) := by omega
          obtain ⟨bu, hbu⟩ : ∃ b, Hid (bitAt us q = b) := ⟨_, Lib.hid rfl⟩
          obtain ⟨bv, hbv⟩ : ∃ b, Hid (bitAt vs q = b) := ⟨_, Lib.hid rfl⟩
          obtain rfl : bu = false := hbu.out.symm.trans (HO1.out.clear (by omega))
          rw [hbv.out] at cjB
          clear hWr
          cases bv with
          | true =>
            have tokB : True := trivial
            have HPQ : Hid (p q = false) := by show _ = _; rw [HP.out, hbu.out, hbv.out]; rfl
            go_wp2_with (first
              | (have _t := tokB; go_at_call 135; refine cjB.out.mono ?_; clear _t tokB; rintro e w3 ⟨rfl, rfl⟩))
            go_roundw
            case rel =>
              have e := told_succ p q
              rw [HPQ.out, if_neg (by simp), List.append_nil] at e
              exact ⟨q + 1, by omega, by go_num, by rw [e]; exact hown, hBw⟩
            case measure => simp [intOf]; omega
          | false =>
            have tokB : True := trivial
            have HPQ : Hid (p q = false) := by show _ = _; rw [HP.out, hbu.out, hbv.out]; rfl
            go_wp2_with (first
              | (have _t := tokB; go_at_call 135; refine cjB.out.mono ?_; clear _t tokB; rintro e w3 ⟨rfl, rfl⟩))
            go_roundw
            case rel =>
              have e := told_succ p q
              rw [HPQ.out, if_neg (by simp), List.append_nil] at e
              exact ⟨q + 1, by omega, by go_num, by rw [e]; exact hown, hBw⟩
            case measure => simp [intOf]; omega
      · obtain rfl : q = N := by omega
        obtain ⟨al, cl, rfl, hIs⟩ := is_of_owns hown.out
        have htl := told_le p q
        have HOf := Lib.hid (Of_ref (q : Int) al ((told p q).map fun (x : Nat) => (x : Int)) cl wr hIs (by rw [List.length_map]; omega))
        rw [HCL.out, HKK.out, List.length_map] at HOf
        obtain ⟨z0, z1, f0, f1⟩ := HR.out.below hBw.out HR.out.lt
        have HRr := Lib.hid (HR.out.below hBw.out HR.out.lt)
        have HWr := Lib.hid hWr
        obtain ⟨T, hT⟩ : ∃ T, (told p q).length = T := ⟨_, rfl⟩
        rw [hT] at HOf
        clear hIs hWr
        go_wp2_with fail
        refine HOf.out.mono ?_
        clear HOf z0 z1 f0 f1 x0 x1 y0 y1
        rintro e w5 ⟨g, rfl, hF, hb⟩
        have hg := hF.1
        have HF := Lib.hid hF
        have HB5 := Lib.hid (HWr.out.trans (hb.mono HWr.out.size))
        have hRlt := HRr.out.lt
        obtain ⟨z0, z1, f0, f1⟩ := HRr.out.below hb HRr.out.lt
        have hsz := HWr.out.size
        clear hF hb
        go_wp2_with fail
        exact bodyPost_ret (v := .agg #[.int .i64 (q : Int), .slice (some ⟨g, 0, none⟩) K K]) (by simp [results, Tryd.results92, go_sem, z0, z1]) rfl
          ⟨g, rfl, (HF.out.base hsz).block (heap_put2 _ _ _ _ _ (by omega)), below_put2 HB5.out (by omega) _ _⟩
  · have e : N = k := by rw [hmx, if_neg hkm]
    subst e
    have hki : ¬ (N : Int) < (m : Int) := by omega
    clear hmx hkm
    have hW1 : Below w.heap.size w (((w.alloc (.cells #[.int .i64 n1, .slice a1 L1 cap1] 35)).alloc (.cells #[.int .i64 n2, .slice a2 L2 cap2] 35)).alloc (.cells #[.int .i64 0, .slice none 0 0] 35)) := (((Below.refl _ _).alloc (Nat.le_refl _) _).alloc (by simp) _).alloc (by simp <;> omega) _
    have BA := ((Box.new w (.int .i64 n1) (.slice a1 L1 cap1) 35).alloc (.cells #[.int .i64 n2, .slice a2 L2 cap2] 35)).alloc (.cells #[.int .i64 0, .slice none 0 0] 35)
    have BB := (Box.new (w.alloc (.cells #[.int .i64 n1, .slice a1 L1 cap1] 35)) (.int .i64 n2) (.slice a2 L2 cap2) 35).alloc (.cells #[.int .i64 0, .slice none 0 0] 35)
    have BR := Box.new ((w.alloc (.cells #[.int .i64 n1, .slice a1 L1 cap1] 35)).alloc (.cells #[.int .i64 n2, .slice a2 L2 cap2] 35)) (.int .i64 0) (.slice none 0 0) 35
    simp only [World.size_alloc] at BB BR
    generalize hW : ((w.alloc (.cells #[.int .i64 n1, .slice a1 L1 cap1] 35)).alloc (.cells #[.int .i64 n2, .slice a2 L2 cap2] 35)).alloc (.cells #[.int .i64 0, .slice none 0 0] 35) = W1 at *
    have HA := Lib.hid BA
    have HB := Lib.hid BB
    have HR := Lib.hid BR
    have HW := Lib.hid hW1
    obtain ⟨x0, x1, -, -⟩ := BA
    clear BB BR hW1
    go_enter Tryd.func92, Tryd.ntmps92
    go_wp2_with fail
    refine (sA.out _ HW.out).mono ?_
    clear x0 x1 hW
    rintro e w1 ⟨rfl, hb⟩
    have HA1 := Lib.hid (HA.out.below hb HA.out.lt)
    have HB1 := Lib.hid (HB.out.below hb HB.out.lt)
    have HR1 := Lib.hid (HR.out.below hb HR.out.lt)
    have HW1 := Lib.hid (HW.out.trans (hb.mono HW.out.size))
    clear HA HB HR HW hb
    obtain ⟨x0, x1, -, -⟩ := id HB1.out
    go_wp2_with fail
    refine (sB.out _ HW1.out).mono ?_
    clear x0 x1
    rintro e w2 ⟨rfl, hb⟩
    have HA := Lib.hid (HA1.out.below hb HA1.out.lt)
    have HB := Lib.hid (HB1.out.below hb HB1.out.lt)
    have HR := Lib.hid (HR1.out.below hb HR1.out.lt)
    have HW := Lib.hid (HW1.out.trans (hb.mono HW1.out.size))
    clear HA1 HB1 HR1 HW1 hb sA sB
    go_wp2_with fail
    go_loopw [10, 11] (fun v i wr => ∃ q : Nat, q ≤ N ∧ i = .int .i64 q ∧ Hid (wr.ownsRow w2.heap.size 3 1 v (told p q).length ((told p q).map encI)) ∧ Hid (Below w2.heap.size w2 wr)) (fun _ i _ => N - (intOf i).toNat)
    case atStart => exact ⟨0, Nat.zero_le _, rfl, World.ownsRow_nil _ _ _ _, Below.refl _ _⟩
    case round =>
      obtain ⟨q, hq, rfl, hown, hBw⟩ := hrel
      have hWr := HW.out.trans (hBw.out.mono HW.out.size)
      obtain ⟨x0, x1, -, -⟩ := HA.out.below hBw.out HA.out.lt
      obtain ⟨y0, y1, -, -⟩ := HB.out.below hBw.out HB.out.lt
      by_cases hlt : q < N
      · have hqi : (q : Int) < (N : Int) := by omega
        have htl := told_le p q
        have h63 : (told p q).length + 1 ≤ maxLen := by unfold maxLen; omega
        have hby : ((told p q).length + 1) * 8 ≤ 140737488355328 := by omega
        have hqk : q < N := hlt
        by_cases hqm : q < m
        · skip
          have cjA := Lib.hid (cA.out wr q hWr hqk)
          have dk : (q : Int) < (N : Int) := by omega
          have cjB := Lib.hid (cB.out wr q hWr hqm)
          have dm : (q : Int) < (m : Int) := by omega
          obtain ⟨bu, hbu⟩ : ∃ b, Hid (bitAt us q = b) := ⟨_, Lib.hid rfl⟩
          obtain ⟨bv, hbv⟩ : ∃ b, Hid (bitAt vs q = b) := ⟨_, Lib.hid rfl⟩
          rw [hbu.out] at cjA
          rw [hbv.out] at cjB
          clear hWr
          cases bu with
          | true =>
            cases bv with
            | true =>
              have tokA : True := trivial
              have tokB : True := trivial
              have HPQ : Hid (p q = false) := by show _ = _; rw [HP.out, hbu.out, hbv.out]; rfl
              go_wp2_with (first
                | (have _t := tokA; go_at_call 135; refine cjA.out.mono ?_; clear _t tokA; rintro e w3 ⟨rfl, rfl⟩)
                | (have _t := tokB; go_at_call 135; refine cjB.out.mono ?_; clear _t tokB; rintro e w3 ⟨rfl, rfl⟩))
              go_roundw
              case rel =>
                have e := told_succ p q
                rw [HPQ.out, if_neg (by simp), List.append_nil] at e
                exact ⟨q + 1, by omega, by go_num, by rw [e]; exact hown, hBw⟩
              case measure => simp [intOf]; omega
            | false =>
              have tokA : True := trivial
              have tokB : True := trivial
              have HPQ : Hid (p q = true) := by show _ = _; rw [HP.out, hbu.out, hbv.out]; rfl
              go_wp2_with (first
                | (have _t := tokA; go_at_call 135; refine cjA.out.mono ?_; clear _t tokA; rintro e w3 ⟨rfl, rfl⟩)
                | (have _t := tokB; go_at_call 135; refine cjB.out.mono ?_; clear _t tokB; rintro e w3 ⟨rfl, rfl⟩)
                | (at_builtin; refine wpList_append_own _ rfl _ _ 29 rfl w2.heap.size 3 i0 (.int .i64 0) 1 8 Tryd.underlying29 hi hz0 hz1 hz2 rfl (by decide) _ _ _ rfl (hown.out.alloc _) ⟨_, 0, none⟩ 1 1 [.int .i64 (q : Int)] rfl rfl (cell_one_new _ _ _) (by simp [Value.oneCell']) h63 hby (by have := hBw.out.size; simp; omega) ?_; intro v' w4 hown' hgrow _; have HO := Lib.hid hown'; have HG := Lib.hid hgrow; clear hown' hgrow))
              go_roundw
              case rel =>
                have e := told_succ p q
                rw [HPQ.out, if_pos rfl] at e
                refine ⟨q + 1, by omega, by go_num, ?_, ?_⟩
                · show w4.ownsRow _ 3 1 _ (told p (q + 1)).length ((told p (q + 1)).map encI)
                  rw [e]
                  simpa [encI] using HO.out
                · exact owns_grown (hBw.out.alloc hBw.out.size _) (hown.out.alloc _) HG.out (by have := hBw.out.size; simp; omega)
              case measure => simp [intOf]; omega
          | false =>
            cases bv with
            | true =>
              have tokA : True := trivial
              have tokB : True := trivial
              have HPQ : Hid (p q = false) := by show _ = _; rw [HP.out, hbu.out, hbv.out]; rfl
              go_wp2_with (first
                | (have _t := tokA; go_at_call 135; refine cjA.out.mono ?_; clear _t tokA; rintro e w3 ⟨rfl, rfl⟩)
                | (have _t := tokB; go_at_call 135; refine cjB.out.mono ?_; clear _t tokB; rintro e w3 ⟨rfl, rfl⟩))
              go_roundw
              case rel =>
                have e := told_succ p q
                rw [HPQ.out, if_neg (by simp), List.append_nil] at e
                exact ⟨q + 1, by omega, by go_num, by rw [e]; exact hown, hBw⟩
              case measure => simp [intOf]; omega
            | false =>
              have tokA : True := trivial
              have tokB : True := trivial
              have HPQ : Hid (p q = false) := by show _ = _; rw [HP.out, hbu.out, hbv.out]; rfl
              go_wp2_with (first
                | (have _t := tokA; go_at_call 135; refine cjA.out.mono ?_; clear _t tokA; rintro e w3 ⟨rfl, rfl⟩)
                | (have _t := tokB; go_at_call 135; refine cjB.out.mono ?_; clear _t tokB; rintro e w3 ⟨rfl, rfl⟩))
              go_roundw
              case rel =>
                have e := told_succ p q
                rw [HPQ.out, if_neg (by simp), List.append_nil] at e
                exact ⟨q + 1, by omega, by go_num, by rw [e]; exact hown, hBw⟩
              case measure => simp [intOf]; omega
        · skip
          have cjA := Lib.hid (cA.out wr q hWr hqk)
          have dk : (q : Int) < (N : Int) := by omega
          have dm : ¬ (q : Int) < (m : Int) := by omega
          obtain ⟨bu, hbu⟩ : ∃ b, Hid (bitAt us q = b) := ⟨_, Lib.hid rfl⟩
          obtain ⟨bv, hbv⟩ : ∃ b, Hid (bitAt vs q = b) := ⟨_, Lib.hid rfl⟩
          rw [hbu.out] at cjA
          obtain rfl : bv = false := hbv.out.symm.trans (HO2.out.clear (by omega))
          clear hWr
          cases bu with
          | true =>
            have tokA : True := trivial
            have HPQ : Hid (p q = true) := by show _ = _; rw [HP.out, hbu.out, hbv.out]; rfl
            go_wp2_with (first
              | (have _t := tokA; go_at_call 135; refine cjA.out.mono ?_; clear _t tokA; rintro e w3 ⟨rfl, rfl⟩)
              | (at_builtin; refine wpList_append_own _ rfl _ _ 29 rfl w2.heap.size 3 i0 (.int .i64 0) 1 8 Tryd.underlying29 hi hz0 hz1 hz2 rfl (by decide) _ _ _ rfl (hown.out.alloc _) ⟨_, 0, none⟩ 1 1 [.int .i64 (q : Int)] rfl rfl (cell_one_new _ _ _) (by simp [Value.oneCell']) h63 hby (by have := hBw.out.size; simp; omega) ?_; intro v' w4 hown' hgrow _; have HO := Lib.hid hown'; have HG := Lib.hid hgrow; clear hown' hgrow))
            go_roundw
            case rel =>
              have e := told_succ p q
              rw [HPQ.out, if_pos rfl] at e
              refine ⟨q + 1, by omega, by go_num, ?_, ?_⟩
              · show w4.ownsRow _ 3 1 _ (told p (q + 1)).length ((told p (q + 1)).map encI)
                rw [e]
                simpa [encI] using HO.out
              · exact owns_grown (hBw.out.alloc hBw.out.size _) (hown.out.alloc _) HG.out (by have := hBw.out.size; simp; omega)
            case measure => simp [intOf]; omega
          | false =>
            have tokA : True := trivial
            have HPQ : Hid (p q = false) := by show _ = _; rw [HP.out, hbu.out, hbv.out]; rfl
            go_wp2_with (first
              | (have _t := tokA; go_at_call 135; refine cjA.out.mono ?_; clear _t tokA; rintro e w3 ⟨rfl, rfl⟩))
            go_roundw
            case rel =>
              have e := told_succ p q
              rw [HPQ.out, if_neg (by simp), List.append_nil] at e
              exact ⟨q + 1, by omega, by go_num, by rw [e]; exact hown, hBw⟩
            case measure => simp [intOf]; omega
      · obtain rfl : q = N := by omega
        obtain ⟨al, cl, rfl, hIs⟩ := is_of_owns hown.out
        have htl := told_le p q
        have HOf := Lib.hid (Of_ref (q : Int) al ((told p q).map fun (x : Nat) => (x : Int)) cl wr hIs (by rw [List.length_map]; omega))
        rw [HCL.out, HKK.out, List.length_map] at HOf
        obtain ⟨z0, z1, f0, f1⟩ := HR.out.below hBw.out HR.out.lt
        have HRr := Lib.hid (HR.out.below hBw.out HR.out.lt)
        have HWr := Lib.hid hWr
        obtain ⟨T, hT⟩ : ∃ T, (told p q).length = T := ⟨_, rfl⟩
        rw [hT] at HOf
        clear hIs hWr
        go_wp2_with fail
        refine HOf.out.mono ?_
        clear HOf z0 z1 f0 f1 x0 x1 y0 y1
        rintro e w5 ⟨g, rfl, hF, hb⟩
        have hg := hF.1
        have HF := Lib.hid hF
        have HB5 := Lib.hid (HWr.out.trans (hb.mono HWr.out.size))
        have hRlt := HRr.out.lt
        obtain ⟨z0, z1, f0, f1⟩ := HRr.out.below hb HRr.out.lt
        have hsz := HWr.out.size
        clear hF hb
        go_wp2_with fail
        exact bodyPost_ret (v := .agg #[.int .i64 (q : Int), .slice (some ⟨g, 0, none⟩) K K]) (by simp [results, Tryd.results92, go_sem, z0, z1]) rfl
          ⟨g, rfl, (HF.out.base hsz).block (heap_put2 _ _ _ _ _ (by omega)), below_put2 HB5.out (by omega) _ _⟩

set_option maxRecDepth 100000 in
set_option maxHeartbeats 4000000 in
theorem pick2_ref (n1 : Int) (a1 : Option Addr) (ws1 : List Nat) (cap1 : Nat) (n2 : Int) (a2 : Option Addr) (ws2 : List Nat) (cap2 : Nat) (w : World) (hWd1 : Wd w.heap.size w a1 ws1) (hWB1 : WB ws1) (hl1 : ws1.length ≤ 30) (hWd2 : Wd w.heap.size w a2 ws2) (hWB2 : WB ws2) (hl2 : ws2.length ≤ 30)
    (k m : Nat) (us vs : List Nat) (hk : nrm n1 ws1 = k) (hm : nrm n2 ws2 = m) (hus : nrmW n1 ws1 = us) (hvs : nrmW n2 ws2 = vs) (N K : Nat) (hN : max k m = N) (hK : wcount N = K) (p : Nat → Bool) (hp : ∀ i, p i = (fun x y => x && y) (bitAt us i) (bitAt vs i)) :
    Calls Tryd.prog 92 #[.agg #[.int .i64 n1, .slice a1 ws1.length cap1], .agg #[.int .i64 n2, .slice a2 ws2.length cap2], .int .i64 2] w fun e w' =>
      ∃ g, e = .returned (.agg #[.int .i64 (N : Int), .slice (some ⟨g, 0, none⟩) K K]) ∧ Fresh w.heap.size w' g (ofW N ((told p N).map fun (x : Nat) => (x : Int))) ∧ Below w.heap.size w w' := by
  have hok1 := nrm_ok (n := n1) hWB1
  have hok2 := nrm_ok (n := n2) hWB2
  have cA : Hid (∀ (W : World) (j : Nat), Below w.heap.size w W → j < k → Calls Tryd.prog 135 #[.slice a1 ws1.length cap1, .int .i64 (j : Int)] W fun e w' => e = .returned (.bool (bitAt us j)) ∧ w' = W) := fun W j hw hj => by
    rw [← hus]; exact bit_nrm n1 a1 ws1 cap1 W j (hWd1.below hw) hWB1 hl1 (by omega)
  have cB : Hid (∀ (W : World) (j : Nat), Below w.heap.size w W → j < m → Calls Tryd.prog 135 #[.slice a2 ws2.length cap2, .int .i64 (j : Int)] W fun e w' => e = .returned (.bool (bitAt vs j)) ∧ w' = W) := fun W j hw hj => by
    rw [← hvs]; exact bit_nrm n2 a2 ws2 cap2 W j (hWd2.below hw) hWB2 hl2 (by omega)
  have sA : Hid (∀ W, Below w.heap.size w W → Calls Tryd.prog 94 #[.agg #[.int .i64 n1, .slice a1 ws1.length cap1]] W fun e w' => e = .returned (.int .i64 (k : Int)) ∧ Below W.heap.size W w') := fun W hw => by
    rw [← hk]; exact size_ref n1 a1 ws1 cap1 W ((hWd1.below hw).mono hw.size) hWB1 hl1
  have sB : Hid (∀ W, Below w.heap.size w W → Calls Tryd.prog 94 #[.agg #[.int .i64 n2, .slice a2 ws2.length cap2]] W fun e w' => e = .returned (.int .i64 (m : Int)) ∧ Below W.heap.size W w') := fun W hw => by
    rw [← hm]; exact size_ref n2 a2 ws2 cap2 W ((hWd2.below hw).mono hw.size) hWB2 hl2
  rw [hk, hus] at hok1
  rw [hm, hvs] at hok2
  obtain ⟨L1, hL1⟩ : ∃ L, ws1.length = L := ⟨_, rfl⟩
  obtain ⟨L2, hL2⟩ : ∃ L, ws2.length = L := ⟨_, rfl⟩
  rw [hL1] at cA sA
  rw [hL2] at cB sB
  rw [hL1, hL2]
  have hNl : N ≤ 1024 := by have := hok1.le; have := hok2.le; omega
  have hcl : clampN (N : Int) = N := by unfold clampN; split <;> (try split) <;> omega
  have HP := Lib.hid hp
  have HO1 := Lib.hid hok1
  have HO2 := Lib.hid hok2
  have HKK := Lib.hid hK
  have HCL := Lib.hid hcl
  have hmx : N = if k < m then m else k := by split <;> omega
  have hkN : k ≤ N := by omega
  have hmN : m ≤ N := by omega
  clear hWd1 hWd2 hWB1 hWB2 hl1 hl2 hk hm hus hvs hN hK hp hok1 hok2 hL1 hL2 hcl
  obtain ⟨i0, hi, hz0, hz1, hz2⟩ := info_parts Tryd_info3
  by_cases hkm : k < m
  · have e : N = m := by rw [hmx, if_pos hkm]
    subst e
    have hki : (k : Int) < (N : Int) := by omega
    clear hmx hkm
    have hW1 : Below w.heap.size w (((w.alloc (.cells #[.int .i64 n1, .slice a1 L1 cap1] 35)).alloc (.cells #[.int .i64 n2, .slice a2 L2 cap2] 35)).alloc (.cells #[.int .i64 0, .slice none 0 0] 35)) := (((Below.refl _ _).alloc (Nat.le_refl _) _).alloc (by simp) _).alloc (by simp <;> omega) _
    have BA := ((Box.new w (.int .i64 n1) (.slice a1 L1 cap1) 35).alloc (.cells #[.int .i64 n2, .slice a2 L2 cap2] 35)).alloc (.cells #[.int .i64 0, .slice none 0 0] 35)
    have BB := (Box.new (w.alloc (.cells #[.int .i64 n1, .slice a1 L1 cap1] 35)) (.int .i64 n2) (.slice a2 L2 cap2) 35).alloc (.cells #[.int .i64 0, .slice none 0 0] 35)
    have BR := Box.new ((w.alloc (.cells #[.int .i64 n1, .slice a1 L1 cap1] 35)).alloc (.cells #[.int .i64 n2, .slice a2 L2 cap2] 35)) (.int .i64 0) (.slice none 0 0) 35
    simp only [World.size_alloc] at BB BR
    generalize hW : ((w.alloc (.cells #[.int .i64 n1, .slice a1 L1 cap1] 35)).alloc (.cells #[.int .i64 n2, .slice a2 L2 cap2] 35)).alloc (.cells #[.int .i64 0, .slice none 0 0] 35) = W1 at *
    have HA := Lib.hid BA
    have HB := Lib.hid BB
    have HR := Lib.hid BR
    have HW := Lib.hid hW1
    obtain ⟨x0, x1, -, -⟩ := BA
    clear BB BR hW1
    go_enter Tryd.func92, Tryd.ntmps92
    go_wp2_with fail
    refine (sA.out _ HW.out).mono ?_
    clear x0 x1 hW
    rintro e w1 ⟨rfl, hb⟩
    have HA1 := Lib.hid (HA.out.below hb HA.out.lt)
    have HB1 := Lib.hid (HB.out.below hb HB.out.lt)
    have HR1 := Lib.hid (HR.out.below hb HR.out.lt)
    have HW1 := Lib.hid (HW.out.trans (hb.mono HW.out.size))
    clear HA HB HR HW hb
    obtain ⟨x0, x1, -, -⟩ := id HB1.out
    go_wp2_with fail
    refine (sB.out _ HW1.out).mono ?_
    clear x0 x1
    rintro e w2 ⟨rfl, hb⟩
    have HA := Lib.hid (HA1.out.below hb HA1.out.lt)
    have HB := Lib.hid (HB1.out.below hb HB1.out.lt)
    have HR := Lib.hid (HR1.out.below hb HR1.out.lt)
    have HW := Lib.hid (HW1.out.trans (hb.mono HW1.out.size))
    clear HA1 HB1 HR1 HW1 hb sA sB
    go_wp2_with fail
    go_loopw [10, 11] (fun v i wr => ∃ q : Nat, q ≤ N ∧ i = .int .i64 q ∧ Hid (wr.ownsRow w2.heap.size 3 1 v (told p q).length ((told p q).map encI)) ∧ Hid (Below w2.heap.size w2 wr)) (fun _ i _ => N - (intOf i).toNat)
    case atStart => exact ⟨0, Nat.zero_le _, rfl, World.ownsRow_nil _ _ _ _, Below.refl _ _⟩
    case round =>
      obtain ⟨q, hq, rfl, hown, hBw⟩ := hrel
      have hWr := HW.out.trans (hBw.out.mono HW.out.size)
      obtain ⟨x0, x1, -, -⟩ := HA.out.below hBw.out HA.out.lt
      obtain ⟨y0, y1, -, -⟩ := HB.out.below hBw.out HB.out.lt
      by_cases hlt : q < N
      · have hqi : (q : Int) < (N : Int) := by omega
        have htl := told_le p q
        have h63 : (told p q).length + 1 ≤ maxLen := by unfold maxLen; omega
        have hby : ((told p q).length + 1) * 8 ≤ 140737488355328 := by omega
        have hqm : q < N := hlt
        by_cases hqk : q < k
        · skip
          have cjA := Lib.hid (cA.out wr q hWr hqk)
          have dk : (q : Int) < (k : Int) := by omega
          have cjB := Lib.hid (cB.out wr q hWr hqm)
          have dm : (q : Int) < (N : Int) := by omega
          obtain ⟨bu, hbu⟩ : ∃ b, Hid (bitAt us q = b) := ⟨_, Lib.hid rfl⟩
          obtain ⟨bv, hbv⟩ : ∃ b, Hid (bitAt vs q = b) := ⟨_, Lib.hid rfl⟩
          rw [hbu.out] at cjA
          rw [hbv.out] at cjB
          clear hWr
          cases bu with
          | true =>
            cases bv with
            | true =>
              have tokA : True := trivial
              have tokB : True := trivial
              have HPQ : Hid (p q = true) := by show _ = _; rw [HP.out, hbu.out, hbv.out]; rfl
              go_wp2_with (first
                | (have _t := tokA; go_at_call 135; refine cjA.out.mono ?_; clear _t tokA; rintro e w3 ⟨rfl, rfl⟩)
                | (have _t := tokB; go_at_call 135; refine cjB.out.mono ?_; clear _t tokB; rintro e w3 ⟨rfl, rfl⟩)
                | (at_builtin; refine wpList_append_own _ rfl _ _ 29 rfl w2.heap.size 3 i0 (.int .i64 0) 1 8 Tryd.underlying29 hi hz0 hz1 hz2 rfl (by decide) _ _ _ rfl (hown.out.alloc _) ⟨_, 0, none⟩ 1 1 [.int .i64 (q : Int)] rfl rfl (cell_one_new _ _ _) (by simp [Value.oneCell']) h63 hby (by have := hBw.out.size; simp; omega) ?_; intro v' w4 hown' hgrow _; have HO := Lib.hid hown'; have HG := Lib.hid hgrow; clear hown' hgrow))
              go_roundw
              case rel =>
                have e := told_succ p q
                rw [HPQ.out, if_pos rfl] at e
                refine ⟨q + 1, by omega, by go_num, ?_, ?_⟩
                · show w4.ownsRow _ 3 1 _ (told p (q + 1)).length ((told p (q + 1)).map encI)
                  rw [e]
                  simpa [encI] using HO.out
                · exact owns_grown (hBw.out.alloc hBw.out.size _) (hown.out.alloc _) HG.out (by have := hBw.out.size; simp; omega)
              case measure => simp [intOf]; omega
            | false =>
              have tokA : True := trivial
              have tokB : True := trivial
              have HPQ : Hid (p q = false) := by show _ = _; rw [HP.out, hbu.out, hbv.out]; rfl
              go_wp2_with (first
                | (have _t := tokA; go_at_call 135; refine cjA.out.mono ?_; clear _t tokA; rintro e w3 ⟨rfl, rfl⟩)
                | (have _t := tokB; go_at_call 135; refine cjB.out.mono ?_; clear _t tokB; rintro e w3 ⟨rfl, rfl⟩))
              go_roundw
              case rel =>
                have e := told_succ p q
                rw [HPQ.out, if_neg (by simp), List.append_nil] at e
                exact ⟨q + 1, by omega, by go_num, by rw [e]; exact hown, hBw⟩
              case measure => simp [intOf]; omega
          | false =>
            cases bv with
            | true =>
              have tokA : True := trivial
              have tokB : True := trivial
              have HPQ : Hid (p q = false) := by show _ = _; rw [HP.out, hbu.out, hbv.out]; rfl
              go_wp2_with (first
                | (have _t := tokA; go_at_call 135; refine cjA.out.mono ?_; clear _t tokA; rintro e w3 ⟨rfl, rfl⟩)
                | (have _t := tokB; go_at_call 135; refine cjB.out.mono ?_; clear _t tokB; rintro e w3 ⟨rfl, rfl⟩))
              go_roundw
              case rel =>
                have e := told_succ p q
                rw [HPQ.out, if_neg (by simp), List.append_nil] at e
                exact ⟨q + 1, by omega, by go_num, by rw [e]; exact hown, hBw⟩
              case measure => simp [intOf]; omega
            | false =>
              have tokA : True := trivial
              have tokB : True := trivial
              have HPQ : Hid (p q = false) := by show _ = _; rw [HP.out, hbu.out, hbv.out]; rfl
              go_wp2_with (first
                | (have _t := tokA; go_at_call 135; refine cjA.out.mono ?_; clear _t tokA; rintro e w3 ⟨rfl, rfl⟩)
                | (have _t := tokB; go_at_call 135; refine cjB.out.mono ?_; clear _t tokB; rintro e w3 ⟨rfl, rfl⟩))
              go_roundw
              case rel =>
                have e := told_succ p q
                rw [HPQ.out, if_neg (by simp), List.append_nil] at e
                exact ⟨q + 1, by omega, by go_num, by rw [e]; exact hown, hBw⟩
              case measure => simp [intOf]; omega
        · skip
          have dk : ¬ (q : Int) < (k : Int) := by omega
          have cjB := Lib.hid (cB.out wr q hWr hqm)
          have dm : (q : Int) < (N : Int) := by omega
          obtain ⟨bu, hbu⟩ : ∃ b, Hid (bitAt us q = b) := ⟨_, Lib.hid rfl⟩
          obtain ⟨bv, hbv⟩ : ∃ b, Hid (bitAt vs q = b) := ⟨_, Lib.hid rfl⟩
          obtain rfl : bu = false := hbu.out.symm.trans (HO1.out.clear (by omega))
          rw [hbv.out] at cjB
          clear hWr
          cases bv with
          | true =>
            have tokB : True := trivial
            have HPQ : Hid (p q = false) := by show _ = _; rw [HP.out, hbu.out, hbv.out]; rfl
            go_wp2_with (first
              | (have _t := tokB; go_at_call 135; refine cjB.out.mono ?_; clear _t tokB; rintro e w3 ⟨rfl, rfl⟩))
            go_roundw
            case rel =>
              have e := told_succ p q
              rw [HPQ.out, if_neg (by simp), List.append_nil] at e
              exact ⟨q + 1, by omega, by go_num, by rw [e]; exact hown, hBw⟩
            case measure => simp [intOf]; omega
          | false =>
            have tokB : True := trivial
            have HPQ : Hid (p q = false) := by show _ = _; rw [HP.out, hbu.out, hbv.out]; rfl
            go_wp2_with (first
              | (have _t := tokB; go_at_call 135; refine cjB.out.mono ?_; clear _t tokB; rintro e w3 ⟨rfl, rfl⟩))
            go_roundw
            case rel =>
              have e := told_succ p q
              rw [HPQ.out, if_neg (by simp), List.append_nil] at e
              exact ⟨q + 1, by omega, by go_num, by rw [e]; exact hown, hBw⟩
            case measure => simp [intOf]; omega
      · obtain rfl : q = N := by omega
        obtain ⟨al, cl, rfl, hIs⟩ := is_of_owns hown.out
        have htl := told_le p q
        have HOf := Lib.hid (Of_ref (q : Int) al ((told p q).map fun (x : Nat) => (x : Int)) cl wr hIs (by rw [List.length_map]; omega))
        rw [HCL.out, HKK.out, List.length_map] at HOf
        obtain ⟨z0, z1, f0, f1⟩ := HR.out.below hBw.out HR.out.lt
        have HRr := Lib.hid (HR.out.below hBw.out HR.out.lt)
        have HWr := Lib.hid hWr
        obtain ⟨T, hT⟩ : ∃ T, (told p q).length = T := ⟨_, rfl⟩
        rw [hT] at HOf
        clear hIs hWr
        go_wp2_with fail
        refine HOf.out.mono ?_
        clear HOf z0 z1 f0 f1 x0 x1 y0 y1
        rintro e w5 ⟨g, rfl, hF, hb⟩
        have hg := hF.1
        have HF := Lib.hid hF
        have HB5 := Lib.hid (HWr.out.trans (hb.mono HWr.out.size))
        have hRlt := HRr.out.lt
        obtain ⟨z0, z1, f0, f1⟩ := HRr.out.below hb HRr.out.lt
        have hsz := HWr.out.size
        clear hF hb
        go_wp2_with fail
        exact bodyPost_ret (v := .agg #[.int .i64 (q : Int), .slice (some ⟨g, 0, none⟩) K K]) (by simp [results, Tryd.results92, go_sem, z0, z1]) rfl
          ⟨g, rfl, (HF.out.base hsz).block (heap_put2 _ _ _ _ _ (by omega)), below_put2 HB5.out (by omega) _ _⟩
  · have e : N = k := by rw [hmx, if_neg hkm]
    subst e
    have hki : ¬ (N : Int) < (m : Int) := by omega
    clear hmx hkm
    have hW1 : Below w.heap.size w (((w.alloc (.cells #[.int .i64 n1, .slice a1 L1 cap1] 35)).alloc (.cells #[.int .i64 n2, .slice a2 L2 cap2] 35)).alloc (.cells #[.int .i64 0, .slice none 0 0] 35)) := (((Below.refl _ _).alloc (Nat.le_refl _) _).alloc (by simp) _).alloc (by simp <;> omega) _
    have BA := ((Box.new w (.int .i64 n1) (.slice a1 L1 cap1) 35).alloc (.cells #[.int .i64 n2, .slice a2 L2 cap2] 35)).alloc (.cells #[.int .i64 0, .slice none 0 0] 35)
    have BB := (Box.new (w.alloc (.cells #[.int .i64 n1, .slice a1 L1 cap1] 35)) (.int .i64 n2) (.slice a2 L2 cap2) 35).alloc (.cells #[.int .i64 0, .slice none 0 0] 35)
    have BR := Box.new ((w.alloc (.cells #[.int .i64 n1, .slice a1 L1 cap1] 35)).alloc (.cells #[.int .i64 n2, .slice a2 L2 cap2] 35)) (.int .i64 0) (.slice none 0 0) 35
    simp only [World.size_alloc] at BB BR
    generalize hW : ((w.alloc (.cells #[.int .i64 n1, .slice a1 L1 cap1] 35)).alloc (.cells #[.int .i64 n2, .slice a2 L2 cap2] 35)).alloc (.cells #[.int .i64 0, .slice none 0 0] 35) = W1 at *
    have HA := Lib.hid BA
    have HB := Lib.hid BB
    have HR := Lib.hid BR
    have HW := Lib.hid hW1
    obtain ⟨x0, x1, -, -⟩ := BA
    clear BB BR hW1
    go_enter Tryd.func92, Tryd.ntmps92
    go_wp2_with fail
    refine (sA.out _ HW.out).mono ?_
    clear x0 x1 hW
    rintro e w1 ⟨rfl, hb⟩
    have HA1 := Lib.hid (HA.out.below hb HA.out.lt)
    have HB1 := Lib.hid (HB.out.below hb HB.out.lt)
    have HR1 := Lib.hid (HR.out.below hb HR.out.lt)
    have HW1 := Lib.hid (HW.out.trans (hb.mono HW.out.size))
    clear HA HB HR HW hb
    obtain ⟨x0, x1, -, -⟩ := id HB1.out
    go_wp2_with fail
    refine (sB.out _ HW1.out).mono ?_
    clear x0 x1
    rintro e w2 ⟨rfl, hb⟩
    have HA := Lib.hid (HA1.out.below hb HA1.out.lt)
    have HB := Lib.hid (HB1.out.below hb HB1.out.lt)
    have HR := Lib.hid (HR1.out.below hb HR1.out.lt)
    have HW := Lib.hid (HW1.out.trans (hb.mono HW1.out.size))
    clear HA1 HB1 HR1 HW1 hb sA sB
    go_wp2_with fail
    go_loopw [10, 11] (fun v i wr => ∃ q : Nat, q ≤ N ∧ i = .int .i64 q ∧ Hid (wr.ownsRow w2.heap.size 3 1 v (told p q).length ((told p q).map encI)) ∧ Hid (Below w2.heap.size w2 wr)) (fun _ i _ => N - (intOf i).toNat)
    case atStart => exact ⟨0, Nat.zero_le _, rfl, World.ownsRow_nil _ _ _ _, Below.refl _ _⟩
    case round =>
      obtain ⟨q, hq, rfl, hown, hBw⟩ := hrel
      have hWr := HW.out.trans (hBw.out.mono HW.out.size)
      obtain ⟨x0, x1, -, -⟩ := HA.out.below hBw.out HA.out.lt
      obtain ⟨y0, y1, -, -⟩ := HB.out.below hBw.out HB.out.lt
      by_cases hlt : q < N
      · have hqi : (q : Int) < (N : Int) := by omega
        have htl := told_le p q
        have h63 : (told p q).length + 1 ≤ maxLen := by unfold maxLen; omega
        have hby : ((told p q).length + 1) * 8 ≤ 140737488355328 := by omega
        have hqk : q < N := hlt
        by_cases hqm : q < m
        · skip
          have cjA := Lib.hid (cA.out wr q hWr hqk)
          have dk : (q : Int) < (N : Int) := by omega
          have cjB := Lib.hid (cB.out wr q hWr hqm)
          have dm : (q : Int) < (m : Int) := by omega
          obtain ⟨bu, hbu⟩ : ∃ b, Hid (bitAt us q = b) := ⟨_, Lib.hid rfl⟩
          obtain ⟨bv, hbv⟩ : ∃ b, Hid (bitAt vs q = b) := ⟨_, Lib.hid rfl⟩
          rw [hbu.out] at cjA
          rw [hbv.out] at cjB
          clear hWr
          cases bu with
          | true =>
            cases bv with
            | true =>
              have tokA : True := trivial
              have tokB : True := trivial
              have HPQ : Hid (p q = true) := by show _ = _; rw [HP.out, hbu.out, hbv.out]; rfl
              go_wp2_with (first
                | (have _t := tokA; go_at_call 135; refine cjA.out.mono ?_; clear _t tokA; rintro e w3 ⟨rfl, rfl⟩)
                | (have _t := tokB; go_at_call 135; refine cjB.out.mono ?_; clear _t tokB; rintro e w3 ⟨rfl, rfl⟩)
                | (at_builtin; refine wpList_append_own _ rfl _ _ 29 rfl w2.heap.size 3 i0 (.int .i64 0) 1 8 Tryd.underlying29 hi hz0 hz1 hz2 rfl (by decide) _ _ _ rfl (hown.out.alloc _) ⟨_, 0, none⟩ 1 1 [.int .i64 (q : Int)] rfl rfl (cell_one_new _ _ _) (by simp [Value.oneCell']) h63 hby (by have := hBw.out.size; simp; omega) ?_; intro v' w4 hown' hgrow _; have HO := Lib.hid hown'; have HG := Lib.hid hgrow; clear hown' hgrow))
              go_roundw
              case rel =>
                have e := told_succ p q
                rw [HPQ.out, if_pos rfl] at e
                refine ⟨q + 1, by omega, by go_num, ?_, ?_⟩
                · show w4.ownsRow _ 3 1 _ (told p (q + 1)).length ((told p (q + 1)).map encI)
                  rw [e]
                  simpa [encI] using HO.out
                · exact owns_grown (hBw.out.alloc hBw.out.size _) (hown.out.alloc _) HG.out (by have := hBw.out.size; simp; omega)
              case measure => simp [intOf]; omega
            | false =>
              have tokA : True := trivial
              have tokB : True := trivial
              have HPQ : Hid (p q = false) := by show _ = _; rw [HP.out, hbu.out, hbv.out]; rfl
              go_wp2_with (first
                | (have _t := tokA; go_at_call 135; refine cjA.out.mono ?_; clear _t tokA; rintro e w3 ⟨rfl, rfl⟩)
                | (have _t := tokB; go_at_call 135; refine cjB.out.mono ?_; clear _t tokB; rintro e w3 ⟨rfl, rfl⟩))
              go_roundw
              case rel =>
                have e := told_succ p q
                rw [HPQ.out, if_neg (by simp), List.append_nil] at e
                exact ⟨q + 1, by omega, by go_num, by rw [e]; exact hown, hBw⟩
              case measure => simp [intOf]; omega
          | false =>
            cases bv with
            | true =>
              have tokA : True := trivial
              have tokB : True := trivial
              have HPQ : Hid (p q = false) := by show _ = _; rw [HP.out, hbu.out, hbv.out]; rfl
              go_wp2_with (first
                | (have _t := tokA; go_at_call 135; refine cjA.out.mono ?_; clear _t tokA; rintro e w3 ⟨rfl, rfl⟩)
                | (have _t := tokB; go_at_call 135; refine cjB.out.mono ?_; clear _t tokB; rintro e w3 ⟨rfl, rfl⟩))
              go_roundw
              case rel =>
                have e := told_succ p q
                rw [HPQ.out, if_neg (by simp), List.append_nil] at e
                exact ⟨q + 1, by omega, by go_num, by rw [e]; exact hown, hBw⟩
              case measure => simp [intOf]; omega
            | false =>
              have tokA : True := trivial
              have tokB : True := trivial
              have HPQ : Hid (p q = false) := by show _ = _; rw [HP.out, hbu.out, hbv.out]; rfl
              go_wp2_with (first
                | (have _t := tokA; go_at_call 135; refine cjA.out.mono ?_; clear _t tokA; rintro e w3 ⟨rfl, rfl⟩)
                | (have _t := tokB; go_at_call 135; refine cjB.out.mono ?_; clear _t tokB; rintro e w3 ⟨rfl, rfl⟩))
              go_roundw
              case rel =>
                have e := told_succ p q
                rw [HPQ.out, if_neg (by simp), List.append_nil] at e
                exact ⟨q + 1, by omega, by go_num, by rw [e]; exact hown, hBw⟩
              case measure => simp [intOf]; omega
        · skip
          have cjA := Lib.hid (cA.out wr q hWr hqk)
          have dk : (q : Int) < (N : Int) := by omega
          have dm : ¬ (q : Int) < (m : Int) := by omega
          obtain ⟨bu, hbu⟩ : ∃ b, Hid (bitAt us q = b) := ⟨_, Lib.hid rfl⟩
          obtain ⟨bv, hbv⟩ : ∃ b, Hid (bitAt vs q = b) := ⟨_, Lib.hid rfl⟩
          rw [hbu.out] at cjA
          obtain rfl : bv = false := hbv.out.symm.trans (HO2.out.clear (by omega))
          clear hWr
          cases bu with
          | true =>
            have tokA : True := trivial
            have HPQ : Hid (p q = false) := by show _ = _; rw [HP.out, hbu.out, hbv.out]; rfl
            go_wp2_with (first
              | (have _t := tokA; go_at_call 135; refine cjA.out.mono ?_; clear _t tokA; rintro e w3 ⟨rfl, rfl⟩))
            go_roundw
            case rel =>
              have e := told_succ p q
              rw [HPQ.out, if_neg (by simp), List.append_nil] at e
              exact ⟨q + 1, by omega, by go_num, by rw [e]; exact hown, hBw⟩
            case measure => simp [intOf]; omega
          | false =>
            have tokA : True := trivial
            have HPQ : Hid (p q = false) := by show _ = _; rw [HP.out, hbu.out, hbv.out]; rfl
            go_wp2_with (first
              | (have _t := tokA; go_at_call 135; refine cjA.out.mono ?_; clear _t tokA; rintro e w3 ⟨rfl, rfl⟩))
            go_roundw
            case rel =>
              have e := told_succ p q
              rw [HPQ.out, if_neg (by simp), List.append_nil] at e
              exact ⟨q + 1, by omega, by go_num, by rw [e]; exact hown, hBw⟩
            case measure => simp [intOf]; omega
      · obtain rfl : q = N := by omega
        obtain ⟨al, cl, rfl, hIs⟩ := is_of_owns hown.out
        have htl := told_le p q
        have HOf := Lib.hid (Of_ref (q : Int) al ((told p q).map fun (x : Nat) => (x : Int)) cl wr hIs (by rw [List.length_map]; omega))
        rw [HCL.out, HKK.out, List.length_map] at HOf
        obtain ⟨z0, z1, f0, f1⟩ := HR.out.below hBw.out HR.out.lt
        have HRr := Lib.hid (HR.out.below hBw.out HR.out.lt)
        have HWr := Lib.hid hWr
        obtain ⟨T, hT⟩ : ∃ T, (told p q).length = T := ⟨_, rfl⟩
        rw [hT] at HOf
        clear hIs hWr
        go_wp2_with fail
        refine HOf.out.mono ?_
        clear HOf z0 z1 f0 f1 x0 x1 y0 y1
        rintro e w5 ⟨g, rfl, hF, hb⟩
        have hg := hF.1
        have HF := Lib.hid hF
        have HB5 := Lib.hid (HWr.out.trans (hb.mono HWr.out.size))
        have hRlt := HRr.out.lt
        obtain ⟨z0, z1, f0, f1⟩ := HRr.out.below hb HRr.out.lt
        have hsz := HWr.out.size
        clear hF hb
        go_wp2_with fail
        exact bodyPost_ret (v := .agg #[.int .i64 (q : Int), .slice (some ⟨g, 0, none⟩) K K]) (by simp [results, Tryd.results92, go_sem, z0, z1]) rfl
          ⟨g, rfl, (HF.out.base hsz).block (heap_put2 _ _ _ _ _ (by omega)), below_put2 HB5.out (by omega) _ _⟩
end Go.Proofs.YtmcbedlmgffckaaDoor.Bi

namespace Go.Proofs.YtmcbedlmgffckaaDoor.Bi
open Go Go.RowKit Go.Sort

theorem of_told {N : Nat} (p : Nat → Bool) {js : List Nat} (hok : Ok N js) (hp : ∀ i, bitAt js i = p i) : ofW N ((told p N).map fun (x : Nat) => (x : Int)) = js := by
  apply (ok_of hok.le _).ext hok
  intro i hi
  rw [bitAt_of, hp, Bool.eq_iff_iff]
  simp only [List.any_map, List.any_eq_true, Function.comp, decide_eq_true_eq, told, List.mem_filter, List.mem_range]
  constructor
  · rintro ⟨x, ⟨_, hx⟩, _, _, e⟩
    rw [← e]; simpa using hx
  · intro h
    exact ⟨i, ⟨hi, h⟩, by omega, by omega, by simp⟩

theorem Fresh.out_of {N : Nat} {W : World} {g : Nat} {ws us : List Nat} (h : Fresh N W g ws) (e : ws = us) : Fresh N W g us := e ▸ h

set_option maxRecDepth 100000 in
set_option maxHeartbeats 2000000 in
/-- Union, of the document's answer. -/
theorem Union_racts {va vb : Value} {k m : Nat} {us vs : List Nat} {w : World} (ha : Acts w va k us) (hb : Acts w vb m vs) {N K : Nat} (hN : max k m = N) (hK : wcount N = K) :
    Calls Tryd.prog 57 #[va, vb] w fun e w' => ∃ g, e = .returned (.agg #[.int .i64 (N : Int), .slice (some ⟨g, 0, none⟩) K K]) ∧ Fresh w.heap.size w' g (joinW orN k m us vs) ∧ Below w.heap.size w w' := by
  have ok1 := ha.ok
  have ok2 := hb.ok
  have okj := ok1.union ok2
  rw [hN] at okj
  have hbj := bit_union ok1 ok2
  obtain ⟨n1, ws1, ⟨a1, cap1, rfl, hWd1⟩, hl1, hWB1, hk, hus⟩ := ha
  obtain ⟨n2, ws2, ⟨a2, cap2, rfl, hWd2⟩, hl2, hWB2, hm, hvs⟩ := hb
  obtain ⟨js, hjs⟩ : ∃ js, joinW orN k m us vs = js := ⟨_, rfl⟩
  rw [hjs] at okj hbj ⊢
  have HP : Hid (∀ W, Below w.heap.size w W → Calls Tryd.prog 92 #[.agg #[.int .i64 n1, .slice a1 ws1.length cap1], .agg #[.int .i64 n2, .slice a2 ws2.length cap2], .int .i64 0] W fun e w' =>
      ∃ g, e = .returned (.agg #[.int .i64 (N : Int), .slice (some ⟨g, 0, none⟩) K K]) ∧ Fresh W.heap.size w' g js ∧ Below W.heap.size W w') := fun W hw => by
    refine (pick0_ref n1 a1 ws1 cap1 n2 a2 ws2 cap2 W ((hWd1.below hw).mono hw.size) hWB1 hl1 ((hWd2.below hw).mono hw.size) hWB2 hl2 k m us vs hk hm hus hvs N K hN hK (fun i => bitAt js i) (fun i => by rw [hbj])).mono ?_
    rintro e w' ⟨g, he, hF, hb⟩
    exact ⟨g, he, hF.out_of (of_told _ okj (fun _ => rfl)), hb⟩
  obtain ⟨L1, hL1⟩ : ∃ L, ws1.length = L := ⟨_, rfl⟩
  obtain ⟨L2, hL2⟩ : ∃ L, ws2.length = L := ⟨_, rfl⟩
  rw [hL1, hL2] at HP ⊢
  clear hWd1 hWd2 hWB1 hWB2 hl1 hl2 hk hm hus hvs hN hK hbj okj ok1 ok2 hjs hL1 hL2
  have hW1 : Below w.heap.size w (((w.alloc (.cells #[.int .i64 n1, .slice a1 L1 cap1] 35)).alloc (.cells #[.int .i64 n2, .slice a2 L2 cap2] 35)).alloc (.cells #[.int .i64 0, .slice none 0 0] 35)) := (((Below.refl _ _).alloc (Nat.le_refl _) _).alloc (by simp) _).alloc (by simp <;> omega) _
  have BA := ((Box.new w (.int .i64 n1) (.slice a1 L1 cap1) 35).alloc (.cells #[.int .i64 n2, .slice a2 L2 cap2] 35)).alloc (.cells #[.int .i64 0, .slice none 0 0] 35)
  have BB := (Box.new (w.alloc (.cells #[.int .i64 n1, .slice a1 L1 cap1] 35)) (.int .i64 n2) (.slice a2 L2 cap2) 35).alloc (.cells #[.int .i64 0, .slice none 0 0] 35)
  have BR := Box.new ((w.alloc (.cells #[.int .i64 n1, .slice a1 L1 cap1] 35)).alloc (.cells #[.int .i64 n2, .slice a2 L2 cap2] 35)) (.int .i64 0) (.slice none 0 0) 35
  simp only [World.size_alloc] at BB BR
  generalize hW : ((w.alloc (.cells #[.int .i64 n1, .slice a1 L1 cap1] 35)).alloc (.cells #[.int .i64 n2, .slice a2 L2 cap2] 35)).alloc (.cells #[.int .i64 0, .slice none 0 0] 35) = W1 at *
  have HR := Lib.hid BR
  have HW := Lib.hid hW1
  obtain ⟨x0, x1, -, -⟩ := BA
  obtain ⟨y0, y1, -, -⟩ := BB
  clear BR hW1
  go_enter Tryd.func57, Tryd.ntmps57
  go_wp2_with fail
  refine (HP.out _ HW.out).mono ?_
  clear x0 x1 y0 y1 hW HP
  rintro e w1 ⟨g, rfl, hF, hb⟩
  have HB := Lib.hid (HW.out.trans (hb.mono HW.out.size))
  obtain ⟨z0, z1, f0, f1⟩ := HR.out.below hb HR.out.lt
  have hgg : Hid (w.heap.size + 1 + 1 ≠ g) := by
    have h1 := hF.1
    have h2 := HR.out.lt
    show _ ≠ _
    omega
  have HF := Lib.hid (hF.base HW.out.size)
  clear hF hb
  go_wp2_with fail
  exact bodyPost_ret (v := .agg #[.int .i64 (N : Int), .slice (some ⟨g, 0, none⟩) K K]) (by simp [results, Tryd.results57, go_sem, z0, z1]) rfl
    ⟨g, rfl, HF.out.block (heap_put2 _ _ _ _ _ (Ne.symm hgg.out)), below_put2 HB.out (by omega) _ _⟩

set_option maxRecDepth 100000 in
set_option maxHeartbeats 2000000 in
/-- Minus, of the document's answer. -/
theorem Minus_racts {va vb : Value} {k m : Nat} {us vs : List Nat} {w : World} (ha : Acts w va k us) (hb : Acts w vb m vs) {N K : Nat} (hN : max k m = N) (hK : wcount N = K) :
    Calls Tryd.prog 60 #[va, vb] w fun e w' => ∃ g, e = .returned (.agg #[.int .i64 (N : Int), .slice (some ⟨g, 0, none⟩) K K]) ∧ Fresh w.heap.size w' g (joinW minusN k m us vs) ∧ Below w.heap.size w w' := by
  have ok1 := ha.ok
  have ok2 := hb.ok
  have okj := ok1.minus ok2
  rw [hN] at okj
  have hbj := bit_minus ok1 ok2
  obtain ⟨n1, ws1, ⟨a1, cap1, rfl, hWd1⟩, hl1, hWB1, hk, hus⟩ := ha
  obtain ⟨n2, ws2, ⟨a2, cap2, rfl, hWd2⟩, hl2, hWB2, hm, hvs⟩ := hb
  obtain ⟨js, hjs⟩ : ∃ js, joinW minusN k m us vs = js := ⟨_, rfl⟩
  rw [hjs] at okj hbj ⊢
  have HP : Hid (∀ W, Below w.heap.size w W → Calls Tryd.prog 92 #[.agg #[.int .i64 n1, .slice a1 ws1.length cap1], .agg #[.int .i64 n2, .slice a2 ws2.length cap2], .int .i64 1] W fun e w' =>
      ∃ g, e = .returned (.agg #[.int .i64 (N : Int), .slice (some ⟨g, 0, none⟩) K K]) ∧ Fresh W.heap.size w' g js ∧ Below W.heap.size W w') := fun W hw => by
    refine (pick1_ref n1 a1 ws1 cap1 n2 a2 ws2 cap2 W ((hWd1.below hw).mono hw.size) hWB1 hl1 ((hWd2.below hw).mono hw.size) hWB2 hl2 k m us vs hk hm hus hvs N K hN hK (fun i => bitAt js i) (fun i => by rw [hbj])).mono ?_
    rintro e w' ⟨g, he, hF, hb⟩
    exact ⟨g, he, hF.out_of (of_told _ okj (fun _ => rfl)), hb⟩
  obtain ⟨L1, hL1⟩ : ∃ L, ws1.length = L := ⟨_, rfl⟩
  obtain ⟨L2, hL2⟩ : ∃ L, ws2.length = L := ⟨_, rfl⟩
  rw [hL1, hL2] at HP ⊢
  clear hWd1 hWd2 hWB1 hWB2 hl1 hl2 hk hm hus hvs hN hK hbj okj ok1 ok2 hjs hL1 hL2
  have hW1 : Below w.heap.size w (((w.alloc (.cells #[.int .i64 n1, .slice a1 L1 cap1] 35)).alloc (.cells #[.int .i64 n2, .slice a2 L2 cap2] 35)).alloc (.cells #[.int .i64 0, .slice none 0 0] 35)) := (((Below.refl _ _).alloc (Nat.le_refl _) _).alloc (by simp) _).alloc (by simp <;> omega) _
  have BA := ((Box.new w (.int .i64 n1) (.slice a1 L1 cap1) 35).alloc (.cells #[.int .i64 n2, .slice a2 L2 cap2] 35)).alloc (.cells #[.int .i64 0, .slice none 0 0] 35)
  have BB := (Box.new (w.alloc (.cells #[.int .i64 n1, .slice a1 L1 cap1] 35)) (.int .i64 n2) (.slice a2 L2 cap2) 35).alloc (.cells #[.int .i64 0, .slice none 0 0] 35)
  have BR := Box.new ((w.alloc (.cells #[.int .i64 n1, .slice a1 L1 cap1] 35)).alloc (.cells #[.int .i64 n2, .slice a2 L2 cap2] 35)) (.int .i64 0) (.slice none 0 0) 35
  simp only [World.size_alloc] at BB BR
  generalize hW : ((w.alloc (.cells #[.int .i64 n1, .slice a1 L1 cap1] 35)).alloc (.cells #[.int .i64 n2, .slice a2 L2 cap2] 35)).alloc (.cells #[.int .i64 0, .slice none 0 0] 35) = W1 at *
  have HR := Lib.hid BR
  have HW := Lib.hid hW1
  obtain ⟨x0, x1, -, -⟩ := BA
  obtain ⟨y0, y1, -, -⟩ := BB
  clear BR hW1
  go_enter Tryd.func60, Tryd.ntmps60
  go_wp2_with fail
  refine (HP.out _ HW.out).mono ?_
  clear x0 x1 y0 y1 hW HP
  rintro e w1 ⟨g, rfl, hF, hb⟩
  have HB := Lib.hid (HW.out.trans (hb.mono HW.out.size))
  obtain ⟨z0, z1, f0, f1⟩ := HR.out.below hb HR.out.lt
  have hgg : Hid (w.heap.size + 1 + 1 ≠ g) := by
    have h1 := hF.1
    have h2 := HR.out.lt
    show _ ≠ _
    omega
  have HF := Lib.hid (hF.base HW.out.size)
  clear hF hb
  go_wp2_with fail
  exact bodyPost_ret (v := .agg #[.int .i64 (N : Int), .slice (some ⟨g, 0, none⟩) K K]) (by simp [results, Tryd.results60, go_sem, z0, z1]) rfl
    ⟨g, rfl, HF.out.block (heap_put2 _ _ _ _ _ (Ne.symm hgg.out)), below_put2 HB.out (by omega) _ _⟩

end Go.Proofs.YtmcbedlmgffckaaDoor.Bi

namespace Go.Proofs.YtmcbedlmgffckaaDoor.Bi
open Go Go.RowKit Go.Sort

set_option maxHeartbeats 1000000 in
/-- Ints, of the document's answer. -/
theorem Ints_ref (a1 a2 : Option Addr) (w1 w2 : List Int) (c1 c2 : Nat) (w : World) (h1 : Is w.heap.size w a1 w1) (h2 : Is w.heap.size w a2 w2) (hl1 : w1.length ≤ 2000) :
    Calls Tryd.prog 14 #[.slice a1 w1.length c1, .slice a2 w2.length c2] w fun e w' => e = .returned (.bool (decide (w1 = w2))) ∧ Below w.heap.size w w' := by
  by_cases hl : w1.length = w2.length
  · have H1 := Lib.hid h1
    have H2 := Lib.hid h2
    obtain ⟨L, hL⟩ : ∃ L, w1.length = L := ⟨_, rfl⟩
    have hL2 : w2.length = L := by omega
    rw [hL] at hl1
    rw [hL, hL2]
    have HL := Lib.hid hL
    have HL2 := Lib.hid hL2
    have hb0 : ((L : Int) != (L : Int)) = false := by simp
    clear h1 h2 hl hL hL2
    go_enter Tryd.func14, Tryd.ntmps14
    go_wp2
    go_loopw [5] (fun i wr => ∃ k : Nat, k ≤ L ∧ i = .int .i64 k ∧ Hid (w1.take k = w2.take k) ∧ Below w.heap.size w wr) (fun i _ => L - (intOf i).toNat)
    case atStart => exact ⟨0, Nat.zero_le _, rfl, Lib.hid rfl, Below.refl _ _⟩
    case round =>
      obtain ⟨k, hk, rfl, hpre, hnx⟩ := hrel
      by_cases hlt : k < L
      · obtain ⟨b1, o1, rfl, hb1, e1⟩ := H1.out k (by rw [HL.out]; exact hlt)
        obtain ⟨b2, o2, rfl, hb2, e2⟩ := H2.out k (by rw [HL2.out]; exact hlt)
        have g1 := (hnx.cell (p := ⟨b1, o1 + k, none⟩) hb1).trans e1
        have g2 := (hnx.cell (p := ⟨b2, o2 + k, none⟩) hb2).trans e2
        obtain ⟨x, hx⟩ : ∃ x, w1[k]?.getD 0 = x := ⟨_, rfl⟩
        obtain ⟨y, hy⟩ : ∃ y, w2[k]?.getD 0 = y := ⟨_, rfl⟩
        rw [hx] at g1
        rw [hy] at g2
        have HX := Lib.hid hx
        have HY := Lib.hid hy
        have hki : (k : Int) < (L : Int) := by omega
        clear e1 e2 hx hy
        by_cases hxy : x = y
        · subst hxy
          have hbb : (x != x) = false := by simp
          go_wp2
          go_quiet (fail)
          go_wp2
          go_roundw
          case rel =>
            refine ⟨k + 1, by omega, by go_num, ?_, below_drewN hnx _⟩
            have i1 : k < w1.length := by rw [HL.out]; exact hlt
            have i2 : k < w2.length := by rw [HL2.out]; exact hlt
            have e1 := HX.out
            have e2 := HY.out
            simp only [i1, i2, List.getElem?_eq_getElem, Option.getD_some] at e1 e2
            show w1.take (k + 1) = w2.take (k + 1)
            rw [List.take_succ_eq_append_getElem i1, List.take_succ_eq_append_getElem i2, hpre.out, e1, e2]
          case measure => simp [intOf]; omega
        · have hbb : (x != y) = true := by rw [bne_iff_ne]; exact hxy
          have HXY := Lib.hid hxy
          clear hxy
          go_wp2
          go_quiet (fail)
          go_wp2
          go_ret
          refine ⟨ret_bool ?_, below_drewN hnx _⟩
          rw [eq_comm, decide_eq_false_iff_not]
          intro he
          apply HXY.out
          rw [← HX.out, ← HY.out, he]
      · obtain rfl : k = L := by omega
        go_wp2
        go_ret
        refine ⟨ret_bool ?_, hnx⟩
        have := hpre.out
        rw [List.take_of_length_le (by rw [HL.out]; exact Nat.le_refl _), List.take_of_length_le (by rw [HL2.out]; exact Nat.le_refl _)] at this
        simp [this]
  · have hne : ¬ w1 = w2 := fun e => hl (by rw [e])
    have hb0 : ((w1.length : Int) != (w2.length : Int)) = true := by rw [bne_iff_ne]; omega
    have hd : decide (w1 = w2) = false := by simp [hne]
    rw [hd]
    clear h1 h2 hl hne hd
    go_enter Tryd.func14, Tryd.ntmps14
    go_wp2
    go_ret
    exact ⟨rfl, Below.refl _ _⟩


theorem List_racts {va : Value} {n : Nat} {us : List Nat} {w : World} (ha : Acts w va n us) :
    Calls Tryd.prog 93 #[va] w fun e w' => ∃ a cap, e = .returned (.slice a (nums us).length cap) ∧ Is w'.heap.size w' a ((nums us).map fun (x : Nat) => (x : Int)) ∧ Below w.heap.size w w' := by
  obtain ⟨n1, ws1, ⟨a1, cap1, rfl, hWd1⟩, hl1, hWB1, hk, hus⟩ := ha
  refine (List_ref n1 a1 ws1 cap1 w hWd1 hWB1 hl1).mono ?_
  rintro e w' ⟨u, rfl, hown, hb⟩
  rw [hus] at hown
  obtain ⟨a, cap, rfl, hIs⟩ := is_of_owns hown
  exact ⟨a, cap, rfl, hIs, hb⟩

theorem size_racts {va : Value} {n : Nat} {us : List Nat} {w : World} (ha : Acts w va n us) :
    Calls Tryd.prog 94 #[va] w fun e w' => e = .returned (.int .i64 (n : Int)) ∧ Below w.heap.size w w' := by
  obtain ⟨n1, ws1, ⟨a1, cap1, rfl, hWd1⟩, hl1, hWB1, hk, hus⟩ := ha
  rw [← hk]
  exact size_ref n1 a1 ws1 cap1 w hWd1 hWB1 hl1

theorem leq_minus {k m : Nat} {us vs : List Nat} (ok1 : Ok k us) (ok2 : Ok m vs) : leqB us m vs = decide ((nums (joinW minusN k m us vs)).length = 0) := by
  rw [Bool.eq_iff_iff, leq_iff ok2, decide_eq_true_eq, count_zero_iff (ok1.minus ok2)]
  constructor
  · intro h i
    rw [bit_minus ok1 ok2]
    cases hb : bitAt us i with
    | false => rfl
    | true => rw [h i hb]; rfl
  · intro h i hi
    have := h i
    rw [bit_minus ok1 ok2, hi] at this
    simpa using this

theorem nums_inj {n : Nat} {us vs : List Nat} (h : Ok n us) (k : Ok n vs) : (nums us).map (fun (x : Nat) => (x : Int)) = (nums vs).map (fun (x : Nat) => (x : Int)) ↔ us = vs := by
  constructor
  · intro e
    rw [← of_nums h, ← of_nums k, e]
  · intro e; rw [e]



end Go.Proofs.YtmcbedlmgffckaaDoor.Bi

namespace Go.Proofs.YtmcbedlmgffckaaDoor.Bi
open Go Go.RowKit Go.Sort



end Go.Proofs.YtmcbedlmgffckaaDoor.Bi

namespace Go.Proofs.YtmcbedlmgffckaaDoor.Bi
open Go Go.RowKit Go.Sort

/-- Numbers of the call's own, as a slice that is read. -/
theorem is_of_ints {n0 : Nat} {W : World} {u : Value} {l : List Int} {T : Nat} (h : W.ownsRow n0 3 1 u T (l.map (Value.int .i64))) : ∃ a cap, u = .slice a T cap ∧ l.length = T ∧ Is W.heap.size W a l := by
  obtain ⟨hlen, ⟨rfl, h0⟩ | ⟨g, cap, cur, rfl, hb, hc, hle, _, hsz, htk⟩⟩ := h
  · subst h0
    have : l = [] := List.eq_nil_of_length_eq_zero (by simpa using hlen)
    subst this
    exact ⟨none, 0, rfl, rfl, fun j hj => absurd hj (Nat.not_lt_zero _)⟩
  · have hl : l.length = T := by simpa using hlen
    refine ⟨_, cap, rfl, hl, fun j hj => ?_⟩
    refine ⟨g, 0, rfl, (Array.getElem?_eq_some_iff.1 hc).1, ?_⟩
    have e : (cur.toList.take (T * 1))[j]? = (l.map (Value.int .i64))[j]? := by rw [htk]
    rw [Nat.mul_one, List.getElem?_take_of_lt (by omega)] at e
    have e2 : cur[j]? = some (.int .i64 (l[j]?.getD 0)) := by
      rw [← Array.getElem?_toList, e]
      simp [hj]
    rw [Nat.zero_add]
    simp only [World.cell?, hc]
    simpa using e2

theorem map_encI (xs : List Nat) : xs.map encI = (xs.map fun (x : Nat) => (x : Int)).map (Value.int .i64) := by
  rw [List.map_map]; rfl

theorem List_own {va : Value} {n : Nat} {us : List Nat} {w : World} (ha : Acts w va n us) :
    Calls Tryd.prog 93 #[va] w fun e w' => ∃ u, e = .returned u ∧ w'.ownsRow w.heap.size 3 1 u (nums us).length (((nums us).map fun (x : Nat) => (x : Int)).map (Value.int .i64)) ∧ Below w.heap.size w w' := by
  obtain ⟨n1, ws1, ⟨a1, cap1, rfl, hWd1⟩, hl1, hWB1, hk, hus⟩ := ha
  refine (List_ref n1 a1 ws1 cap1 w hWd1 hWB1 hl1).mono ?_
  rintro e w' ⟨u, rfl, hown, hb⟩
  rw [hus, map_encI] at hown
  exact ⟨u, rfl, hown, hb⟩

theorem clamp_of_le {N : Nat} (h : N ≤ 1024) : clampN (N : Int) = N := by unfold clampN; split <;> (try split) <;> omega

theorem Of_at {k K : Nat} (hk : k ≤ 1024) (hK : wcount k = K) {a : Option Addr} {l : List Int} {T cap : Nat} {W : World} (hIs : Is W.heap.size W a l) (hT : l.length = T) (hl : T ≤ 2000) :
    Calls Tryd.prog 61 #[.int .i64 (k : Int), .slice a T cap] W fun e w' => ∃ g, e = .returned (.agg #[.int .i64 (k : Int), .slice (some ⟨g, 0, none⟩) K K]) ∧ Fresh W.heap.size w' g (ofW k l) ∧ Below W.heap.size W w' := by
  have h := Of_ref (k : Int) a l cap W hIs (by omega)
  rw [clamp_of_le hk, hK, hT] at h
  exact h

set_option maxRecDepth 100000 in
set_option maxHeartbeats 4000000 in
/-- With, of the document's answer. -/
theorem With_racts {va : Value} {k : Nat} {us : List Nat} {w : World} (ha : Acts w va k us) (i : Int) {K : Nat} (hK : wcount k = K) :
    Calls Tryd.prog 59 #[va, .int .i64 i] w fun e w' => ∃ g, e = .returned (.agg #[.int .i64 (k : Int), .slice (some ⟨g, 0, none⟩) K K]) ∧ Fresh w.heap.size w' g (putW k us i) ∧ Below w.heap.size w w' := by
  have ok1 := ha.ok
  have hk1 := ok1.le
  have HA0 := Lib.hid ha
  obtain ⟨l1, hl1⟩ : ∃ l : List Int, ((nums us).map fun (x : Nat) => (x : Int)) = l := ⟨_, rfl⟩
  obtain ⟨T, hT⟩ : ∃ T, (nums us).length = T := ⟨_, rfl⟩
  have hT1 : T ≤ 1024 := by rw [← hT]; have := count_le ok1; omega
  have hofw : ofW k (l1 ++ [i]) = putW k us i := by rw [ofW_snoc, ← hl1, of_nums ok1]
  have FL : Hid (∀ W, Below w.heap.size w W → Calls Tryd.prog 93 #[va] W fun e w' => ∃ u, e = .returned u ∧ w'.ownsRow W.heap.size 3 1 u T (l1.map (Value.int .i64)) ∧ Below W.heap.size W w') := fun W hW => by
    have h := List_own (HA0.out.below hW)
    rw [hl1, hT] at h
    exact h
  have FZ : Hid (∀ W, Below w.heap.size w W → Calls Tryd.prog 94 #[va] W fun e w' => e = .returned (.int .i64 (k : Int)) ∧ Below W.heap.size W w') := fun W hW => size_racts (HA0.out.below hW)
  have FO : Hid (∀ W a cap, Is W.heap.size W a (l1 ++ [i]) → Calls Tryd.prog 61 #[.int .i64 (k : Int), .slice a (T + 1) cap] W fun e w' => ∃ g, e = .returned (.agg #[.int .i64 (k : Int), .slice (some ⟨g, 0, none⟩) K K]) ∧ Fresh W.heap.size w' g (putW k us i) ∧ Below W.heap.size W w') := fun W a cap hIs => by
    have h := Of_at (cap := cap) hk1 hK hIs (T := T + 1) (by rw [List.length_append, ← hl1, List.length_map, hT]; rfl) (by omega)
    rw [hofw] at h
    exact h
  obtain ⟨n1, ws1, ⟨a1, cap1, rfl, -⟩, -⟩ := ha
  obtain ⟨L1, hL1⟩ : ∃ L, ws1.length = L := ⟨_, rfl⟩
  rw [hL1] at FL FZ ⊢
  obtain ⟨i0, hi, hz0, hz1, hz2⟩ := info_parts Tryd_info3
  generalize putW k us i = js at *
  clear HA0 ok1 hk1 hl1 hT hofw hL1 hK
  have hW1 : Below w.heap.size w ((w.alloc (.cells #[.int .i64 n1, .slice a1 L1 cap1] 35)).alloc (.cells #[.int .i64 0, .slice none 0 0] 35)) := ((Below.refl _ _).alloc (Nat.le_refl _) _).alloc (by simp) _
  have BA := (Box.new w (.int .i64 n1) (.slice a1 L1 cap1) 35).alloc (.cells #[.int .i64 0, .slice none 0 0] 35)
  have BR := Box.new (w.alloc (.cells #[.int .i64 n1, .slice a1 L1 cap1] 35)) (.int .i64 0) (.slice none 0 0) 35
  simp only [World.size_alloc] at BR
  generalize hW : (w.alloc (.cells #[.int .i64 n1, .slice a1 L1 cap1] 35)).alloc (.cells #[.int .i64 0, .slice none 0 0] 35) = W1 at *
  have HW := Lib.hid hW1
  have HA := Lib.hid BA
  have HR := Lib.hid BR
  obtain ⟨x0, x1, -, -⟩ := BA
  clear hW1 BR
  have h63 : T + 1 ≤ maxLen := by unfold maxLen; omega
  have hby : (T + 1) * 8 ≤ 140737488355328 := by omega
  go_enter Tryd.func59, Tryd.ntmps59
  go_wp2_with fail
  refine (FL.out _ HW.out).mono ?_
  clear FL x0 x1 hW
  rintro e w1 ⟨u, rfl, hown, hb⟩
  have HO := Lib.hid hown
  have HB1 := Lib.hid hb
  clear hown hb
  go_wp2_with (at_builtin; refine wpList_append_own _ rfl _ _ 29 rfl W1.heap.size 3 i0 (.int .i64 0) 1 8 Tryd.underlying29 hi hz0 hz1 hz2 rfl (by decide) _ _ _ rfl (HO.out.alloc _) ⟨_, 0, none⟩ 1 1 [.int .i64 i] rfl rfl (cell_one_new _ _ _) (by simp [Value.oneCell']) h63 hby (by have := HB1.out.size; simp; omega) ?_; intro v' w4 hown' hgrow _; have HB4 := Lib.hid (owns_grown (HB1.out.alloc HB1.out.size _) (HO.out.alloc _) hgrow (by have := HB1.out.size; simp; omega)); have HO4 := Lib.hid hown'; obtain ⟨x0, x1, -, -⟩ := HA.out.below HB4.out HA.out.lt; clear hown' hgrow)
  refine (FZ.out _ (HW.out.trans (HB4.out.mono HW.out.size))).mono ?_
  clear x0 x1
  rintro e w5 ⟨rfl, hb⟩
  have hown4 : w4.ownsRow W1.heap.size 3 1 v' (T + 1) ((l1 ++ [i]).map (Value.int .i64)) := by simpa using HO4.out
  obtain ⟨al, cl, rfl, -, hIs⟩ := is_of_ints hown4
  have HI5 := Lib.hid ((hIs.below hb).mono hb.size)
  have HB5 := Lib.hid (HB4.out.trans (hb.mono HB4.out.size))
  clear hIs hown4 HO4 hb
  go_wp2_with fail
  refine (FO.out _ _ _ HI5.out).mono ?_
  rintro e w6 ⟨g, rfl, hF, hb⟩
  have hg1 := hF.1
  have HF := Lib.hid hF
  have hs1 := HB5.out.size
  have hs0 := HW.out.size
  have hrl := HR.out.lt
  have HB6 := Lib.hid (HB5.out.trans (hb.mono HB5.out.size))
  obtain ⟨z0, z1, f0, f1⟩ := HR.out.below HB6.out HR.out.lt
  clear hF hb
  go_wp2_with fail
  exact bodyPost_ret (v := .agg #[.int .i64 (k : Int), .slice (some ⟨g, 0, none⟩) K K]) (by simp [results, Tryd.results59, go_sem, z0, z1]) rfl
    ⟨g, rfl, (HF.out.base (by omega)).block (heap_put2 _ _ _ _ _ (by omega)), below_put2 (HW.out.trans (HB6.out.mono HW.out.size)) (by omega) _ _⟩
end Go.Proofs.YtmcbedlmgffckaaDoor.Bi

namespace Go.Proofs.YtmcbedlmgffckaaDoor.Bi
open Go Go.RowKit Go.Sort

/-- A set's numbers but one, as words. -/
theorem of_drop {k : Nat} {us : List Nat} (h : Ok k us) (i : Int) : ofW k ((((nums us).map fun (x : Nat) => (x : Int))).filter (fun x => x != i)) = dropW k us i := by
  apply (ok_of h.le _).ext (h.drop i)
  intro j hj
  have e : bitAt (dropW k us i) j = (bitAt us j && decide ((j : Int) ≠ i)) := by
    by_cases hx : 0 ≤ i ∧ i < k
    · rw [bitAt_drop h.len hx.1 hx.2]
      congr 1
      rw [Bool.eq_iff_iff, decide_eq_true_eq, decide_eq_true_eq]
      omega
    · rw [dropW_out hx]
      have : (j : Int) ≠ i := by omega
      simp [this]
  rw [bitAt_of, e, Bool.eq_iff_iff]
  simp only [List.any_eq_true, List.mem_filter, List.mem_map, decide_eq_true_eq, Bool.and_eq_true, bne_iff_ne]
  constructor
  · rintro ⟨x, ⟨⟨y, hy, rfl⟩, hne⟩, h0, hk, hx⟩
    have : y = j := by omega
    subst this
    exact ⟨mem_nums.1 hy, hne⟩
  · rintro ⟨hb, hne⟩
    exact ⟨(j : Int), ⟨⟨j, mem_nums.2 hb, rfl⟩, hne⟩, by omega, by omega, by omega⟩

/-- What is kept of the first q. -/
def kept (l : List Int) (i : Int) (q : Nat) : List Int := (l.take q).filter (fun x => x != i)
theorem kept_succ (l : List Int) (i : Int) (q : Nat) (h : q < l.length) : kept l i (q + 1) = kept l i q ++ (if l[q]?.getD 0 != i then [l[q]?.getD 0] else []) := by
  unfold kept
  rw [List.take_succ_eq_append_getElem h, List.filter_append]
  congr 1
  have e : l[q]?.getD 0 = l[q] := by simp [h]
  rw [e]
  by_cases hx : l[q] = i <;> simp [hx]
theorem kept_le (l : List Int) (i : Int) (q : Nat) : (kept l i q).length ≤ q := by
  unfold kept
  have := List.length_filter_le (fun x => x != i) (l.take q)
  have h2 := List.length_take_le q l
  omega

set_option maxRecDepth 100000 in
set_option maxHeartbeats 4000000 in
/-- Without, of the document's answer. -/
theorem Without_racts {va : Value} {k : Nat} {us : List Nat} {w : World} (ha : Acts w va k us) (i : Int) {K : Nat} (hK : wcount k = K) :
    Calls Tryd.prog 63 #[va, .int .i64 i] w fun e w' => ∃ g, e = .returned (.agg #[.int .i64 (k : Int), .slice (some ⟨g, 0, none⟩) K K]) ∧ Fresh w.heap.size w' g (dropW k us i) ∧ Below w.heap.size w w' := by
  have ok1 := ha.ok
  have hk1 := ok1.le
  have HA0 := Lib.hid ha
  obtain ⟨l1, hl1⟩ : ∃ l : List Int, ((nums us).map fun (x : Nat) => (x : Int)) = l := ⟨_, rfl⟩
  obtain ⟨T, hT⟩ : ∃ T, (nums us).length = T := ⟨_, rfl⟩
  have hT1 : T ≤ 1024 := by rw [← hT]; have := count_le ok1; omega
  have hll : l1.length = T := by rw [← hl1, List.length_map, hT]
  have hofw : ofW k (kept l1 i T) = dropW k us i := by rw [← of_drop ok1 i, hl1]; unfold kept; rw [List.take_of_length_le (by omega)]
  have FL : Hid (∀ W, Below w.heap.size w W → Calls Tryd.prog 93 #[va] W fun e w' => ∃ u, e = .returned u ∧ w'.ownsRow W.heap.size 3 1 u T (l1.map (Value.int .i64)) ∧ Below W.heap.size W w') := fun W hW => by
    have h := List_own (HA0.out.below hW)
    rw [hl1, hT] at h
    exact h
  have FZ : Hid (∀ W, Below w.heap.size w W → Calls Tryd.prog 94 #[va] W fun e w' => e = .returned (.int .i64 (k : Int)) ∧ Below W.heap.size W w') := fun W hW => size_racts (HA0.out.below hW)
  have FO : Hid (∀ W a cap Z, (kept l1 i T).length = Z → Is W.heap.size W a (kept l1 i T) → Calls Tryd.prog 61 #[.int .i64 (k : Int), .slice a Z cap] W fun e w' => ∃ g, e = .returned (.agg #[.int .i64 (k : Int), .slice (some ⟨g, 0, none⟩) K K]) ∧ Fresh W.heap.size w' g (dropW k us i) ∧ Below W.heap.size W w') := fun W a cap Z hZ hIs => by
    have h := Of_at (cap := cap) hk1 hK hIs (T := Z) hZ (by have := kept_le l1 i T; omega)
    rw [hofw] at h
    exact h
  obtain ⟨n1, ws1, ⟨a1, cap1, rfl, -⟩, -⟩ := ha
  obtain ⟨L1, hL1⟩ : ∃ L, ws1.length = L := ⟨_, rfl⟩
  rw [hL1] at FL FZ ⊢
  obtain ⟨i0, hi, hz0, hz1, hz2⟩ := info_parts Tryd_info3
  generalize dropW k us i = js at *
  have HLL := Lib.hid hll
  clear HA0 ok1 hk1 hl1 hT hofw hL1 hK hll
  have hW1 : Below w.heap.size w ((w.alloc (.cells #[.int .i64 n1, .slice a1 L1 cap1] 35)).alloc (.cells #[.int .i64 0, .slice none 0 0] 35)) := ((Below.refl _ _).alloc (Nat.le_refl _) _).alloc (by simp) _
  have BA := (Box.new w (.int .i64 n1) (.slice a1 L1 cap1) 35).alloc (.cells #[.int .i64 0, .slice none 0 0] 35)
  have BR := Box.new (w.alloc (.cells #[.int .i64 n1, .slice a1 L1 cap1] 35)) (.int .i64 0) (.slice none 0 0) 35
  simp only [World.size_alloc] at BR
  generalize hW : (w.alloc (.cells #[.int .i64 n1, .slice a1 L1 cap1] 35)).alloc (.cells #[.int .i64 0, .slice none 0 0] 35) = W1 at *
  have HW := Lib.hid hW1
  have HA := Lib.hid BA
  have HR := Lib.hid BR
  obtain ⟨x0, x1, -, -⟩ := BA
  clear hW1 BR
  go_enter Tryd.func63, Tryd.ntmps63
  go_wp2_with fail
  refine (FL.out _ HW.out).mono ?_
  clear FL x0 x1 hW
  rintro e w1 ⟨u, rfl, hown, hb⟩
  obtain ⟨al, cl, rfl, -, hIs⟩ := is_of_ints hown
  have HIs := Lib.hid hIs
  have HB1 := Lib.hid hb
  clear hown hb hIs
  go_wp2_with fail
  go_loopw [5, 7] (fun v x wr => ∃ q : Nat, q ≤ T ∧ x = .int .i64 q ∧ Hid (wr.ownsRow w1.heap.size 3 1 v (kept l1 i q).length ((kept l1 i q).map (Value.int .i64))) ∧ Hid (Below w1.heap.size w1 wr)) (fun _ x _ => T - (intOf x).toNat)
  case atStart => exact ⟨0, Nat.zero_le _, rfl, World.ownsRow_nil _ _ _ _, Below.refl _ _⟩
  case round =>
    obtain ⟨q, hq, rfl, hown, hBw⟩ := hrel
    by_cases hlt : q < T
    · obtain ⟨b, o, rfl, hbl, hcell⟩ := HIs.out q (by rw [HLL.out]; exact hlt)
      have hcx := (hBw.out.cell (p := ⟨b, o + q, none⟩) hbl).trans hcell
      have hks := kept_succ l1 i q (by rw [HLL.out]; exact hlt)
      obtain ⟨x, hx⟩ : ∃ x, l1[q]?.getD 0 = x := ⟨_, rfl⟩
      rw [hx] at hcx hks
      have hkl := kept_le l1 i q
      have h63 : (kept l1 i q).length + 1 ≤ maxLen := by unfold maxLen; omega
      have hby : ((kept l1 i q).length + 1) * 8 ≤ 140737488355328 := by omega
      have hqi : (q : Int) < (T : Int) := by omega
      clear hcell hx
      by_cases hxi : x = i
      · have hb0 : (x != i) = false := by simp [hxi]
        rw [hb0, if_neg (by simp), List.append_nil] at hks
        have HKS := Lib.hid hks
        clear hks hxi
        go_wp2
        go_roundw
        case rel => exact ⟨q + 1, by omega, by go_num, by rw [HKS.out]; exact hown, hBw⟩
        case measure => simp [intOf]; omega
      · have hb0 : (x != i) = true := by simpa using hxi
        rw [hb0, if_pos rfl] at hks
        have HKS := Lib.hid hks
        have ha1 := fun ob => ((hBw.out.alloc hBw.out.size ob).cell (p := ⟨b, o + q, none⟩) hbl)
        clear hks hxi ha1
        go_wp2_with (at_builtin; refine wpList_append_own _ rfl _ _ 29 rfl w1.heap.size 3 i0 (.int .i64 0) 1 8 Tryd.underlying29 hi hz0 hz1 hz2 rfl (by decide) _ _ _ rfl (hown.out.alloc _) ⟨_, 0, none⟩ 1 1 [.int .i64 x] rfl rfl (cell_one_new _ _ _) (by simp [Value.oneCell']) h63 hby (by have := hBw.out.size; simp; omega) ?_; intro v' w4 hown' hgrow _; have HB4 := Lib.hid (owns_grown (hBw.out.alloc hBw.out.size _) (hown.out.alloc _) hgrow (by have := hBw.out.size; simp; omega)); have HO4 := Lib.hid hown'; clear hown' hgrow)
        go_roundw
        case rel =>
          refine ⟨q + 1, by omega, by go_num, ?_, HB4⟩
          rw [HKS.out]
          show w4.ownsRow w1.heap.size 3 1 _ (kept l1 i q ++ [x]).length ((kept l1 i q ++ [x]).map (Value.int .i64))
          simpa using HO4.out
        case measure => simp [intOf]; omega
    · obtain rfl : q = T := by omega
      have HBq := Lib.hid (HB1.out.trans (hBw.out.mono HB1.out.size))
      obtain ⟨x0, x1, -, -⟩ := HA.out.below HBq.out HA.out.lt
      go_wp2_with fail
      refine (FZ.out _ (HW.out.trans (HBq.out.mono HW.out.size))).mono ?_
      clear x0 x1
      rintro e w5 ⟨rfl, hb⟩
      obtain ⟨am, cm, rfl, hZ, hIs⟩ := is_of_ints hown.out
      have HI5 := Lib.hid ((hIs.below hb).mono hb.size)
      have HB5 := Lib.hid (HBq.out.trans (hb.mono HBq.out.size))
      clear hIs hb hZ
      go_wp2_with fail
      refine (FO.out _ _ _ _ rfl HI5.out).mono ?_
      rintro e w6 ⟨g, rfl, hF, hb⟩
      have hg1 := hF.1
      have HF := Lib.hid hF
      have hs1 := HB5.out.size
      have hs0 := HW.out.size
      have hrl := HR.out.lt
      have HB6 := Lib.hid (HB5.out.trans (hb.mono HB5.out.size))
      obtain ⟨z0, z1, f0, f1⟩ := HR.out.below HB6.out HR.out.lt
      clear hF hb
      go_wp2_with fail
      exact bodyPost_ret (v := .agg #[.int .i64 (k : Int), .slice (some ⟨g, 0, none⟩) K K]) (by simp [results, Tryd.results63, go_sem, z0, z1]) rfl
        ⟨g, rfl, (HF.out.base (by omega)).block (heap_put2 _ _ _ _ _ (by omega)), below_put2 (HW.out.trans (HB6.out.mono HW.out.size)) (by omega) _ _⟩
end Go.Proofs.YtmcbedlmgffckaaDoor.Bi
