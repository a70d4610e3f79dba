import Derived.Test.YtjlofjoekpoepaaDoorRa
namespace Go.Proofs.YtjlofjoekpoepaaDoor
open Go Go.RowKit Go.Sort

set_option maxHeartbeats 2000000 in
/-- size, of the document's answer. -/
theorem size_ref (n : Int) (a : Option Addr) (ws : List Nat) (cap : Nat) (w : World) (hWd : Wd w.heap.size w a ws) (hB : WB ws) (hl : ws.length ≤ 30) :
    Calls Tryd.prog 41 #[.agg #[.int .i64 n, .slice a ws.length cap]] w fun e w' => e = .returned (.int .i64 ((nrm n ws : Nat) : Int)) ∧ Below w.heap.size w w' := by
  have hW1 : Below w.heap.size w (w.alloc (.cells #[.int .i64 n, .slice a ws.length cap] 24)) := (Below.refl _ _).alloc (Nat.le_refl _) _
  have B1 := Box.new w (.int .i64 n) (.slice a ws.length cap) 24
  have HS := Lib.hid (Sane_ref n a ws cap _ ((hWd.below hW1).mono hW1.size) hB hl)
  obtain ⟨L, hL⟩ : ∃ L, ws.length = L := ⟨_, rfl⟩
  rw [hL] at hW1 B1 HS ⊢
  clear hL
  generalize hW : w.alloc (.cells #[.int .i64 n, .slice a L cap] 24) = W1 at *
  obtain ⟨c0, c1, -, -⟩ := id B1
  have HB1 := Lib.hid B1
  have HW1 := Lib.hid hW1
  obtain ⟨N, hN⟩ : ∃ N, nrm n ws = N := ⟨_, rfl⟩
  rw [hN]
  obtain ⟨sn, hsn⟩ : ∃ sn, saneB n ws = sn := ⟨_, rfl⟩
  rw [hsn] at HS
  have HN : Hid (N = if sn then n.toNat else 0) := by
    show N = _
    rw [← hN, ← hsn]; rfl
  have HSN := Lib.hid hsn
  clear B1 hW1 hN hWd hB hl hsn
  cases sn with
  | true =>
    go_enter Tryd.func41, Tryd.ntmps41
    go_wp2_with fail
    clear hW c0 c1
    refine HS.out.mono ?_
    rintro e w1 ⟨rfl, hb⟩
    obtain ⟨c0, c1, -, -⟩ := HB1.out.below hb HB1.out.lt
    have HB := Lib.hid hb
    clear hb
    go_wp2
    go_ret
    refine ⟨ret_int ?_, HW1.out.trans (HB.out.mono HW1.out.size)⟩
    have h := HSN.out
    simp only [saneB, Bool.and_eq_true, decide_eq_true_eq] at h
    rw [HN.out]
    simp only [if_true]
    omega
  | false =>
    obtain rfl : N = 0 := HN.out
    go_enter Tryd.func41, Tryd.ntmps41
    go_wp2_with fail
    clear hW c0 c1
    refine HS.out.mono ?_
    rintro e w1 ⟨rfl, hb⟩
    have HB := Lib.hid hb
    clear hb
    go_wp2
    go_ret
    exact ⟨rfl, HW1.out.trans (HB.out.mono HW1.out.size)⟩

set_option maxHeartbeats 2000000 in
/-- New, of the document's answer. -/
theorem New_ref (n : Int) (w : World) :
    Calls Tryd.prog 30 #[.int .i64 n] w fun e w' => ∃ g, e = .returned (.agg #[.int .i64 ((clampN n : Nat) : Int), .slice (some ⟨g, 0, none⟩) (wcount (clampN n)) (wcount (clampN n))]) ∧
      Fresh w.heap.size w' g (List.replicate (wcount (clampN n)) 0) ∧ Below w.heap.size w w' := by
  have main : ∀ (c k : Nat), c ≤ 1024 → wcount c = k → clampN n = c → (n ≤ 0 ∧ c = 0 ∧ k = 0 ∨ 1024 < n ∧ c = 1024 ∧ k = 16 ∨ n = (c : Int) ∧ 0 < c) →
      Calls Tryd.prog 30 #[.int .i64 n] w fun e w' => ∃ g, e = .returned (.agg #[.int .i64 (c : Int), .slice (some ⟨g, 0, none⟩) k k]) ∧ Fresh w.heap.size w' g (List.replicate k 0) ∧ Below w.heap.size w w' := by
    intro c k hcl hk hc hcase
    have hm := fun W => mk_run k (by have := wcount_le hcl; omega) W
    have hq : ((c : Int) + 63) / 64 = (k : Int) := by rw [← hk]; unfold wcount; omega
    clear hk hc
    rcases hcase with ⟨h0, rfl, rfl⟩ | ⟨h0, rfl, rfl⟩ | ⟨rfl, h00⟩
    · clear hq
      have hr : ∀ W, (Instr.makeSlice 22 (.int .i64 0) (.int .i64 0)).run Tryd.prog W = .ok (.slice (some ⟨W.heap.size, 0, none⟩) 0 0) (W.alloc (.cells (zeros 0) 52)) := fun W => hm W
      clear hm
      go_enter Tryd.func30, Tryd.ntmps30
      go_wp2
      exact bodyPost_ret (v := .agg #[.int .i64 0, .slice (some ⟨w.heap.size + 1, 0, none⟩) 0 0]) (by simp [results, Tryd.results30, go_sem]) rfl ⟨_, rfl, fresh_zeros _ _ _, ((Below.refl _ _).alloc (Nat.le_refl _) _).alloc (by simp) _⟩
    · clear hq
      have hr : ∀ W, (Instr.makeSlice 22 (.int .i64 16) (.int .i64 16)).run Tryd.prog W = .ok (.slice (some ⟨W.heap.size, 0, none⟩) 16 16) (W.alloc (.cells (zeros 16) 52)) := fun W => hm W
      clear hm
      go_enter Tryd.func30, Tryd.ntmps30
      go_wp2
      exact bodyPost_ret (v := .agg #[.int .i64 1024, .slice (some ⟨w.heap.size + 1, 0, none⟩) 16 16]) (by simp [results, Tryd.results30, go_sem]) rfl ⟨_, rfl, fresh_zeros _ _ _, ((Below.refl _ _).alloc (Nat.le_refl _) _).alloc (by simp) _⟩
    · have h0 : (0 : Int) < c := by omega
      have h1 : (c : Int) ≤ 1024 := by omega
      have hr : ∀ W, (Instr.makeSlice 22 (.int .i64 k) (.int .i64 k)).run Tryd.prog W = .ok (.slice (some ⟨W.heap.size, 0, none⟩) k k) (W.alloc (.cells (zeros k) 52)) := fun W => hm W
      clear hm
      go_enter Tryd.func30, Tryd.ntmps30
      go_wp2
      exact bodyPost_ret (v := .agg #[.int .i64 (c : Int), .slice (some ⟨w.heap.size + 1, 0, none⟩) k k]) (by simp [results, Tryd.results30, go_sem]) rfl ⟨_, rfl, fresh_zeros _ _ _, ((Below.refl _ _).alloc (Nat.le_refl _) _).alloc (by simp) _⟩
  have hcl := clampN_le n
  refine main _ _ hcl rfl rfl ?_
  by_cases h0 : n ≤ 0
  · have e : clampN n = 0 := by unfold clampN; split <;> (try split) <;> omega
    rw [e]; exact .inl ⟨h0, rfl, rfl⟩
  · by_cases h1 : 1024 < n
    · have e : clampN n = 1024 := by unfold clampN; split <;> (try split) <;> omega
      rw [e]; exact .inr (.inl ⟨h1, rfl, rfl⟩)
    · have e : clampN n = n.toNat := by unfold clampN; split <;> (try split) <;> omega
      rw [e]; exact .inr (.inr ⟨by omega, by omega⟩)
end Go.Proofs.YtjlofjoekpoepaaDoor
