import Derived.Test.YtjlofjoekpoepaaDoorN
namespace Go.Proofs.YtjlofjoekpoepaaDoor
open Go Go.RowKit Go.Sort

/-- Words with one number less. -/
def dropW (n : Nat) (ws : List Nat) (i : Int) : List Nat :=
  if 0 ≤ i ∧ i < n then ws.set (i.toNat / 64) ((ws[i.toNat / 64]?.getD 0) &&& (18446744073709551615 - 2 ^ (i.toNat % 64))) else ws

theorem andNot_word (x k : Nat) (hx : x < M64) (hk : k < 64) : bits .andNot .u64 (x : Int) ((2 ^ k : Nat) : Int) = ((x &&& (18446744073709551615 - 2 ^ k) : Nat) : Int) := by
  have h2 : 2 ^ k < 2 ^ 64 := Nat.pow_lt_pow_right (by decide) hk
  have h3 : (2 : Nat) ^ 64 = 18446744073709551616 := rfl
  rw [u64_andNot_nat x (2 ^ k) hx (by omega)]

set_option maxRecDepth 100000 in
set_option maxHeartbeats 2000000 in
theorem Without_any (v : Value) (n : Int) (ws : List Nat) (i : Int) (w : World) (hv : SV w v n ws) (hl : ws.length ≤ 30) (hB : WB ws) :
    Calls Tryd.prog 22 #[v, .int .i64 i] w fun e w' => ∃ a' cap', e = .returned (.agg #[.int .i64 (nrm n ws : Nat), .slice a' (nrmW n ws).length cap']) ∧ FreshV w.heap.size w' a' (dropW (nrm n ws) (nrmW n ws) i) ∧ Below w.heap.size w w' := by
  have hv0 := hv
  obtain ⟨a, cap, rfl, hWd⟩ := hv
  have hW2 : Below w.heap.size w ((w.alloc (.cells #[.int .i64 n, .slice a ws.length cap] 28)).alloc (.cells #[.int .i64 0, .slice none 0 0] 28)) := ((Below.refl _ _).alloc (Nat.le_refl _) _).alloc (by simp) _
  have HS := Lib.hid (copyOf_any _ n ws _ (hv0.below hW2) hl)
  have HO := Lib.hid (nrm_ok (n := n) hB)
  have BA := (Box.new w (.int .i64 n) (.slice a ws.length cap) 28).alloc (.cells #[.int .i64 0, .slice none 0 0] 28)
  have BB := Box.new (w.alloc (.cells #[.int .i64 n, .slice a ws.length cap] 28)) (.int .i64 0) (.slice none 0 0) 28
  have hz2 : ((w.alloc (.cells #[.int .i64 n, .slice a ws.length cap] 28)).alloc (.cells #[.int .i64 0, .slice none 0 0] 28)).heap.size = w.heap.size + 2 := by simp
  simp only [World.size_alloc] at BB
  have HW2 := Lib.hid hW2
  generalize hW : (w.alloc (.cells #[.int .i64 n, .slice a ws.length cap] 28)).alloc (.cells #[.int .i64 0, .slice none 0 0] 28) = W2 at *
  clear hv0 hWd hW2
  generalize nrm n ws = n' at *
  generalize nrmW n ws = ws' at *
  obtain ⟨a0, a1, _, _⟩ := id BA
  have Z2 := Lib.hid hz2
  clear hz2
  go_enter Tryd.func22, Tryd.ntmps22
  go_wp2_with fail
  refine HS.out.mono ?_
  clear HS
  rintro e w1 ⟨a', cap', rfl, hF, hb⟩
  have hb1 := HW2.out.trans (hb.mono HW2.out.size)
  have BB1 := (BB.below hb BB.lt).alloc (.cells #[.int .i64 (n' : Int), .slice a' ws'.length cap'] 28)
  have BX := Box.new w1 (.int .i64 (n' : Int)) (.slice a' ws'.length cap') 28
  have hA := (Below.refl w1.heap.size w1).alloc (Nat.le_refl _) (.cells #[.int .i64 (n' : Int), .slice a' ws'.length cap'] 28)
  have hb3 : Below w.heap.size w (w1.alloc (.cells #[.int .i64 (n' : Int), .slice a' ws'.length cap'] 28)) := hb1.trans (hA.mono hb1.size)
  have hsz : w.heap.size + 2 ≤ w1.heap.size := by have := hb.size; have := Z2.out; omega
  have hFb := (hF.below hA).base HW2.out.size
  have hFg : ∀ g, a' = some ⟨g, 0, none⟩ → ws' ≠ [] → w.heap.size + 2 ≤ g ∧ g < w1.heap.size := by
    intro g e hne
    rcases hF with h | ⟨g', e', h⟩
    · exact absurd h hne
    · rw [e] at e'
      cases e'
      have := h.1
      have := Z2.out
      exact ⟨by omega, h.lt⟩
  have HFi := Lib.hid (fits_any (n' : Int) i a' ws'.length cap' (w1.alloc (.cells #[.int .i64 (n' : Int), .slice a' ws'.length cap'] 28)))
  have H1 := Lib.hid BB1
  have H2 := Lib.hid BX
  have H3 := Lib.hid hb3
  have H4 := Lib.hid hFb
  have H5 := Lib.hid hFg
  clear hb hb1 BB1 BX hA hb3 hW BA BB a0 a1 hF hFb hFg
  go_wp2_with fail
  by_cases hin : 0 ≤ i ∧ i < n'
  · have hdec : decide (0 ≤ i ∧ i < (n' : Int)) = true := by simp [hin]
    rw [hdec] at HFi
    obtain ⟨j, rfl⟩ := Int.eq_ofNat_of_zero_le hin.1
    have hjn : j < n' := by omega
    have hn' := HO.out.le
    have hq : j / 64 < ws'.length := by rw [HO.out.len]; unfold wcount; omega
    have hwl : ws'.length ≤ 16 := HO.out.len16
    have hne : ws' ≠ [] := by intro e; rw [e] at hq; simp at hq
    obtain ⟨g, hag, hF⟩ : ∃ g, a' = some ⟨g, 0, none⟩ ∧ Fresh w.heap.size (w1.alloc (.cells #[.int .i64 (n' : Int), .slice a' ws'.length cap'] 28)) g ws' := by
      rcases H4.out with h | h
      · exact absurd h hne
      · exact h
    subst hag
    obtain ⟨hg1, hg2⟩ := H5.out g rfl hne
    have hx := HO.out.wb.at (j / 64)
    have hcell := hF.cellAt hq
    have hfr := hF.frozenAt (j / 64)
    have hgl := hF.lt
    have hres : Hid (dropW n' ws' j = ws'.set (j / 64) ((ws'[j / 64]?.getD 0) &&& (18446744073709551615 - 2 ^ (j % 64)))) := by
      show dropW n' ws' j = _
      simp [dropW, hjn]
    obtain ⟨x, hxx⟩ : ∃ x, ws'[j / 64]?.getD 0 = x := ⟨_, rfl⟩
    rw [hxx] at hcell hx hres
    have han := andNot_word x (j % 64) hx (Nat.mod_lt _ (by decide))
    obtain ⟨z, hz⟩ : ∃ z, x &&& (18446744073709551615 - 2 ^ (j % 64)) = z := ⟨_, rfl⟩
    rw [hz] at han hres
    obtain ⟨D, hD⟩ : ∃ D : Nat, 2 ^ (j % 64) = D := ⟨_, rfl⟩
    rw [hD] at han
    have hD' : Hid (2 ^ (Int.toNat (j : Int) % 64) = D) := hD
    obtain ⟨L, hL⟩ : ∃ L, ws'.length = L := ⟨_, rfl⟩
    rw [hL] at hq hwl HFi H1 H2 H3 H4 hcell hfr hF hgl ⊢
    have HL := Lib.hid hL
    have HF := Lib.hid hF
    have g1 : (0 : Int) ≤ (j : Int) / 64 := by omega
    have g2 : (j : Int) / 64 < (L : Int) := by omega
    have g3 : ((j : Int) / 64).toNat = j / 64 := by omega
    have g4 : (0 : Int) ≤ (j : Int) := by omega
    have g5 : (j : Int) < 1024 := by omega
    clear hin hdec hxx hz hD hL hF hjn hx hne
    refine HFi.out.mono ?_
    clear HFi
    rintro e w4 ⟨rfl, hb4⟩
    have hc1 := (hb4.cell (p := ⟨g, j / 64, none⟩) hgl).trans hcell
    have hf1 := (hb4.frozen (p := ⟨g, j / 64, none⟩) hgl).trans hfr
    have BX4 := H2.out.below hb4 H2.out.lt
    have BB4 := H1.out.below hb4 H1.out.lt
    have hB4 := H3.out.trans (hb4.mono H3.out.size)
    have hF4 := HF.out.below hb4 hgl
    obtain ⟨y0, y1, _, _⟩ := id BX4
    have HB4 := Lib.hid hB4
    have HF4 := Lib.hid hF4
    clear hb4 hcell hfr hB4 hF4 H1 H2 H3 H4 H5 HF hgl
    have q1 : IntKind.i64.wrap ((j : Int) / 64) = (j : Int) / 64 := by rw [IntKind.wrap_i64]; omega
    go_upto_region 3 with fail
    go_cut [] (fun wx => Hid (Box wx w1.heap.size (.int .i64 (n' : Int)) (.slice (some ⟨g, 0, none⟩) L cap')) ∧ Hid (Box wx (w.heap.size + 1) (.int .i64 0) (.slice none 0 0)) ∧ Hid (Fresh w.heap.size wx g (dropW n' ws' j)) ∧ Hid (Below w.heap.size w wx))
    case first =>
      go_region_with (go_at_call 49; refine (digit_at _ D _ g4 g5 hD').mono ?_; rintro e w' ⟨rfl, rfl⟩)
      all_goals
        go_wp2_with fail
        go_meet
        have hgr := grownBy_set (Below.refl w4.heap.size w4) g (j / 64) (.int .u64 (z : Int))
        refine ⟨BX4.grown hgr (by simp; omega), BB4.grown hgr (by simp; omega), ?_, Below.grownBy HB4.out hgr HB4.out.size (by omega)⟩
        show Fresh w.heap.size _ g (dropW n' ws' j)
        rw [hres.out]
        exact HF4.out.set _ _
    case rest =>
      obtain ⟨h1, h2, h3, h4⟩ := hcut
      clear hc1 hf1 BX4 BB4 y0 y1 q1 g3
      obtain ⟨x0, x1, _, _⟩ := id h1.out
      obtain ⟨y0, y1, f0, f1⟩ := id h2.out
      go_wp2
      have hput := below_put2 h4.out (b := w.heap.size + 1) (by omega) (.int .i64 (n' : Int)) (.slice (some ⟨g, 0, none⟩) L cap')
      refine bodyPost_ret (v := .agg #[.int .i64 (n' : Int), .slice (some ⟨g, 0, none⟩) L cap']) (by simp [results, Tryd.results22, go_sem, y0, y1]) rfl ⟨some ⟨g, 0, none⟩, cap', by rw [HL.out], .inr ⟨g, rfl, h3.out.block (heap_put2 _ _ _ _ _ (by omega))⟩, hput⟩
  · have hdec : decide (0 ≤ i ∧ i < (n' : Int)) = false := by simp [hin]
    rw [hdec] at HFi
    have hres : Hid (dropW n' ws' i = ws') := by show dropW n' ws' i = ws'; simp [dropW, hin]
    clear hin hdec
    refine HFi.out.mono ?_
    clear HFi
    rintro e w4 ⟨rfl, hb4⟩
    have hB4 := H3.out.trans (hb4.mono H3.out.size)
    have hF4 := H4.out.below hb4
    obtain ⟨x0, x1, _, _⟩ := H2.out.below hb4 H2.out.lt
    obtain ⟨y0, y1, f0, f1⟩ := H1.out.below hb4 H1.out.lt
    have HB4 := Lib.hid hB4
    have HF4 := Lib.hid hF4
    clear hb4 hB4 hF4
    go_wp2
    have hput := below_put2 HB4.out (b := w.heap.size + 1) (by omega) (.int .i64 (n' : Int)) (.slice a' ws'.length cap')
    refine bodyPost_ret (v := .agg #[.int .i64 (n' : Int), .slice a' ws'.length cap']) (by simp [results, Tryd.results22, go_sem, y0, y1]) rfl ⟨a', cap', rfl, ?_, hput⟩
    rw [hres.out]
    rcases HF4.out with h | ⟨g, hg, h⟩
    · exact .inl h
    · by_cases hne : ws' = []
      · exact .inl hne
      · obtain ⟨hg1, _⟩ := H5.out g hg hne
        exact .inr ⟨g, hg, h.block (heap_put2 _ _ _ _ _ (by omega))⟩
end Go.Proofs.YtjlofjoekpoepaaDoor
