import Derived.Test.YtjlofjoekpoepaaDoorM
namespace Go.Proofs.YtjlofjoekpoepaaDoor
open Go Go.RowKit Go.Sort

set_option maxHeartbeats 1000000 in
theorem put_nil (a : Option Addr) (cap : Nat) (i : Int) (w : World) :
    Calls Tryd.prog 47 #[.agg #[.int .i64 0, .slice a 0 cap], .int .i64 i] w fun e w' => (∃ v, e = .returned v) ∧ Below w.heap.size w w' := by
  have hW1 : Below w.heap.size w (w.alloc (.cells #[.int .i64 0, .slice a 0 cap] 28)) := (Below.refl _ _).alloc (Nat.le_refl _) _
  have BX := Box.new w (.int .i64 0) (.slice a 0 cap) 28
  generalize hW : w.alloc (.cells #[.int .i64 0, .slice a 0 cap] 28) = W1 at *
  have HFi := Lib.hid (fits_any 0 i a 0 cap W1)
  have hdec : decide (0 ≤ i ∧ i < (0 : Int)) = false := by simp
  rw [hdec] at HFi
  obtain ⟨x0, x1, _, _⟩ := id BX
  have HW1 := Lib.hid hW1
  clear hW1 hdec
  go_enter Tryd.func47, Tryd.ntmps47
  go_wp2_with fail
  refine HFi.out.mono ?_
  clear HFi
  rintro e w1 ⟨rfl, hb⟩
  have HB := Lib.hid hb
  clear hb
  go_wp2
  go_end0
  exact ⟨⟨_, rfl⟩, HW1.out.trans (HB.out.mono HW1.out.size)⟩

theorem wcount_zero {n : Nat} (h : wcount n = 0) : n = 0 := by unfold wcount at h; omega

set_option maxRecDepth 100000 in
set_option maxHeartbeats 2000000 in
theorem With_any (v : Value) (n : Int) (ws : List Nat) (i : Int) (w : World) (hv : SV w v n ws) (hl : ws.length ≤ 30) (hB : WB ws) :
    Calls Tryd.prog 20 #[v, .int .i64 i] w fun e w' => ∃ a' cap', e = .returned (.agg #[.int .i64 (nrm n ws : Nat), .slice a' (nrmW n ws).length cap']) ∧ FreshV w.heap.size w' a' (putW (nrm n ws) (nrmW n ws) i) ∧ Below w.heap.size w w' := by
  have hv0 := hv
  obtain ⟨a, cap, rfl, hWd⟩ := hv
  have hW2 : Below w.heap.size w ((w.alloc (.cells #[.int .i64 n, .slice a ws.length cap] 28)).alloc (.cells #[.int .i64 0, .slice none 0 0] 28)) := ((Below.refl _ _).alloc (Nat.le_refl _) _).alloc (by simp) _
  have HS := Lib.hid (copyOf_any _ n ws _ (hv0.below hW2) hl)
  have HO := Lib.hid (nrm_ok (n := n) hB)
  have BA := (Box.new w (.int .i64 n) (.slice a ws.length cap) 28).alloc (.cells #[.int .i64 0, .slice none 0 0] 28)
  have BB := Box.new (w.alloc (.cells #[.int .i64 n, .slice a ws.length cap] 28)) (.int .i64 0) (.slice none 0 0) 28
  have hz2 : ((w.alloc (.cells #[.int .i64 n, .slice a ws.length cap] 28)).alloc (.cells #[.int .i64 0, .slice none 0 0] 28)).heap.size = w.heap.size + 2 := by simp
  simp only [World.size_alloc] at BB
  have HW2 := Lib.hid hW2
  generalize hW : (w.alloc (.cells #[.int .i64 n, .slice a ws.length cap] 28)).alloc (.cells #[.int .i64 0, .slice none 0 0] 28) = W2 at *
  clear hv0 hWd hW2
  generalize nrm n ws = n' at *
  generalize nrmW n ws = ws' at *
  obtain ⟨a0, a1, _, _⟩ := id BA
  have Z2 := Lib.hid hz2
  clear hz2
  go_enter Tryd.func20, Tryd.ntmps20
  go_wp2_with fail
  refine HS.out.mono ?_
  clear HS
  rintro e w1 ⟨a', cap', rfl, hF, hb⟩
  have hb1 := HW2.out.trans (hb.mono HW2.out.size)
  have BB1 := (BB.below hb BB.lt).alloc (.cells #[.int .i64 (n' : Int), .slice a' ws'.length cap'] 28)
  have BX := Box.new w1 (.int .i64 (n' : Int)) (.slice a' ws'.length cap') 28
  have hA := (Below.refl w1.heap.size w1).alloc (Nat.le_refl _) (.cells #[.int .i64 (n' : Int), .slice a' ws'.length cap'] 28)
  have hb3 : Below w.heap.size w (w1.alloc (.cells #[.int .i64 (n' : Int), .slice a' ws'.length cap'] 28)) := hb1.trans (hA.mono hb1.size)
  have hsz : w.heap.size + 2 ≤ w1.heap.size := by have := hb.size; have := Z2.out; omega
  rcases hF with hnil | ⟨g, rfl, hF⟩
  · subst hnil
    have hn0 : n' = 0 := wcount_zero (by have := HO.out.len; simpa using this.symm)
    subst hn0
    have hp : putW 0 ([] : List Nat) i = [] := by simp [putW]
    have HP0 := Lib.hid hp
    have H1 := Lib.hid BB1
    have H2 := Lib.hid BX
    have H3 := Lib.hid hb3
    have HP := Lib.hid (put_nil a' cap' i (w1.alloc (.cells #[.int .i64 0, .slice a' 0 cap'] 28)))
    clear hb hb1 BB1 BX hA hb3 hW BA BB a0 a1 hp
    go_wp2_with fail
    refine HP.out.mono ?_
    clear HP
    rintro e w4 ⟨⟨v, rfl⟩, hb4⟩
    obtain ⟨x0, x1, _, _⟩ := H2.out.below hb4 H2.out.lt
    obtain ⟨y0, y1, f0, f1⟩ := H1.out.below hb4 H1.out.lt
    have H4 := Lib.hid hb4
    clear hb4
    go_wp2
    have hb5 := H3.out.trans (H4.out.mono H3.out.size)
    have hput := below_put2 hb5 (b := w.heap.size + 1) (by omega) (.int .i64 0) (.slice a' 0 cap')
    exact bodyPost_ret (v := .agg #[.int .i64 0, .slice a' 0 cap']) (by simp [results, Tryd.results20, go_sem, y0, y1]) rfl ⟨a', cap', rfl, .inl HP0.out, hput⟩
  · have hgl := hF.lt
    have hg1 := hF.1
    have hF3 := (hF.below hA hgl).base HW2.out.size
    have HP := Lib.hid (put_any w.heap.size n' g cap' ws' i _ hF3 HO.out.le HO.out.len HO.out.wb)
    obtain ⟨x0, x1, _, _⟩ := id BX
    have H1 := Lib.hid BB1
    have H2 := Lib.hid BX
    have H3 := Lib.hid hb3
    have hZ := Z2.out
    have HG : Hid (w.heap.size + 1 ≠ g ∧ w1.heap.size ≠ g ∧ w.heap.size ≤ g) := ⟨by omega, by omega, by omega⟩
    clear hb hb1 BB1 BX hA hb3 hW BA BB a0 a1 hF hF3 hgl hg1 hZ
    go_wp2_with fail
    refine HP.out.mono ?_
    clear HP x0 x1
    rintro e w4 ⟨⟨v, rfl⟩, hF4, hg4⟩
    obtain ⟨h1, h2, h3⟩ := HG.out
    obtain ⟨x0, x1, _, _⟩ := H2.out.grown hg4 (by simpa using h2)
    obtain ⟨y0, y1, f0, f1⟩ := H1.out.grown hg4 (by simpa using h1)
    have hb4 := Below.grownBy H3.out hg4 H3.out.size h3
    have H4 := Lib.hid hb4
    have H5 := Lib.hid hF4
    clear hb4 hF4 hg4 h1 h2 h3
    go_wp2
    have hput := below_put2 H4.out (b := w.heap.size + 1) (by omega) (.int .i64 (n' : Int)) (.slice (some ⟨g, 0, none⟩) ws'.length cap')
    refine bodyPost_ret (v := .agg #[.int .i64 (n' : Int), .slice (some ⟨g, 0, none⟩) ws'.length cap']) (by simp [results, Tryd.results20, go_sem, y0, y1]) rfl ⟨_, cap', rfl, .inr ⟨g, rfl, H5.out.block (heap_put2 _ _ _ _ _ (fun e => HG.out.1 e.symm))⟩, hput⟩
end Go.Proofs.YtjlofjoekpoepaaDoor
