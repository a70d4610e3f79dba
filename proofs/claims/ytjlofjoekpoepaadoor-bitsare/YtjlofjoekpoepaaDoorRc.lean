import Derived.Test.YtjlofjoekpoepaaDoorRb
namespace Go.Proofs.YtjlofjoekpoepaaDoor
open Go Go.RowKit Go.Sort

theorem shl_word (k : Nat) (hk : k < 64) : IntKind.u64.wrap (1 * 2 ^ k) = ((2 ^ k : Nat) : Int) := by
  rw [Int.one_mul]; exact wrap_pow k hk

theorem grownBy_put2 {w W : World} {r : Option Nat} (h : w.grownBy W r) {b : Nat} (hb : w.heap.size ≤ b) (x y : Value) : w.grownBy ((W.setCell ⟨b, 0, none⟩ x).setCell ⟨b, 1, none⟩ y) r :=
  ⟨h.os, h.tape, h.output, by have := h.size; simpa [World.setCell] using this, fun k hk hne => (heap_put2 W b k x y (by omega)).trans (h.block k hk hne)⟩

theorem Box.setOther {W : World} {b : Nat} {x y : Value} (h : Box W b x y) {p : Addr} (hne : b ≠ p.block) (v : Value) : Box (W.setCell p v) b x y := by
  have e := Below.heap_setCell W p v b hne
  exact ⟨(World.cell?_of_block (w := W) e).trans h.c0, (World.cell?_of_block (w := W) e).trans h.c1, (World.frozen?_of_block (w := W) e).trans h.f0, (World.frozen?_of_block (w := W) e).trans h.f1⟩

set_option maxRecDepth 100000 in
set_option maxHeartbeats 1000000 in
/-- put, of the document's answer. -/
theorem put_ref (n0 n g cap : Nat) (ws : List Nat) (j : Nat) (w : World) (hF : Fresh n0 w g ws) (hn : n ≤ 1024) (hl : ws.length = wcount n) (hB : WB ws) (hjn : j < n) :
    Calls Tryd.prog 51 #[.agg #[.int .i64 (n : Int), .slice (some ⟨g, 0, none⟩) ws.length cap], .int .i64 (j : Int)] w fun e w' => e = .returned (.agg #[.int .i64 (n : Int), .slice (some ⟨g, 0, none⟩) ws.length cap]) ∧ Fresh n0 w' g (putW n ws j) ∧ w.grownBy w' (some g) := by
  obtain ⟨L, hL⟩ : ∃ L, ws.length = L := ⟨_, rfl⟩
  rw [hL]
  have hW1 : Below w.heap.size w ((w.alloc (.cells #[.int .i64 (n : Int), .slice (some ⟨g, 0, none⟩) L cap] 24)).alloc (.cells #[.int .i64 0, .slice none 0 0] 24)) := ((Below.refl _ _).alloc (Nat.le_refl _) _).alloc (by simp) _
  have BX := (Box.new w (.int .i64 (n : Int)) (.slice (some ⟨g, 0, none⟩) L cap) 24).alloc (.cells #[.int .i64 0, .slice none 0 0] 24)
  have BR := Box.new (w.alloc (.cells #[.int .i64 (n : Int), .slice (some ⟨g, 0, none⟩) L cap] 24)) (.int .i64 0) (.slice none 0 0) 24
  simp only [World.size_alloc] at BR
  generalize hW : (w.alloc (.cells #[.int .i64 (n : Int), .slice (some ⟨g, 0, none⟩) L cap] 24)).alloc (.cells #[.int .i64 0, .slice none 0 0] 24) = W1 at *
  have hq : j / 64 < L := by rw [← hL, hl]; unfold wcount; omega
  have hres : putW n ws j = ws.set (j / 64) ((ws[j / 64]?.getD 0) ||| 2 ^ (j % 64)) := by simp [putW, hjn]
  rw [hres]
  have hx := hB.at (j / 64)
  have hcell := hF.cellAt (j := j / 64) (by rw [hL]; exact hq)
  have hfr := hF.frozenAt (j / 64)
  have hg := hF.lt
  obtain ⟨x, hxx⟩ : ∃ x, ws[j / 64]?.getD 0 = x := ⟨_, rfl⟩
  rw [hxx] at hcell hx ⊢
  have hor := or_word x (j % 64) hx (Nat.mod_lt _ (by decide))
  have hsh := shl_word (j % 64) (Nat.mod_lt _ (by decide))
  have hsh' := wrap_pow (j % 64) (Nat.mod_lt _ (by decide))
  obtain ⟨D, hD⟩ : ∃ D : Nat, 2 ^ (j % 64) = D := ⟨_, rfl⟩
  rw [hD] at hor hsh hsh' ⊢
  obtain ⟨z, hz⟩ : ∃ z, x ||| D = z := ⟨_, rfl⟩
  rw [hz] at hor ⊢
  have HV : Hid (bits .or .u64 (x : Int) (IntKind.u64.wrap (2 ^ min (IntKind.u64.wrap ((j : Int).tmod 64)).toNat 64)) = (z : Int)) := by
    have e1 : (j : Int).tmod 64 = ((j % 64 : Nat) : Int) := by rw [Int.tmod_eq_emod_of_nonneg (by omega)]; omega
    have e2 : IntKind.u64.wrap ((j % 64 : Nat) : Int) = ((j % 64 : Nat) : Int) := by rw [IntKind.wrap_u64]; omega
    have e3 : min (j % 64) 64 = j % 64 := by omega
    show _ = _
    rw [e1, e2, Int.toNat_natCast, e3, hsh', hor]
  have HF := Lib.hid hF
  have HW1 := Lib.hid hW1
  have g1 : (0 : Int) ≤ (j : Int) / 64 := by omega
  have g2 : (j : Int) / 64 < (L : Int) := by omega
  have g3 : ((j : Int) / 64).toNat = j / 64 := by omega
  have g4 : (0 : Int) ≤ (j : Int) := by omega
  have g5 : (j : Int) < 1024 := by omega
  have hLl : L ≤ 16 := by rw [← hL, hl]; exact wcount_le hn
  have hc1 := (HW1.out.cell (p := ⟨g, j / 64, none⟩) hg).trans hcell
  have hf1 := (HW1.out.frozen (p := ⟨g, j / 64, none⟩) hg).trans hfr
  obtain ⟨x0, x1, _, _⟩ := id BX
  have HBX := Lib.hid BX
  have HBR := Lib.hid BR
  have HG := Lib.hid hg
  have q1 : IntKind.i64.wrap ((j : Int) / 64) = (j : Int) / 64 := by rw [IntKind.wrap_i64]; omega
  clear hF hL hl hB hres hxx hD hz hjn hq hx hn BX BR hcell hfr hg hor hsh hsh'
  go_enter Tryd.func51, Tryd.ntmps51
  go_wp2_with fail
  clear hW hW1
  go_region_with (fail)
  all_goals
    rw [HV.out]
    have BX3 := (HBX.out.setOther (p := ⟨g, j / 64, none⟩) (Nat.ne_of_gt HG.out) (.int .u64 (z : Int))).drew
    have BR3 := (HBR.out.setOther (p := ⟨g, j / 64, none⟩) (by have := HG.out; show w.heap.size + 1 ≠ g; omega) (.int .u64 (z : Int))).drew
    have F3 : Fresh n0 (W1.setCell ⟨g, j / 64, none⟩ (.int .u64 (z : Int))).drew g (ws.set (j / 64) z) := (HF.out.below HW1.out HG.out).set _ _
    have G3 := grownBy_set HW1.out g (j / 64) (.int .u64 (z : Int))
    generalize (W1.setCell ⟨g, j / 64, none⟩ (.int .u64 (z : Int))).drew = W3 at *
    have HF3 := Lib.hid F3
    have HG3 := Lib.hid G3
    clear HBX HBR hc1 hf1 x0 x1 F3 G3
    obtain ⟨x0, x1, _, _⟩ := BX3
    obtain ⟨y0, y1, r0, r1⟩ := BR3
    go_wp2_with fail
    exact bodyPost_ret (v := .agg #[.int .i64 (n : Int), .slice (some ⟨g, 0, none⟩) L cap]) (by simp [results, Tryd.results51, go_sem, y0, y1]) rfl
      ⟨rfl, HF3.out.block (heap_put2 _ _ _ _ _ (by have := HG.out; omega)), grownBy_put2 HG3.out (by omega) _ _⟩
end Go.Proofs.YtjlofjoekpoepaaDoor
