import Derived.Test.YtjlofjoekpoepaaDoorB
import Derived.Test.YtjlofjoekpoepaaDoorC
namespace Go.Proofs.YtjlofjoekpoepaaDoor
open Go Go.RowKit Go.Sort

/-- A set as a value: its size, and a slice whose words are read in the world, in blocks below B. -/
def SVB (B : Nat) (W : World) (v : Value) (n : Int) (ws : List Nat) : Prop := ∃ a cap, v = .agg #[.int .i64 n, .slice a ws.length cap] ∧ Wd B W a ws
def SV (W : World) (v : Value) (n : Int) (ws : List Nat) : Prop := SVB W.heap.size W v n ws

theorem SVB.below {B : Nat} {W W' : World} {v : Value} {n : Int} {ws : List Nat} (h : SVB B W v n ws) (hb : Below B W W') : SVB B W' v n ws :=
  let ⟨a, cap, e, hw⟩ := h; ⟨a, cap, e, hw.below hb⟩
theorem SVB.sv {B : Nat} {W : World} {v : Value} {n : Int} {ws : List Nat} (h : SVB B W v n ws) (hb : B ≤ W.heap.size) : SV W v n ws :=
  let ⟨a, cap, e, hw⟩ := h; ⟨a, cap, e, hw.mono hb⟩

theorem SV.below {W W' : World} {v : Value} {n : Int} {ws : List Nat} (h : SV W v n ws) (hb : Below W.heap.size W W') : SV W' v n ws :=
  (SVB.below h hb).sv hb.size

/-- A set that may be. -/
structure Ok (n : Nat) (ws : List Nat) : Prop where
  le : n ≤ 1024
  len : ws.length = wcount n
  top : topClear n ws = true
  wb : WB ws

theorem Ok.len16 {n : Nat} {ws : List Nat} (h : Ok n ws) : ws.length ≤ 16 := by rw [h.len]; exact wcount_le h.le

theorem ok_of_sane {n : Int} {ws : List Nat} (hb : WB ws) (h : saneB n ws = true) : Ok n.toNat ws ∧ ((n.toNat : Nat) : Int) = n := by
  simp only [saneB, Bool.and_eq_true, decide_eq_true_eq] at h
  exact ⟨⟨by omega, h.1.2.2, h.2, hb⟩, by omega⟩

theorem ok_zero : Ok 0 [] := ⟨by decide, rfl, rfl, fun _ h => by cases h⟩

theorem nrm_ok {n : Int} {ws : List Nat} (hb : WB ws) : Ok (nrm n ws) (nrmW n ws) := by
  unfold nrm nrmW
  split
  · exact (ok_of_sane hb (by assumption)).1
  · exact ok_zero

theorem saneB_ok {n : Nat} {ws : List Nat} (h : Ok n ws) : saneB n ws = true := by
  have := h.le
  simp [saneB, h.len, h.top]; omega

theorem nrm_of_ok {n : Nat} {ws : List Nat} (h : Ok n ws) : nrm n ws = n ∧ nrmW n ws = ws := by
  simp [nrm, nrmW, saneB_ok h]

/-- A box of two cells that may be written. -/
structure Box (W : World) (b : Nat) (x y : Value) : Prop where
  c0 : W.cell? ⟨b, 0, none⟩ = some x
  c1 : W.cell? ⟨b, 1, none⟩ = some y
  f0 : W.frozen? ⟨b, 0, none⟩ = false
  f1 : W.frozen? ⟨b, 1, none⟩ = false

theorem Box.below {B : Nat} {W W' : World} {b : Nat} {x y : Value} (h : Box W b x y) (hb : Below B W W') (hlt : b < B) : Box W' b x y :=
  ⟨(hb.cell (p := ⟨b, 0, none⟩) hlt).trans h.c0, (hb.cell (p := ⟨b, 1, none⟩) hlt).trans h.c1, (hb.frozen (p := ⟨b, 0, none⟩) hlt).trans h.f0, (hb.frozen (p := ⟨b, 1, none⟩) hlt).trans h.f1⟩
theorem Box.new (w : World) (x y : Value) (t : TypeId) : Box (w.alloc (.cells #[x, y] t)) w.heap.size x y := ⟨by simp, by simp, by simp, by simp⟩
theorem Box.lt {W : World} {b : Nat} {x y : Value} (h : Box W b x y) : b < W.heap.size := block_lt_of_cell h.c0
theorem Box.alloc {W : World} {b : Nat} {x y : Value} (h : Box W b x y) (o : Obj) : Box (W.alloc o) b x y := h.below ((Below.refl W.heap.size W).alloc (Nat.le_refl _) o) h.lt

set_option maxHeartbeats 1000000 in
theorem saneOrEmpty_any (B : Nat) (v : Value) (n : Int) (ws : List Nat) (w : World) (hv : SVB B w v n ws) (hBw : B ≤ w.heap.size) (hl : ws.length ≤ 30) :
    Calls Tryd.prog 45 #[v] w fun e w' => ∃ u, e = .returned u ∧ SVB B w' u (nrm n ws : Nat) (nrmW n ws) ∧ Below w.heap.size w w' := by
  obtain ⟨a, cap, rfl, hWd⟩ := hv
  have hW1 : Below w.heap.size w (w.alloc (.cells #[.int .i64 n, .slice a ws.length cap] 28)) := (Below.refl _ _).alloc (Nat.le_refl _) _
  have hW2 := hW1.alloc (by simp) (.cells #[.int .i64 0, .slice none 0 0] 28)
  have hsane := sane_any n a ws cap _ (((hWd.mono hBw).below hW2).mono hW2.size) hl
  have B1 := (Box.new w (.int .i64 n) (.slice a ws.length cap) 28).alloc (.cells #[.int .i64 0, .slice none 0 0] 28)
  have B2 := Box.new (w.alloc (.cells #[.int .i64 n, .slice a ws.length cap] 28)) (.int .i64 0) (.slice none 0 0) 28
  rw [World.size_alloc] at B2
  have z2 : ((w.alloc (.cells #[.int .i64 n, .slice a ws.length cap] 28)).alloc (.cells #[.int .i64 0, .slice none 0 0] 28)).heap.size = w.heap.size + 2 := by simp
  generalize hW : (w.alloc (.cells #[.int .i64 n, .slice a ws.length cap] 28)).alloc (.cells #[.int .i64 0, .slice none 0 0] 28) = W2 at *
  have HW2 := Lib.hid hW2
  have Z2 := Lib.hid z2
  cases hsn : saneB n ws with
  | true =>
    have hnn := hsn
    rw [hsn] at hsane
    simp only [nrm, nrmW, hsn, if_true]
    have HN : Hid (((n.toNat : Nat) : Int) = n) := by
      simp only [saneB, Bool.and_eq_true, decide_eq_true_eq] at hnn
      exact show ((n.toNat : Nat) : Int) = n by omega
    rw [HN.out]
    have HC := Lib.hid hsane
    have HWD := Lib.hid hWd
    have C1 := B1.c0
    have C2 := B1.c1
    clear hnn hsn hWd hsane hW1 hW2 z2
    go_enter Tryd.func45, Tryd.ntmps45
    go_wp2_with (go_at_call 14; refine HC.out.mono ?_; clear HC C1 C2; rintro e w1 ⟨rfl, hb⟩; have zz := Z2.out; obtain ⟨d0, d1, g0, g1⟩ := B1.below hb (by omega); obtain ⟨d2, d3, g2, g3⟩ := B2.below hb (by omega); have HB := Lib.hid hb; clear hb zz g0 g1)
    have hb : Below w.heap.size w w1 := HW2.out.trans (HB.out.mono HW2.out.size)
    have hb3 := (hb.setCell (p := ⟨w.heap.size + 1, 0, none⟩) (by simp) (.int .i64 n)).setCell (p := ⟨w.heap.size + 1, 1, none⟩) (by simp) (.slice a ws.length cap)
    exact bodyPost_ret (v := .agg #[.int .i64 n, .slice a ws.length cap]) (by simp [results, Tryd.results45, go_sem, d2, d3]) rfl
      ⟨_, rfl, ⟨a, cap, rfl, HWD.out.below (hb3.mono hBw)⟩, hb3⟩
  | false =>
    rw [hsn] at hsane
    have h1 : nrm n ws = 0 := by simp [nrm, hsn]
    have h2 : nrmW n ws = [] := by simp [nrmW, hsn]
    rw [h1, h2]
    have HC := Lib.hid hsane
    have C1 := B1.c0
    have C2 := B1.c1
    clear hsn hWd hsane hW1 hW2 z2 h1 h2
    go_enter Tryd.func45, Tryd.ntmps45
    go_wp2_with (go_at_call 14; refine HC.out.mono ?_; clear HC C1 C2; rintro e w1 ⟨rfl, hb⟩; have HB := Lib.hid hb; clear hb)
    refine (new_any 0 w1).mono ?_
    rintro e w2 ⟨g, rfl, hfr, hb2⟩
    have hb1 : Below w.heap.size w w1 := HW2.out.trans (HB.out.mono HW2.out.size)
    have hb : Below w.heap.size w w2 := hb1.trans (hb2.mono hb1.size)
    obtain ⟨d2, d3, g2, g3⟩ := (B2.below HB.out B2.lt).below hb2 (Nat.lt_of_lt_of_le B2.lt HB.out.size)
    have HBB := Lib.hid hb
    clear hb hb1 hb2 hfr
    go_wp2
    have hb3 := (HBB.out.setCell (p := ⟨w.heap.size + 1, 0, none⟩) (by simp) (.int .i64 0)).setCell (p := ⟨w.heap.size + 1, 1, none⟩) (by simp) (.slice (some ⟨g, 0, none⟩) 0 0)
    exact bodyPost_ret (v := .agg #[.int .i64 0, .slice (some ⟨g, 0, none⟩) 0 0]) (by simp [results, Tryd.results45, go_sem, d2, d3, clampN, wcount]) rfl
      ⟨_, rfl, ⟨_, _, rfl, Wd.nil _ _ _⟩, hb3⟩

set_option maxHeartbeats 1000000 in
theorem Has_any (v : Value) (n : Int) (ws : List Nat) (i : Int) (w : World) (hv : SV w v n ws) (hl : ws.length ≤ 30) (hB : WB ws) :
    Calls Tryd.prog 16 #[v, .int .i64 i] w fun e w' => e = .returned (.bool (hasB (nrm n ws) (nrmW n ws) i)) ∧ Below w.heap.size w w' := by
  have hv0 := hv
  obtain ⟨a, cap, rfl, hWd⟩ := hv
  have hW1 : Below w.heap.size w (w.alloc (.cells #[.int .i64 n, .slice a ws.length cap] 28)) := (Below.refl _ _).alloc (Nat.le_refl _) _
  have HS := Lib.hid (saneOrEmpty_any _ _ n ws _ (hv0.below hW1) (Nat.le_refl _) hl)
  have HO := Lib.hid (nrm_ok (n := n) hB)
  have HW1 := Lib.hid hW1
  clear hv0 hWd hW1
  go_enter Tryd.func16, Tryd.ntmps16
  go_wp2_with (go_at_call 45; refine HS.out.mono ?_; clear HS; rintro e w1 ⟨u, rfl, hsv, hb⟩)
  have ho := HO.out
  have hsv := hsv.sv hb.size
  obtain ⟨a', cap', rfl, hWd'⟩ := hsv
  have HB := Lib.hid hb
  have HH := Lib.hid (has_any (nrm n ws) a' (nrmW n ws) cap' i w1 hWd' ho.wb ho.le ho.len)
  clear hb hWd' ho
  go_wp2_with (go_at_call 44; refine HH.out.mono ?_; clear HH; rintro e w2 ⟨rfl, hb2⟩)
  have HB2 := Lib.hid hb2
  clear hb2
  go_wp2
  go_ret
  have hb1 := HW1.out.trans (HB.out.mono HW1.out.size)
  exact ⟨rfl, hb1.trans (HB2.out.mono hb1.size)⟩
end Go.Proofs.YtjlofjoekpoepaaDoor
