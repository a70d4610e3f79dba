import Derived.Test.YtjlofjoekpoepaaDoorK
namespace Go.Proofs.YtjlofjoekpoepaaDoor
open Go Go.RowKit Go.Sort

/-- A slice's numbers, read in a world, in blocks below B. -/
def Is (B : Nat) (W : World) (a : Option Addr) (l : List Int) : Prop :=
  ∀ j, j < l.length → ∃ b o, a = some ⟨b, o, none⟩ ∧ b < B ∧ W.cell? ⟨b, o + j, none⟩ = some (.int .i64 (l[j]?.getD 0))

theorem Is.below {B : Nat} {W W' : World} {a : Option Addr} {l : List Int} (h : Is B W a l) (hb : Below B W W') : Is B W' a l :=
  fun j hj => let ⟨b, o, e, hlt, hc⟩ := h j hj; ⟨b, o, e, hlt, (hb.cell (p := ⟨b, o + j, none⟩) hlt).trans hc⟩
theorem Is.mono {B B' : Nat} {W : World} {a : Option Addr} {l : List Int} (h : Is B W a l) (hb : B ≤ B') : Is B' W a l :=
  fun j hj => let ⟨b, o, e, hlt, hc⟩ := h j hj; ⟨b, o, e, Nat.lt_of_lt_of_le hlt hb, hc⟩

/-- The words of a set of c with each of l that may be. -/
def ofW (c : Nat) (l : List Int) : List Nat := l.foldl (putW c) (List.replicate (wcount c) 0)

theorem ofW_snoc (c : Nat) (l : List Int) (i : Int) : ofW c (l ++ [i]) = putW c (ofW c l) i := by simp [ofW]

theorem putW_wb {n : Nat} {ws : List Nat} (h : WB ws) (i : Int) : WB (putW n ws i) := by
  unfold putW
  split
  · intro x hx
    rcases List.mem_or_eq_of_mem_set hx with hx | rfl
    · exact h x hx
    · refine or_lt_M64 (h.at _) ?_
      have h1 : 2 ^ (i.toNat % 64) < 2 ^ 64 := Nat.pow_lt_pow_right (by decide) (Nat.mod_lt _ (by decide))
      exact h1
  · exact h

theorem foldl_put_length (c : Nat) (l : List Int) : ∀ ws, (l.foldl (putW c) ws).length = ws.length := by
  induction l with
  | nil => intro ws; rfl
  | cons i r ih => intro ws; rw [List.foldl_cons, ih, putW_length]
theorem foldl_put_wb (c : Nat) (l : List Int) : ∀ ws, WB ws → WB (l.foldl (putW c) ws) := by
  induction l with
  | nil => intro ws h; exact h
  | cons i r ih => intro ws h; exact ih _ (putW_wb h i)
theorem ofW_length (c : Nat) (l : List Int) : (ofW c l).length = wcount c := by unfold ofW; rw [foldl_put_length]; simp
theorem ofW_wb (c : Nat) (l : List Int) : WB (ofW c l) := foldl_put_wb c l _ (fun x hx => by rw [List.eq_of_mem_replicate hx]; decide)

theorem Box.grown {W W' : World} {b : Nat} {x y : Value} {row : Option Nat} (h : Box W b x y) (hg : W.grownBy W' row) (hne : some b ≠ row) : Box W' b x y := by
  have e := hg.block b h.lt hne
  exact ⟨(World.cell?_of_block (w := W) e).trans h.c0, (World.cell?_of_block (w := W) e).trans h.c1, (World.frozen?_of_block (w := W) e).trans h.f0, (World.frozen?_of_block (w := W) e).trans h.f1⟩

theorem Below.grownBy {B g : Nat} {w W W' : World} (h : Below B w W) (hg : W.grownBy W' (some g)) (hB : B ≤ W.heap.size) (hge : B ≤ g) : Below B w W' :=
  h.grown hg hB (fun k e => by cases e; exact hge)

set_option maxRecDepth 100000 in
set_option maxHeartbeats 2000000 in
theorem Of_any (n : Int) (a : Option Addr) (l : List Int) (cap : Nat) (w : World) (hIs : Is w.heap.size w a l) (hl : l.length ≤ 2000) :
    Calls Tryd.prog 27 #[.int .i64 n, .slice a l.length cap] w fun e w' => ∃ g, e = .returned (.agg #[.int .i64 (clampN n : Nat), .slice (some ⟨g, 0, none⟩) (wcount (clampN n)) (wcount (clampN n))]) ∧
      Fresh w.heap.size w' g (ofW (clampN n) l) ∧ Below w.heap.size w w' := by
  have hW1 : Below w.heap.size w (w.alloc (.cells #[.int .i64 0, .slice none 0 0] 28)) := (Below.refl _ _).alloc (Nat.le_refl _) _
  have BR := Box.new w (.int .i64 0) (.slice none 0 0) 28
  have hs1 : (w.alloc (.cells #[.int .i64 0, .slice none 0 0] 28)).heap.size = w.heap.size + 1 := by simp
  generalize hW : w.alloc (.cells #[.int .i64 0, .slice none 0 0] 28) = W1 at *
  have HN := Lib.hid (new_any n W1)
  have hcl := clampN_le n
  generalize clampN n = c at *
  obtain ⟨k, hk⟩ : ∃ k, wcount c = k := ⟨_, rfl⟩
  rw [hk] at HN ⊢
  have HK := Lib.hid hk
  have HIs := Lib.hid hIs
  obtain ⟨L, hL⟩ : ∃ L, l.length = L := ⟨_, rfl⟩
  rw [hL] at hl ⊢
  have HL := Lib.hid hL
  have HW1 := Lib.hid hW1
  clear hIs hL hk hW1
  go_enter Tryd.func27, Tryd.ntmps27
  go_wp2_with fail
  refine HN.out.mono ?_
  clear HN
  rintro e w1 ⟨g, rfl, hF, hb⟩
  have BR1 := BR.below hb BR.lt
  have hgl := hF.lt
  have hg1 := hF.1
  have HF := Lib.hid hF
  have HB := Lib.hid hb
  clear hF hb hW BR
  go_wp2_with fail
  have hb1 : Below w.heap.size w w1 := HW1.out.trans (HB.out.mono HW1.out.size)
  have BX := Box.new w1 (.int .i64 (c : Int)) (.slice (some ⟨g, 0, none⟩) k k) 28
  have BR2 := BR1.alloc (.cells #[.int .i64 (c : Int), .slice (some ⟨g, 0, none⟩) k k] 28)
  have hb2 := hb1.alloc hb1.size (.cells #[.int .i64 (c : Int), .slice (some ⟨g, 0, none⟩) k k] 28)
  have hF2 : Fresh w.heap.size (w1.alloc (.cells #[.int .i64 (c : Int), .slice (some ⟨g, 0, none⟩) k k] 28)) g (ofW c []) := by
    have h1 := HF.out.below ((Below.refl w1.heap.size w1).alloc (Nat.le_refl _) (.cells #[.int .i64 (c : Int), .slice (some ⟨g, 0, none⟩) k k] 28)) hgl
    have e : ofW c [] = List.replicate k 0 := by simp [ofW, HK.out]
    rw [e]
    exact h1.base (by omega)
  obtain ⟨b5, hb5⟩ : ∃ b5, w1.heap.size = b5 := ⟨_, rfl⟩
  rw [hb5] at BX ⊢
  rw [hb5] at hgl
  have HB5 := Lib.hid hb5
  clear hb5 BR1 hb1
  generalize w1.alloc (.cells #[.int .i64 (c : Int), .slice (some ⟨g, 0, none⟩) k k] 28) = W2 at *
  go_loopw [12] (fun i wr => ∃ q : Nat, q ≤ L ∧ i = .int .i64 q ∧ Hid (Fresh w.heap.size wr g (ofW c (l.take q))) ∧ Hid (Box wr b5 (.int .i64 (c : Int)) (.slice (some ⟨g, 0, none⟩) k k)) ∧ Hid (Box wr w.heap.size (.int .i64 0) (.slice none 0 0)) ∧ Hid (Below w.heap.size w wr)) (fun i _ => L - (intOf i).toNat)
  case atStart => exact ⟨0, Nat.zero_le _, rfl, hF2, BX, BR2, hb2⟩
  case round =>
    clear hF2 BX BR2 hb2
    obtain ⟨q, hq, rfl, hF, hBX, hBR, hB⟩ := hrel
    by_cases hlt : q < L
    · obtain ⟨b, o, rfl, hbl, hcell⟩ := HIs.out q (by rw [HL.out]; exact hlt)
      have hcx := (hB.out.cell (p := ⟨b, o + q, none⟩) hbl).trans hcell
      obtain ⟨x, hx⟩ : ∃ x, l[q]?.getD 0 = x := ⟨_, rfl⟩
      rw [hx] at hcx
      have HX : Hid (l.take (q + 1) = l.take q ++ [x]) := by
        have hi : q < l.length := by rw [HL.out]; exact hlt
        have e : l.take (q + 1) = l.take q ++ [l[q]] := List.take_succ_eq_append_getElem hi
        rw [Hid, e, ← hx]
        simp [hi]
      have hlw : (ofW c (l.take q)).length = k := by rw [ofW_length]; exact HK.out
      have HP := Lib.hid (put_any w.heap.size c g k (ofW c (l.take q)) x wr hF.out hcl (ofW_length _ _) (ofW_wb _ _))
      rw [hlw] at HP
      obtain ⟨x0, x1, _, _⟩ := hBX.out
      have hqi : (q : Int) < (L : Int) := by omega
      clear hcell hx hlw
      go_wp2_with fail
      refine HP.out.mono ?_
      clear HP
      rintro e w3 ⟨⟨v, rfl⟩, hF3, hg3⟩
      have hBX3 := hBX.out.grown hg3 (by simp; omega)
      have hBR3 := hBR.out.grown hg3 (by simp; omega)
      have hB3 := Below.grownBy hB.out hg3 hB.out.size hF.out.1
      have H3 := Lib.hid hF3
      have H4 := Lib.hid hBX3
      have H5 := Lib.hid hBR3
      have H6 := Lib.hid hB3
      clear hF3 hBX3 hBR3 hB3 hg3 x0 x1 hcx
      go_wp2
      go_roundw
      case rel => exact ⟨q + 1, by omega, by go_num, by rw [HX.out, ofW_snoc]; exact H3, H4, H5, H6⟩
      case measure => simp [intOf]; omega
    · obtain rfl : q = L := by omega
      have hF' := hF.out
      rw [List.take_of_length_le (by rw [HL.out]; exact Nat.le_refl _)] at hF'
      have HF' := Lib.hid hF'
      obtain ⟨x0, x1, _, _⟩ := hBX.out
      obtain ⟨y0, y1, f0, f1⟩ := hBR.out
      clear hF hF'
      go_wp2
      have hput := below_put2 hB.out (b := w.heap.size) (Nat.le_refl _) (.int .i64 (c : Int)) (.slice (some ⟨g, 0, none⟩) k k)
      refine bodyPost_ret (v := .agg #[.int .i64 (c : Int), .slice (some ⟨g, 0, none⟩) k k]) (by simp [results, Tryd.results27, go_sem, y0, y1]) rfl ⟨g, rfl, HF'.out.block (heap_put2 _ _ _ _ _ (by omega)), hput⟩
end Go.Proofs.YtjlofjoekpoepaaDoor
