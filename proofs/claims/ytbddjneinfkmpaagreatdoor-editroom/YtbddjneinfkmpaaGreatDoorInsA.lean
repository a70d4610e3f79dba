/- Instructions: the table of kinds; isKind, the least of three, numbersFit. -/
import Derived.Test.YtbddjneinfkmpaaGreatDoorBoxL
import Derived.Test.YtbddjneinfkmpaaGreatDoorInsM
namespace Go.Proofs.YtbddjneinfkmpaaGreatDoor
open Go Go.RowKit Go.Sort

/-- An instruction as a value. -/
def Ins.val (i : Ins) : Value := .agg #[.int .i64 i.id, .int .i64 i.kind, .int .i64 i.dst, .int .i64 i.a, .int .i64 i.b, .int .i64 i.c, .int .i64 i.f, .int .i64 i.n, .int .i64 i.x0, .int .i64 i.x1, .int .i64 i.x2]
def kNames : List (List UInt8) := [[99, 111, 110, 115, 116], [99, 111, 112, 121], [110, 101, 103], [97, 100, 100], [115, 117, 98], [109, 117, 108], [105, 110, 112, 117, 116], [99, 97, 108, 108], [117, 115, 101], [114, 101, 116]]
def kBytes (k : Nat) : ByteArray := ⟨(kNames.getD k []).toArray⟩
/-- What the table holds of the kind k. -/
def kCell (k : Nat) : Nat → Value
  | 0 => .string (kBytes k)
  | 1 => .bool (hasDst k)
  | 2 => .bool (hasA k)
  | 3 => .bool (hasB k)
  | 4 => .bool (decide (k = 0))
  | _ => .bool (decide (k = 7))
/-- The table of kinds, as it is laid. -/
def KTab (W : World) : Prop := ∀ k j, k < 10 → j < 6 → W.cell? ⟨2, k * 6 + j, none⟩ = some (kCell k j)
theorem KTab.lt {W : World} (h : KTab W) : 2 < W.heap.size := block_lt_of_cell (h 0 0 (by decide) (by decide))
theorem KTab.below {W W' : World} (h : KTab W) {B : Nat} (hb : Below B W W') (hB : 2 < B) : KTab W' := fun k j hk hj => (hb.cell (p := ⟨2, k * 6 + j, none⟩) hB).trans (h k j hk hj)
theorem KTab.on {w W : World} (h : KTab w) (hb : Below w.heap.size w W) : KTab W := h.below hb h.lt

set_option maxHeartbeats 1000000 in
theorem isKind_any (k : Int) (w : World) :
    Calls Tryz.prog 129 #[.int .i64 k] w fun e w' => e = .returned (.bool (decide (0 ≤ k ∧ k < 10))) ∧ Below w.heap.size w w' := by
  by_cases h0 : 0 ≤ k
  · go_enter Tryz.func129, Tryz.ntmps129
    go_wp2
    go_ret
    exact ⟨ret_bool (by simp [h0]), Below.refl _ _⟩
  · have h0' : k < 0 := by omega
    go_enter Tryz.func129, Tryz.ntmps129
    go_wp2
    go_ret
    exact ⟨ret_bool (by simp; omega), Below.refl _ _⟩

def min2 (x y : Int) : Int := if y < x then y else x
def min3 (x y z : Int) : Int := min2 (min2 x y) z

set_option maxHeartbeats 4000000 in
theorem min3_any (x y z : Int) (b o : Nat) (w : World) (h0 : w.cell? ⟨b, o, none⟩ = some (.int .i64 x)) (h1 : w.cell? ⟨b, o + 1, none⟩ = some (.int .i64 y)) (h2 : w.cell? ⟨b, o + 2, none⟩ = some (.int .i64 z)) :
    Calls Tryz.prog 162 #[.slice (some ⟨b, o, none⟩) 3 3] w fun e w' => e = .returned (.int .i64 (min3 x y z)) ∧ Below w.heap.size w w' := by
  go_enter Tryz.func162, Tryz.ntmps162
  go_wp2
  go_loop [3, 4] (fun m i => (i = .int .i64 1 ∧ m = .int .i64 x) ∨ (i = .int .i64 2 ∧ m = .int .i64 (min2 x y)) ∨ (i = .int .i64 3 ∧ m = .int .i64 (min3 x y z))) (fun _ i => match i with | .int _ q => 3 - q.toNat | _ => 0)
  case atStart => exact .inl ⟨rfl, rfl⟩
  case round =>
    rcases hrel with ⟨rfl, rfl⟩ | ⟨rfl, rfl⟩ | ⟨rfl, rfl⟩
    · go_wp2
      exact ⟨.inr (.inl ⟨rfl, rfl⟩), by decide⟩
    · go_wp2
      exact ⟨.inr (.inr ⟨rfl, rfl⟩), by decide⟩
    · go_wp2
      go_ret
      exact ⟨rfl, Below.refl _ _⟩

theorem min2_neg (x y : Int) : 0 ≤ min2 x y ↔ 0 ≤ x ∧ 0 ≤ y := by unfold min2; split <;> omega
def Ins.fits (i : Ins) : Prop := 0 ≤ i.id ∧ i.id < 96 ∧ -2147483648 ≤ i.c ∧ i.c ≤ 2147483647 ∧ 0 ≤ i.n ∧ i.n ≤ 3 ∧ 0 ≤ i.dst ∧ 0 ≤ i.a ∧ 0 ≤ i.b ∧ 0 ≤ i.f ∧ 0 ≤ i.x0 ∧ 0 ≤ i.x1 ∧ 0 ≤ i.x2
instance (i : Ins) : Decidable i.fits := by unfold Ins.fits; infer_instance

set_option maxRecDepth 100000 in
set_option maxHeartbeats 8000000 in
theorem numbersFit_any (i : Ins) (w : World) :
    Calls Tryz.prog 130 #[i.val] w fun e w' => e = .returned (.bool (decide i.fits)) ∧ Below w.heap.size w w' := by
  obtain ⟨id, kind, dst, a, b, c, f, n, x0, x1, x2⟩ := i
  have hfit : (decide (Ins.fits ⟨id, kind, dst, a, b, c, f, n, x0, x1, x2⟩) = true) ↔ (0 ≤ id ∧ id < 96 ∧ -2147483648 ≤ c ∧ c ≤ 2147483647 ∧ 0 ≤ n ∧ n ≤ 3 ∧ 0 ≤ min2 (min2 (min2 dst a) b) f ∧ 0 ≤ min3 x0 x1 x2) := by
    rw [decide_eq_true_eq]
    unfold Ins.fits min3
    simp only [min2_neg]
    constructor
    · rintro ⟨h1, h2, h3, h4, h5, h6, h7, h8, h9, h10, h11, h12, h13⟩; exact ⟨h1, h2, h3, h4, h5, h6, ⟨⟨⟨h7, h8⟩, h9⟩, h10⟩, ⟨h11, h12⟩, h13⟩
    · rintro ⟨h1, h2, h3, h4, h5, h6, ⟨⟨⟨h7, h8⟩, h9⟩, h10⟩, ⟨h11, h12⟩, h13⟩; exact ⟨h1, h2, h3, h4, h5, h6, h7, h8, h9, h10, h11, h12, h13⟩
  generalize decide (Ins.fits ⟨id, kind, dst, a, b, c, f, n, x0, x1, x2⟩) = r at *
  obtain ⟨m4, hm4⟩ : ∃ m, min2 (min2 (min2 dst a) b) f = m := ⟨_, rfl⟩
  rw [hm4] at hfit
  have HF := Lib.hid hfit
  have HM := Lib.hid hm4
  clear hfit hm4
  unfold Ins.val
  dsimp only
  generalize hm3 : min3 x0 x1 x2 = m3 at *
  by_cases h0 : 0 ≤ id
  rotate_left
  · have h0' : id < 0 := by omega
    go_enter Tryz.func130, Tryz.ntmps130
    have hwn : Hid (Below w.heap.size w (w.alloc (.cells #[.int .i64 id, .int .i64 kind, .int .i64 dst, .int .i64 a, .int .i64 b, .int .i64 c, .int .i64 f, .int .i64 n, .int .i64 x0, .int .i64 x1, .int .i64 x2] 40))) := below1 _ _
    go_wp2_with (go_at_call 162; refine (min3_any x0 x1 x2 w.heap.size 8 _ (by simp) (by simp) (by simp)).mono ?_; rintro e wn ⟨rfl, hbn⟩; have hwm := Lib.hid (hwn.out.trans (hbn.mono hwn.out.size)); clear hwn hbn; have hwn := hwm; clear hwm)
    go_ret
    refine ⟨ret_bool ?_, hwn.out⟩
    have hf := HF.out
    cases r <;> simp at hf ⊢ <;> omega
  by_cases h1 : id < 96
  rotate_left
  · have h1' : 96 ≤ id := by omega
    go_enter Tryz.func130, Tryz.ntmps130
    have hwn : Hid (Below w.heap.size w (w.alloc (.cells #[.int .i64 id, .int .i64 kind, .int .i64 dst, .int .i64 a, .int .i64 b, .int .i64 c, .int .i64 f, .int .i64 n, .int .i64 x0, .int .i64 x1, .int .i64 x2] 40))) := below1 _ _
    go_wp2_with (go_at_call 162; refine (min3_any x0 x1 x2 w.heap.size 8 _ (by simp) (by simp) (by simp)).mono ?_; rintro e wn ⟨rfl, hbn⟩; have hwm := Lib.hid (hwn.out.trans (hbn.mono hwn.out.size)); clear hwn hbn; have hwn := hwm; clear hwm)
    go_ret
    refine ⟨ret_bool ?_, hwn.out⟩
    have hf := HF.out
    cases r <;> simp at hf ⊢ <;> omega
  by_cases h2 : -2147483648 ≤ c
  rotate_left
  · have h2' : c < -2147483648 := by omega
    go_enter Tryz.func130, Tryz.ntmps130
    have hwn : Hid (Below w.heap.size w (w.alloc (.cells #[.int .i64 id, .int .i64 kind, .int .i64 dst, .int .i64 a, .int .i64 b, .int .i64 c, .int .i64 f, .int .i64 n, .int .i64 x0, .int .i64 x1, .int .i64 x2] 40))) := below1 _ _
    go_wp2_with (go_at_call 162; refine (min3_any x0 x1 x2 w.heap.size 8 _ (by simp) (by simp) (by simp)).mono ?_; rintro e wn ⟨rfl, hbn⟩; have hwm := Lib.hid (hwn.out.trans (hbn.mono hwn.out.size)); clear hwn hbn; have hwn := hwm; clear hwm)
    go_ret
    refine ⟨ret_bool ?_, hwn.out⟩
    have hf := HF.out
    cases r <;> simp at hf ⊢ <;> omega
  by_cases h3 : c ≤ 2147483647
  rotate_left
  · have h3' : 2147483647 < c := by omega
    go_enter Tryz.func130, Tryz.ntmps130
    have hwn : Hid (Below w.heap.size w (w.alloc (.cells #[.int .i64 id, .int .i64 kind, .int .i64 dst, .int .i64 a, .int .i64 b, .int .i64 c, .int .i64 f, .int .i64 n, .int .i64 x0, .int .i64 x1, .int .i64 x2] 40))) := below1 _ _
    go_wp2_with (go_at_call 162; refine (min3_any x0 x1 x2 w.heap.size 8 _ (by simp) (by simp) (by simp)).mono ?_; rintro e wn ⟨rfl, hbn⟩; have hwm := Lib.hid (hwn.out.trans (hbn.mono hwn.out.size)); clear hwn hbn; have hwn := hwm; clear hwm)
    go_ret
    refine ⟨ret_bool ?_, hwn.out⟩
    have hf := HF.out
    cases r <;> simp at hf ⊢ <;> omega
  by_cases h4 : 0 ≤ n
  rotate_left
  · have h4' : n < 0 := by omega
    go_enter Tryz.func130, Tryz.ntmps130
    have hwn : Hid (Below w.heap.size w (w.alloc (.cells #[.int .i64 id, .int .i64 kind, .int .i64 dst, .int .i64 a, .int .i64 b, .int .i64 c, .int .i64 f, .int .i64 n, .int .i64 x0, .int .i64 x1, .int .i64 x2] 40))) := below1 _ _
    go_wp2_with (go_at_call 162; refine (min3_any x0 x1 x2 w.heap.size 8 _ (by simp) (by simp) (by simp)).mono ?_; rintro e wn ⟨rfl, hbn⟩; have hwm := Lib.hid (hwn.out.trans (hbn.mono hwn.out.size)); clear hwn hbn; have hwn := hwm; clear hwm)
    go_ret
    refine ⟨ret_bool ?_, hwn.out⟩
    have hf := HF.out
    cases r <;> simp at hf ⊢ <;> omega
  by_cases h5 : n ≤ 3
  rotate_left
  · have h5' : 3 < n := by omega
    go_enter Tryz.func130, Tryz.ntmps130
    have hwn : Hid (Below w.heap.size w (w.alloc (.cells #[.int .i64 id, .int .i64 kind, .int .i64 dst, .int .i64 a, .int .i64 b, .int .i64 c, .int .i64 f, .int .i64 n, .int .i64 x0, .int .i64 x1, .int .i64 x2] 40))) := below1 _ _
    go_wp2_with (go_at_call 162; refine (min3_any x0 x1 x2 w.heap.size 8 _ (by simp) (by simp) (by simp)).mono ?_; rintro e wn ⟨rfl, hbn⟩; have hwm := Lib.hid (hwn.out.trans (hbn.mono hwn.out.size)); clear hwn hbn; have hwn := hwm; clear hwm)
    go_ret
    refine ⟨ret_bool ?_, hwn.out⟩
    have hf := HF.out
    cases r <;> simp at hf ⊢ <;> omega
  by_cases h6 : 0 ≤ m4
  rotate_left
  · have h6' : m4 < 0 := by omega
    have hm4 : ∀ W, (Builtin.min_ #[3, 3, 3, 3] 3 #[.int .i64 dst, .int .i64 a, .int .i64 b, .int .i64 f]).run Tryz.prog W = .ok (.int .i64 m4) W := fun W => by rw [← HM.out]; simp [Builtin.min_, Builtin.min2, min2]; first | rfl | congr
    go_enter Tryz.func130, Tryz.ntmps130
    have hwn : Hid (Below w.heap.size w (w.alloc (.cells #[.int .i64 id, .int .i64 kind, .int .i64 dst, .int .i64 a, .int .i64 b, .int .i64 c, .int .i64 f, .int .i64 n, .int .i64 x0, .int .i64 x1, .int .i64 x2] 40))) := below1 _ _
    go_wp2_with (go_at_call 162; refine (min3_any x0 x1 x2 w.heap.size 8 _ (by simp) (by simp) (by simp)).mono ?_; rintro e wn ⟨rfl, hbn⟩; have hwm := Lib.hid (hwn.out.trans (hbn.mono hwn.out.size)); clear hwn hbn; have hwn := hwm; clear hwm)
    go_ret
    refine ⟨ret_bool ?_, hwn.out⟩
    have hf := HF.out
    cases r <;> simp at hf ⊢ <;> omega
  have hm4 : ∀ W, (Builtin.min_ #[3, 3, 3, 3] 3 #[.int .i64 dst, .int .i64 a, .int .i64 b, .int .i64 f]).run Tryz.prog W = .ok (.int .i64 m4) W := fun W => by rw [← HM.out]; simp [Builtin.min_, Builtin.min2, min2]; first | rfl | congr
  go_enter Tryz.func130, Tryz.ntmps130
  have hwn : Hid (Below w.heap.size w (w.alloc (.cells #[.int .i64 id, .int .i64 kind, .int .i64 dst, .int .i64 a, .int .i64 b, .int .i64 c, .int .i64 f, .int .i64 n, .int .i64 x0, .int .i64 x1, .int .i64 x2] 40))) := below1 _ _
  go_wp2_with (go_at_call 162; refine (min3_any x0 x1 x2 w.heap.size 8 _ (by simp) (by simp) (by simp)).mono ?_; rintro e wn ⟨rfl, hbn⟩; have hwm := Lib.hid (hwn.out.trans (hbn.mono hwn.out.size)); clear hwn hbn; have hwn := hwm; clear hwm)
  go_ret
  refine ⟨ret_bool ?_, hwn.out⟩
  have hf := HF.out
  cases r <;> simp at hf ⊢ <;> omega
end Go.Proofs.YtbddjneinfkmpaaGreatDoor
