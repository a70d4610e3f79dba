import Derived.Deep.AppendLies
import Derived.Test.YtcmncclibhjepaaFlatE
import Derived.Test.YtcmncclibhjepaaSigA
import Derived.Test.YtcmncclibhjepaaInts
import Derived.Test.YtcmncclibhjepaaEnvM
namespace Go.Proofs.Ytcmncclibhjepaa
open Go Go.RowKit Go.Sort

/-- A slice's values, read in a world, in blocks below B. -/
def FIs (B : Nat) (W : World) (a : Option Addr) (l : List V) : Prop :=
  ∀ j, j < l.length → ∃ b o, a = some ⟨b, o, none⟩ ∧ b < B ∧ W.cell? ⟨b, o + j * 2, none⟩ = some (.int .i64 (l[j]?.getD vbot).k) ∧ W.cell? ⟨b, o + j * 2 + 1, none⟩ = some (.int .i64 (l[j]?.getD vbot).c)
theorem FIs.below {B : Nat} {W W' : World} {a : Option Addr} {l : List V} (h : FIs B W a l) (hb : Below B W W') : FIs B W' a l :=
  fun j hj => let ⟨b, o, e, hlt, h0, h1⟩ := h j hj; ⟨b, o, e, hlt, (hb.cell (p := ⟨b, o + j * 2, none⟩) hlt).trans h0, (hb.cell (p := ⟨b, o + j * 2 + 1, none⟩) hlt).trans h1⟩
theorem FIs.mono {B B' : Nat} {W : World} {a : Option Addr} {l : List V} (h : FIs B W a l) (hb : B ≤ B') : FIs B' W a l :=
  fun j hj => let ⟨b, o, e, hlt, h0⟩ := h j hj; ⟨b, o, e, Nat.lt_of_lt_of_le hlt hb, h0⟩
theorem FIs.nil (B : Nat) (W : World) (a : Option Addr) : FIs B W a [] := fun _ hj => absurd hj (Nat.not_lt_zero _)
theorem Is.nil (B : Nat) (W : World) (a : Option Addr) : Is B W a [] := fun _ hj => absurd hj (Nat.not_lt_zero _)

theorem szG_eq {α : Type} (on : Bool) (l : List α) : szG on l = if on then l.length else 0 := rfl

set_option maxHeartbeats 1000000 in
theorem fsize_any (on : Bool) (a : Option Addr) (n cap : Nat) (w : World) :
    Calls Try.prog 68 #[.agg #[.bool on, .slice a n cap]] w fun e w' => e = .returned (.int .i64 ((if on then n else 0 : Nat) : Int)) ∧ Below w.heap.size w w' := by
  cases on
  all_goals
    go_enter Try.func68, Try.ntmps68
    go_wp2
    go_ret
    exact ⟨rfl, below1 _ _⟩

set_option maxHeartbeats 2000000 in
theorem fat_any (on : Bool) (a : Option Addr) (l : List V) (cap : Nat) (i : Int) (w : World) (hF : FIs w.heap.size w a l) :
    Calls Try.prog 42 #[.agg #[.bool on, .slice a l.length cap], .int .i64 i] w fun e w' => e = .returned (atG vbot on l i).val ∧ Below w.heap.size w w' := by
  have HC := Lib.hid (fun W => fsize_any on a l.length cap W)
  have HF := Lib.hid hF
  have BE := (Box.new w (.bool on) (.slice a l.length cap) 30).alloc (.cells #[.int .i64 0, .int .i64 0] 32)
  have BR := Box.new (w.alloc (.cells #[.bool on, .slice a l.length cap] 30)) (.int .i64 0) (.int .i64 0) 32
  have hW := below2 w (.cells #[.bool on, .slice a l.length cap] 30) (.cells #[.int .i64 0, .int .i64 0] 32)
  rw [World.size_alloc] at BR
  generalize hE : (w.alloc (.cells #[.bool on, .slice a l.length cap] 30)).alloc (.cells #[.int .i64 0, .int .i64 0] 32) = W at *
  have HW := Lib.hid hW
  clear hW hF
  obtain ⟨c0, c1, -, -⟩ := id BE
  by_cases h0 : i < 0
  · rw [atG_out (by omega)]
    have BR' := BR
    clear BR
    obtain ⟨d2, d3, g2, g3⟩ := BR'.alloc (.cells #[.int .i64 0, .int .i64 0] 32)
    have hb2 := below_put2 (HW.out.alloc HW.out.size (.cells #[.int .i64 0, .int .i64 0] 32)) (b := w.heap.size + 1) (by omega) (.int .i64 0) (.int .i64 0)
    have HB2 := Lib.hid hb2
    clear hb2
    go_enter Try.func42, Try.ntmps42
    go_wp2_with fail
    exact bodyPost_ret (v := vbot.val) (by simp [results, Try.results42, go_sem, d2, d3, V.val, vbot]) rfl ⟨rfl, HB2.out⟩
  · by_cases h1 : i < (szG on l : Int)
    · obtain rfl : on = true := by cases on <;> simp_all [szG]; omega
      obtain ⟨k, rfl⟩ : ∃ k : Nat, i = (k : Int) := ⟨i.toNat, by omega⟩
      have hk : k < l.length := by simpa [szG] using h1
      rw [atG_in hk]
      obtain ⟨b, o, rfl, hlt, e0, e1⟩ := HF.out k hk
      generalize l[k]?.getD vbot = v at *
      obtain ⟨x, y⟩ := v
      have H0 := Lib.hid e0
      have H1 := Lib.hid e1
      generalize l.length = n at *
      clear e0 e1 h0 h1 HF
      go_enter Try.func42, Try.ntmps42
      go_wp2_with (go_at_call 68; refine (HC.out _).mono ?_; clear HC c0 c1; rintro e w1 ⟨rfl, hb⟩; obtain ⟨d0, d1, -, -⟩ := BE.below hb BE.lt; obtain ⟨d2, d3, g2, g3⟩ := BR.below hb BR.lt; have HB := Lib.hid (HW.out.trans (hb.mono HW.out.size)); clear hb BE BR; have x0 := (HB.out.cell (p := ⟨b, o + k * 2, none⟩) hlt).trans H0.out; have x1 := (HB.out.cell (p := ⟨b, o + k * 2 + 1, none⟩) hlt).trans H1.out)
      have hb2 := below_put2 HB.out (b := w.heap.size + 1) (by omega) (.int .i64 x) (.int .i64 y)
      exact bodyPost_ret (v := .agg #[.int .i64 x, .int .i64 y]) (by simp [results, Try.results42, go_sem, d2, d3]) rfl ⟨rfl, hb2⟩
    · rw [atG_out (by omega)]
      obtain ⟨m, hm⟩ : ∃ m : Nat, (if on then l.length else 0) = m := ⟨_, rfl⟩
      rw [szG_eq, hm] at h1
      rw [hm] at HC
      generalize l.length = n at *
      have hmi : (m : Int) ≤ i := by omega
      clear HF hm h1
      go_enter Try.func42, Try.ntmps42
      go_wp2_with (go_at_call 68; refine (HC.out _).mono ?_; clear HC c0 c1; rintro e w1 ⟨rfl, hb⟩; obtain ⟨d0, d1, -, -⟩ := BE.below hb BE.lt; obtain ⟨d2, d3, g2, g3⟩ := (BR.below hb BR.lt).alloc (.cells #[.int .i64 0, .int .i64 0] 32); have HB := Lib.hid (HW.out.trans (hb.mono HW.out.size)); clear hb BE BR)
      have hb2 := below_put2 (HB.out.alloc HB.out.size (.cells #[.int .i64 0, .int .i64 0] 32)) (b := w.heap.size + 1) (by omega) (.int .i64 0) (.int .i64 0)
      exact bodyPost_ret (v := vbot.val) (by simp [results, Try.results42, go_sem, d2, d3, V.val, vbot]) rfl ⟨rfl, hb2⟩

set_option maxHeartbeats 1000000 in
theorem ssize_any (on : Bool) (a : Option Addr) (n cap : Nat) (w : World) :
    Calls Try.prog 71 #[.agg #[.bool on, .slice a n cap]] w fun e w' => e = .returned (.int .i64 ((if on then n else 0 : Nat) : Int)) ∧ Below w.heap.size w w' := by
  cases on
  all_goals
    go_enter Try.func71, Try.ntmps71
    go_wp2
    go_ret
    exact ⟨rfl, below1 _ _⟩

set_option maxHeartbeats 2000000 in
theorem sat_any (on : Bool) (a : Option Addr) (l : List Int) (cap : Nat) (i : Int) (w : World) (hF : Is w.heap.size w a l) :
    Calls Try.prog 54 #[.agg #[.bool on, .slice a l.length cap], .int .i64 i] w fun e w' => e = .returned (.int .i64 (atG 0 on l i)) ∧ Below w.heap.size w w' := by
  have HC := Lib.hid (fun W => ssize_any on a l.length cap W)
  have HF := Lib.hid hF
  have BE := Box.new w (.bool on) (.slice a l.length cap) 49
  have hW := below1 w (.cells #[.bool on, .slice a l.length cap] 49)
  generalize hE : w.alloc (.cells #[.bool on, .slice a l.length cap] 49) = W at *
  have HW := Lib.hid hW
  clear hW hF
  obtain ⟨c0, c1, -, -⟩ := id BE
  by_cases h0 : i < 0
  · rw [atG_out (by omega)]
    go_enter Try.func54, Try.ntmps54
    go_wp2_with fail
    go_ret
    exact ⟨rfl, (by first | exact HW.out | exact HW.out.alloc HW.out.size _)⟩
  · by_cases h1 : i < (szG on l : Int)
    · obtain rfl : on = true := by cases on <;> simp_all [szG]; omega
      obtain ⟨k, rfl⟩ : ∃ k : Nat, i = (k : Int) := ⟨i.toNat, by omega⟩
      have hk : k < l.length := by simpa [szG] using h1
      rw [atG_in hk]
      obtain ⟨b, o, rfl, hlt, e0⟩ := HF.out k hk
      generalize l[k]?.getD 0 = x at *
      have H0 := Lib.hid e0
      generalize l.length = n at *
      clear e0 h0 h1 HF
      go_enter Try.func54, Try.ntmps54
      go_wp2_with (go_at_call 71; refine (HC.out _).mono ?_; clear HC c0 c1; rintro e w1 ⟨rfl, hb⟩; obtain ⟨d0, d1, -, -⟩ := BE.below hb BE.lt; have HB := Lib.hid (HW.out.trans (hb.mono HW.out.size)); clear hb BE; have x0 := (HB.out.cell (p := ⟨b, o + k, none⟩) hlt).trans H0.out)
      go_ret
      exact ⟨rfl, HB.out⟩
    · rw [atG_out (by omega)]
      obtain ⟨m, hm⟩ : ∃ m : Nat, (if on then l.length else 0) = m := ⟨_, rfl⟩
      rw [szG_eq, hm] at h1
      rw [hm] at HC
      generalize l.length = n at *
      have hmi : (m : Int) ≤ i := by omega
      clear HF hm h1
      go_enter Try.func54, Try.ntmps54
      go_wp2_with (go_at_call 71; refine (HC.out _).mono ?_; clear HC c0 c1; rintro e w1 ⟨rfl, hb⟩; obtain ⟨d0, d1, -, -⟩ := BE.below hb BE.lt; have HB := Lib.hid (HW.out.trans (hb.mono HW.out.size)); clear hb BE)
      go_ret
      exact ⟨rfl, (by first | exact HB.out | exact HB.out.alloc HB.out.size _)⟩

set_option maxHeartbeats 2000000 in
theorem etop_any (v : V) (w : World) :
    Calls Try.prog 41 #[v.val] w fun e w' => e = .returned v.sn.val ∧ Below w.heap.size w w' := by
  obtain ⟨k, c⟩ := v
  obtain ⟨s, hs⟩ : ∃ s, decide (V.sane ⟨k, c⟩) = s := ⟨_, rfl⟩
  have HC := Lib.hid (fun W => Sane_any ⟨k, c⟩ W)
  rw [hs] at HC
  have hsn : V.sn ⟨k, c⟩ = if s then ⟨k, c⟩ else vtop := by rw [← hs]; unfold V.sn; by_cases h : V.sane ⟨k, c⟩ <;> simp [h]
  rw [hsn]
  clear hsn hs
  unfold V.val at HC ⊢
  have B0 := (Box.new w (.int .i64 k) (.int .i64 c) 32).alloc (.cells #[.int .i64 0, .int .i64 0] 32)
  have R0 := Box.new (w.alloc (.cells #[.int .i64 k, .int .i64 c] 32)) (.int .i64 0) (.int .i64 0) 32
  have hW := below2 w (.cells #[.int .i64 k, .int .i64 c] 32) (.cells #[.int .i64 0, .int .i64 0] 32)
  rw [World.size_alloc] at R0
  generalize hE : (w.alloc (.cells #[.int .i64 k, .int .i64 c] 32)).alloc (.cells #[.int .i64 0, .int .i64 0] 32) = W at *
  have HW := Lib.hid hW
  obtain ⟨c0, c1, -, -⟩ := id B0
  clear hW
  cases s with
  | true =>
    go_enter Try.func41, Try.ntmps41
    go_wp2_with (go_at_call 67; refine (HC.out _).mono ?_; clear HC c0 c1; rintro e w1 ⟨rfl, hb⟩; obtain ⟨d0, d1, -, -⟩ := B0.below hb B0.lt; obtain ⟨d2, d3, g2, g3⟩ := R0.below hb R0.lt; have HB := Lib.hid (HW.out.trans (hb.mono HW.out.size)); clear hb B0 R0)
    have hb2 := below_put2 HB.out (b := w.heap.size + 1) (by omega) (.int .i64 k) (.int .i64 c)
    exact bodyPost_ret (v := .agg #[.int .i64 k, .int .i64 c]) (by simp [results, Try.results41, go_sem, d2, d3]) rfl ⟨rfl, hb2⟩
  | false =>
    go_enter Try.func41, Try.ntmps41
    go_wp2_with (go_at_call 67; refine (HC.out _).mono ?_; clear HC c0 c1; rintro e w1 ⟨rfl, hb⟩; obtain ⟨d0, d1, -, -⟩ := B0.below hb B0.lt; obtain ⟨d2, d3, g2, g3⟩ := R0.below hb R0.lt; have HB := Lib.hid (HW.out.trans (hb.mono HW.out.size)); clear hb B0 R0)
    have hb2 := below_put2 HB.out (b := w.heap.size + 1) (by omega) (.int .i64 2) (.int .i64 0)
    exact bodyPost_ret (v := .agg #[.int .i64 2, .int .i64 0]) (by simp [results, Try.results41, go_sem, d2, d3]) rfl ⟨rfl, hb2⟩

set_option maxHeartbeats 1000000 in
theorem eall_any (s : Int) (w : World) :
    Calls Try.prog 53 #[.int .i64 s] w fun e w' => e = .returned (.int .i64 (sS s : Nat)) ∧ Below w.heap.size w w' := by
  have HC := Lib.hid (fun W => gSane_any s W)
  by_cases h : 0 ≤ s ∧ s ≤ 7
  · rw [decide_eq_true h] at HC
    rw [sS_in h]
    clear h
    go_enter Try.func53, Try.ntmps53
    go_wp2_with (go_at_call 70; refine (HC.out _).mono ?_; rintro e w1 ⟨rfl, hb⟩)
    go_ret
    exact ⟨rfl, hb⟩
  · rw [decide_eq_false h] at HC
    rw [sS_out h]
    clear h
    go_enter Try.func53, Try.ntmps53
    go_wp2_with (go_at_call 70; refine (HC.out _).mono ?_; rintro e w1 ⟨rfl, hb⟩)
    go_ret
    exact ⟨rfl, hb⟩

set_option maxHeartbeats 1000000 in
theorem within_any (n : Int) (m : Nat) (w : World) (hm : m ≤ 1024) :
    Calls Try.prog 52 #[.int .i64 n, .int .i64 (m : Int)] w fun e w' => e = .returned (.int .i64 ((clG n m : Nat) : Int)) ∧ Below w.heap.size w w' := by
  go_enter Try.func52, Try.ntmps52
  go_wp2
  all_goals
    go_ret
    refine ⟨ret_int ?_, Below.refl _ _⟩
    unfold clG
    (repeat' split) <;> omega

set_option maxHeartbeats 2000000 in
theorem eHeight_any (n m : Int) (w : World) :
    Calls Try.prog 23 #[.int .i64 n, .int .i64 m] w fun e w' => e = .returned (.int .i64 ((clG n 1024 * clG m 1024 + 1 : Nat) : Int)) ∧ Below w.heap.size w w' := by
  have HA : Hid (∀ W, Calls Try.prog 52 #[.int .i64 n, .int .i64 1024] W fun e w' => e = .returned (.int .i64 ((clG n 1024 : Nat) : Int)) ∧ Below W.heap.size W w') := fun W => within_any n 1024 W (by decide)
  have HB : Hid (∀ W, Calls Try.prog 52 #[.int .i64 m, .int .i64 1024] W fun e w' => e = .returned (.int .i64 ((clG m 1024 : Nat) : Int)) ∧ Below W.heap.size W w') := fun W => within_any m 1024 W (by decide)
  have hx := clG_le n 1024
  have hy := clG_le m 1024
  generalize clG n 1024 = x at *
  generalize clG m 1024 = y at *
  have hxy : x * y ≤ 1024 * 1024 := Nat.mul_le_mul hx hy
  obtain ⟨z, hz⟩ : ∃ z, x * y = z := ⟨_, rfl⟩
  have hzi : (x : Int) * (y : Int) = (z : Int) := by rw [← hz]; simp
  rw [hz] at hxy ⊢
  have HZ := Lib.hid hzi
  have HBN : Hid (Below w.heap.size w w) := Below.refl _ _
  clear hz hzi
  go_enter Try.func23, Try.ntmps23
  go_wp2_with (go_at_call 52; (first | with_reducible refine (HA.out _).mono ?_ | with_reducible refine (HB.out _).mono ?_); rintro e wn ⟨rfl, hbn⟩; have hbx := HBN.out.trans (hbn.mono HBN.out.size); clear HBN hbn; have HBN := Lib.hid hbx; clear hbx)
  go_ret
  refine ⟨ret_int ?_, HBN.out⟩
  rw [HZ.out]
  first | rfl | omega | (unfold wrap64; omega)

set_option maxHeartbeats 2000000 in
set_option maxRecDepth 100000 in
theorem rHeight4_any (n m : Int) (w : World) :
    Calls Try.prog 24 #[.int .i64 n, .int .i64 m] w fun e w' => e = .returned (.int .i64 ((clG n 1024 * clG m 1024 + 1 : Nat) : Int)) ∧ Below w.heap.size w w' := by
  have hx := clG_le n 1024
  have hy := clG_le m 1024
  have key : ∀ z : Int, (z < 0 ∧ clG z 1024 = 0) ∨ (1024 < z ∧ clG z 1024 = 1024) ∨ (0 ≤ z ∧ z ≤ 1024 ∧ z = (clG z 1024 : Nat)) := fun z => by unfold clG; split <;> (try split) <;> omega
  have kn := key n
  have km := key m
  generalize clG n 1024 = x at *
  generalize clG m 1024 = y at *
  have hxy : x * y ≤ 1024 * 1024 := Nat.mul_le_mul hx hy
  clear key
  rcases kn with ⟨h1, rfl⟩ | ⟨h1, rfl⟩ | ⟨h1, h2, rfl⟩ <;> rcases km with ⟨g1, rfl⟩ | ⟨g1, rfl⟩ | ⟨g1, g2, rfl⟩
  all_goals
    go_enter Try.func24, Try.ntmps24
    go_wp2
    all_goals
      go_ret
      refine ⟨ret_int ?_, Below.refl _ _⟩
      first | rfl | omega | (unfold wrap64; omega) | (rcases Nat.eq_zero_or_pos x with rfl | hx0 <;> rcases Nat.eq_zero_or_pos y with rfl | hy0 <;> simp_all <;> (try rw [← Int.natCast_mul]) <;> (try (repeat' split)) <;> first | done | omega | (unfold wrap64; omega))
end Go.Proofs.Ytcmncclibhjepaa
