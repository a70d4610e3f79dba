/- Graphs: Few, Same, Bools of the document; the law's example. -/
import Derived.Test.YtcbfmplddjmiaaaGrF
namespace Go.Proofs.Ytcbfmplddjmiaaa
open Go Go.RowKit Go.Sort

theorem few_iff (g : List (List Int)) : FewG g ↔ g.length ≤ 40 ∧ ∀ j, j < g.length → (g[j]?.getD []).length ≤ 60 := by
  constructor
  · exact fun h => ⟨h.1, fun j _ => h.2 j⟩
  · refine fun h => ⟨h.1, fun j => ?_⟩
    by_cases hj : j < g.length
    · exact h.2 j hj
    · rw [List.getElem?_eq_none (by omega)]; simp
set_option maxRecDepth 100000 in
set_option maxHeartbeats 4000000 in
theorem Few_any (a : Option Addr) (g : List (List Int)) (cap n : Nat) (w : World) (hG : GIs w.heap.size w a g) (hn : g.length = n) (hm : n ≤ maxLen) :
    Calls Try.prog 10 #[.slice a n cap] w fun e w' => ∃ b : Bool, e = .returned (.bool b) ∧ (b = true ↔ FewG g) ∧ Below w.heap.size w w' := by
  have HG := Lib.hid hG
  have HN := Lib.hid hn
  have hmx : n ≤ 9223372036854775807 := by unfold maxLen at hm; omega
  clear hG hn hm
  go_enter Try.func10, Try.ntmps10
  go_wp2_with fail
  go_loopw [3] (fun i wr => ∃ q : Nat, q ≤ n ∧ i = .int .i64 q ∧ Hid (∀ j, j < q → (g[j]?.getD []).length ≤ 60) ∧ Hid (Below w.heap.size w wr)) (fun i _ => n - (intOf i).toNat)
  case atStart => exact ⟨0, Nat.zero_le _, rfl, fun j hj => absurd hj (Nat.not_lt_zero _), Below.refl _ _⟩
  case round =>
    obtain ⟨q, hq, rfl, hok, hB⟩ := hrel
    by_cases hlt : q < n
    · have hqi : (q : Int) < (n : Int) := by omega
      obtain ⟨b, o, ra, rc, rfl, hb, e1, -⟩ := HG.out q (by rw [HN.out]; exact hlt)
      have g1 := (hB.out.cell (p := ⟨b, o + q, none⟩) hb).trans e1
      obtain ⟨L, hL⟩ : ∃ L, (g[q]?.getD []).length = L := ⟨_, rfl⟩
      rw [hL] at g1
      have HL := Lib.hid hL
      clear e1 hL
      by_cases h60 : L ≤ 60
      · have hb60 : ¬ (60 : Int) < (L : Int) := by omega
        go_wp2_with fail
        go_roundw
        case rel =>
          refine ⟨q + 1, by omega, by go_num, fun j hj => ?_, hB⟩
          rcases Nat.lt_succ_iff_lt_or_eq.1 hj with h | rfl
          · exact hok.out j h
          · rw [HL.out]; exact h60
        case measure => simp [intOf]; omega
      · have hb60 : (60 : Int) < (L : Int) := by omega
        go_wp2_with fail
        go_ret
        refine ⟨_, rfl, ⟨fun h => (by cases h), fun h => ?_⟩, hB.out⟩
        have := h.2 q
        rw [HL.out] at this
        omega
    · obtain rfl : q = n := by omega
      go_wp2_with fail
      go_ret
      refine ⟨_, rfl, ?_, hB.out⟩
      rw [few_iff, HN.out, decide_eq_true_iff]
      constructor
      · exact fun h => ⟨by omega, hok.out⟩
      · exact fun h => by have := h.1; omega

set_option maxRecDepth 100000 in
set_option maxHeartbeats 4000000 in
theorem Same_eq (a1 a2 : Option Addr) (g : List (List Int)) (c1 c2 n : Nat) (w : World) (h1 : GIs w.heap.size w a1 g) (h2 : GIs w.heap.size w a2 g) (hF : FewG g) (hn : g.length = n) :
    Calls Try.prog 11 #[.slice a1 n c1, .slice a2 n c2] w fun e w' => e = .returned (.bool true) ∧ Below w.heap.size w w' := by
  have H1 := Lib.hid h1
  have H2 := Lib.hid h2
  have HN := Lib.hid hn
  have HF := Lib.hid hF.2
  have hn40 : n ≤ 40 := hn ▸ hF.1
  have hb0 : ((n : Int) != (n : Int)) = false := by simp
  clear h1 h2 hn hF
  go_enter Try.func11, Try.ntmps11
  go_wp2_with fail
  go_loopw [5] (fun i wr => ∃ q : Nat, q ≤ n ∧ i = .int .i64 q ∧ Hid (Below w.heap.size w wr)) (fun i _ => n - (intOf i).toNat)
  case atStart => exact ⟨0, Nat.zero_le _, rfl, Below.refl _ _⟩
  case round =>
    obtain ⟨q, hq, rfl, hB⟩ := hrel
    by_cases hlt : q < n
    · have hqi : (q : Int) < (n : Int) := by omega
      obtain ⟨b, o, ra, rc, rfl, hb, e1, i1⟩ := H1.out q (by rw [HN.out]; exact hlt)
      obtain ⟨b', o', ra', rc', rfl, hb', e2, i2⟩ := H2.out q (by rw [HN.out]; exact hlt)
      have g1 := (hB.out.cell (p := ⟨b, o + q, none⟩) hb).trans e1
      have g2 := (hB.out.cell (p := ⟨b', o' + q, none⟩) hb').trans e2
      have hl := HF.out q
      generalize g[q]?.getD [] = l at *
      have q1 : ∀ d os, Calls Try.prog 19 #[.slice ra l.length rc, .slice ra' l.length rc'] (grow (redrawn wr d) os) fun e w'' => e = .returned (.bool true) ∧ ∃ p : Regrown, w'' = grow (redrawn wr p.d) p.os := fun d os => by
        have hbd := hB.out.trans ((below_regrown wr d os).mono hB.out.size)
        have h := Ints_ref ra ra' l l rc rc' (grow (redrawn wr d) os) ((i1.below hbd).mono hbd.size) ((i2.below hbd).mono hbd.size) (by omega)
        rw [show decide (l = l) = true by simp] at h
        exact Calls.regrown_of h
      obtain ⟨L, hL⟩ : ∃ L, l.length = L := ⟨_, rfl⟩
      rw [hL] at g1 g2 q1
      have m1 : ∀ d os, (grow (redrawn wr d) os).cell? ⟨b, o + q, none⟩ = some (.slice ra L rc) := fun d os => cell_regrown g1 d os
      have m2 : ∀ d os, (grow (redrawn wr d) os).cell? ⟨b', o' + q, none⟩ = some (.slice ra' L rc') := fun d os => cell_regrown g2 d os
      clear e1 e2 g1 g2 i1 i2 hL hl
      go_wp2_with fail
      refine wp_region_quiet_below (by kernel_rfl) (by kernel_rfl) ?_
      repeat (first | go_big_quiet_step (with_reducible exact q1 _ _) | quiet_step (with_reducible exact q1 _ _))
      refine wpQuiet_nil ?_
      intro _ hw'
      obtain ⟨⟨dq, osq⟩, hw''⟩ := hw'
      subst hw''
      have hb3 := Lib.hid (below_regrown wr dq osq)
      clear q1 m1 m2
      generalize grow (redrawn wr dq) osq = wq at *
      go_wp2_with fail
      go_roundw
      case rel => exact ⟨q + 1, by omega, by go_num, Lib.hid (hB.out.trans (hb3.out.mono hB.out.size))⟩
      case measure => simp [intOf]; omega
    · obtain rfl : q = n := by omega
      go_wp2_with fail
      go_ret
      exact ⟨rfl, hB.out⟩

set_option maxRecDepth 100000 in
set_option maxHeartbeats 4000000 in
theorem Bools_eq (b1 b2 : Nat) (l : List Bool) (c1 c2 n : Nat) (w : World) (h1 : BIs w b1 l) (h2 : BIs w b2 l) (hn : l.length = n) (hm : n ≤ 40) :
    Calls Try.prog 16 #[.slice (some ⟨b1, 0, none⟩) n c1, .slice (some ⟨b2, 0, none⟩) n c2] w fun e w' => e = .returned (.bool true) ∧ Below w.heap.size w w' := by
  have H1 := Lib.hid h1
  have H2 := Lib.hid h2
  have HN := Lib.hid hn
  have hb0 : ((n : Int) != (n : Int)) = false := by simp
  clear h1 h2 hn
  go_enter Try.func16, Try.ntmps16
  go_wp2_with fail
  go_loopw [5] (fun i wr => ∃ q : Nat, q ≤ n ∧ i = .int .i64 q ∧ Hid (Below w.heap.size w wr)) (fun i _ => n - (intOf i).toNat)
  case atStart => exact ⟨0, Nat.zero_le _, rfl, Below.refl _ _⟩
  case round =>
    obtain ⟨q, hq, rfl, hB⟩ := hrel
    by_cases hlt : q < n
    · have hqi : (q : Int) < (n : Int) := by omega
      have g1 := World.rowIs.cell (H1.out.below hB.out) (i := q) (by rw [HN.out]; exact hlt)
      have g2 := World.rowIs.cell (H2.out.below hB.out) (i := q) (by rw [HN.out]; exact hlt)
      generalize l[q]?.getD false = x at *
      have hxx : (x != x) = false := by cases x <;> rfl
      go_wp2
      go_quiet (fail)
      go_wp2
      go_roundw
      case rel => exact ⟨q + 1, by omega, by go_num, Lib.hid (below_drewN hB.out _)⟩
      case measure => simp [intOf]; omega
    · obtain rfl : q = n := by omega
      go_wp2_with fail
      go_ret
      exact ⟨rfl, hB.out⟩

theorem cell_laid (w : World) (cs : Array Value) (t : TypeId) (b i : Nat) (v : Value) (hb : b = w.heap.size) (h : cs[i]? = some v) : (w.alloc (.cells cs t)).cell? ⟨b, i, none⟩ = some v := by
  subst hb
  simp [h]
theorem cell_old (w : World) (o : Obj) (b i : Nat) (v : Value) (h : w.cell? ⟨b, i, none⟩ = some v) : (w.alloc o).cell? ⟨b, i, none⟩ = some v := by
  have hb := block_lt_of_cell h
  rw [((Below.refl w.heap.size w).alloc (Nat.le_refl _) o).cell (p := ⟨b, i, none⟩) hb]
  exact h
/-- The document's example. -/
def g0 : List (List Int) := [[1, 2], [3], [3], []]
theorem g0_reach : reachL 4 (edge g0) 1 = [false, true, false, true] := by decide +kernel
theorem g0_order : orderI 4 (edge g0) 0 = [0, 2, 1, 3] := by decide +kernel
theorem g0_few : FewG g0 := by rw [few_iff]; exact ⟨by decide, fun j hj => by have : j < 4 := hj; match j, this with | 0, _ => decide | 1, _ => decide | 2, _ => decide | 3, _ => decide⟩
/-- It, as it is laid. -/
def g0W (w : World) : World := (((w.alloc (.cells #[.int .i64 1, .int .i64 2] 3)).alloc (.cells #[.int .i64 3] 3)).alloc (.cells #[.int .i64 3] 3)).alloc (.cells #[.slice (some ⟨w.heap.size, 0, none⟩) 2 2, .slice (some ⟨w.heap.size + 1, 0, none⟩) 1 1, .slice (some ⟨w.heap.size + 2, 0, none⟩) 1 1, .slice none 0 0] 32)
theorem g0_is (w : World) : GIs (g0W w).heap.size (g0W w) (some ⟨w.heap.size + 3, 0, none⟩) g0 ∧ Below w.heap.size w (g0W w) := by
  have hs : (g0W w).heap.size = w.heap.size + 4 := by simp [g0W]
  refine ⟨fun j hj => ?_, below4 w _ _ _ _⟩
  have hj' : j < 4 := hj
  rw [hs]
  match j, hj' with
  | 0, _ => exact ⟨_, 0, some ⟨w.heap.size, 0, none⟩, 2, rfl, by omega, cell_laid _ _ _ _ _ _ (by simp) rfl, fun i hi => by
      have hi' : i < 2 := hi
      match i, hi' with
      | 0, _ => exact ⟨_, 0, rfl, by omega, cell_old _ _ _ _ _ (cell_old _ _ _ _ _ (cell_old _ _ _ _ _ (cell_laid _ _ _ _ _ _ (by simp) rfl)))⟩
      | 1, _ => exact ⟨_, 0, rfl, by omega, cell_old _ _ _ _ _ (cell_old _ _ _ _ _ (cell_old _ _ _ _ _ (cell_laid _ _ _ _ _ _ (by simp) rfl)))⟩⟩
  | 1, _ => exact ⟨_, 0, some ⟨w.heap.size + 1, 0, none⟩, 1, rfl, by omega, cell_laid _ _ _ _ _ _ (by simp) rfl, fun i hi => by
      have hi' : i < 1 := hi
      match i, hi' with
      | 0, _ => exact ⟨_, 0, rfl, by omega, cell_old _ _ _ _ _ (cell_old _ _ _ _ _ (cell_laid _ _ _ _ _ _ (by simp) rfl))⟩⟩
  | 2, _ => exact ⟨_, 0, some ⟨w.heap.size + 2, 0, none⟩, 1, rfl, by omega, cell_laid _ _ _ _ _ _ (by simp) rfl, fun i hi => by
      have hi' : i < 1 := hi
      match i, hi' with
      | 0, _ => exact ⟨_, 0, rfl, by omega, cell_old _ _ _ _ _ (cell_laid _ _ _ _ _ _ (by simp) rfl)⟩⟩
  | 3, _ => exact ⟨_, 0, none, 0, rfl, by omega, cell_laid _ _ _ _ _ _ (by simp) rfl, fun i hi => absurd hi (Nat.not_lt_zero _)⟩
end Go.Proofs.Ytcbfmplddjmiaaa
