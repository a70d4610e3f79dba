import Derived.RangeFuncFrom
import Derived.Maps.AppendAt
import Derived.Test.YtjlofjoekpoepaaDoorF
namespace Go.Proofs.YtjlofjoekpoepaaDoor
open Go Go.RowKit Go.Sort Go.Shelf

attribute [local go_sem] Oper.semAt_some

theorem numsFrom_length (ws : List Nat) : ∀ k, (numsFrom k ws).length ≤ 64 * ws.length := by
  induction ws with
  | nil => intro k; simp [numsFrom]
  | cons x r ih =>
    intro k
    have h1 : (wnums x).length ≤ 64 := by
      have := List.length_filter_le (fun i => x.testBit i) (List.range 64)
      simpa [wnums] using this
    have h2 := ih (k + 1)
    simp only [numsFrom, List.length_append, List.length_map, List.length_cons]
    omega

theorem nums_length (ws : List Nat) : (nums ws).length ≤ 64 * ws.length := numsFrom_length ws 0

theorem keepsOthers_of_below {W W' : World} (h : Below W.heap.size W W') : KeepsOthers W W' := by
  exact ⟨h.size, fun k o hk _ => (h.block k (Array.getElem?_eq_some_iff.1 hk).1).trans hk⟩

set_option maxRecDepth 100000 in
set_option maxHeartbeats 2000000 in
theorem Count_any (v : Value) (n : Int) (ws : List Nat) (w : World) (hv : SV w v n ws) (hl : ws.length ≤ 30) (hB : WB ws) (hT : Tab w) :
    Calls Tryd.prog 26 #[v] w fun e w' => e = .returned (.int .i64 ((nums (nrmW n ws)).length : Nat)) ∧ Below w.heap.size w w' := by
  refine (callsIn_wide (n := 3)).1 ?_
  have hv0 := hv
  obtain ⟨a, cap, rfl, hWd⟩ := hv
  have hW2 : Below w.heap.size w ((w.alloc (.cells #[.int .i64 n, .slice a ws.length cap] 28)).alloc (.cells #[.int .i64 0] 3)) := ((Below.refl _ _).alloc (Nat.le_refl _) _).alloc (by simp) _
  have HS := Lib.hid (saneOrEmpty_any w.heap.size _ n ws _ (SVB.below hv0 hW2) hW2.size hl)
  have HO := Lib.hid (nrm_ok (n := n) hB)
  have HW2 := Lib.hid hW2
  clear hv0 hWd hW2
  generalize nrm n ws = n' at *
  generalize nrmW n ws = ws' at *
  refine callsIn_of_wp_marks Tryd.func26 rfl trivial ?_ rfl
  simp only [Tryd.ntmps26, List.size_toArray, List.length_cons, List.length_nil, Nat.reduceAdd, Nat.reduceSub, Array.replicate_succ, Array.replicate_zero, List.push_toArray, List.append_toArray, List.nil_append, List.cons_append]
  gi_wp2_with (refine ⟨trivial, ?_⟩; gi_at_call 45; refine (callsIn_wide.2 HS.out).mono ?_; clear HS; rintro e w1 ⟨u, rfl, hsv, hb⟩)
  have B2 := Boxed.new (w.alloc (.cells #[.int .i64 n, .slice a ws.length cap] 28)) 3 (.int .i64 0)
  rw [World.size_alloc] at B2
  have hc2 := (hb.cell (p := ⟨w.heap.size + 1, 0, none⟩) (by simp)).trans B2.cell
  have hf2 := (hb.frozen (p := ⟨w.heap.size + 1, 0, none⟩) (by simp)).trans B2.frozen
  have hb1 : Below w.heap.size w w1 := HW2.out.trans (hb.mono HW2.out.size)
  have hz1 : w.heap.size + 2 ≤ w1.heap.size := by have := hb.size; simpa using this
  obtain ⟨a', cap', rfl, hWd'⟩ := hsv
  have HWD := Lib.hid hWd'
  have HB1 := Lib.hid hb1
  have HC2 := Lib.hid hc2
  have HF2 := Lib.hid hf2
  clear hb hWd' B2 hc2 hf2 hb1
  gi_wp2_with (refine ⟨trivial, ?_⟩; gi_at_call 50; refine (callsIn_wide.2 (numbers_any _ _ _ _ _)).mono ?_; rintro e w2 ⟨rfl, rfl⟩)
  have ho := HO.out
  have hNl : (nums ws').length ≤ 1024 := by have := nums_length ws'; have := ho.len16; omega
  have BX := Box.new w1 (.int .i64 (n' : Int)) (.slice a' ws'.length cap') 28
  have hA : Below w1.heap.size w1 (w1.alloc (.cells #[.int .i64 (n' : Int), .slice a' ws'.length cap'] 28)) := (Below.refl _ _).alloc (Nat.le_refl _) _
  have hB0 : Below w.heap.size w (w1.alloc (.cells #[.int .i64 (n' : Int), .slice a' ws'.length cap'] 28)) := HB1.out.trans (hA.mono HB1.out.size)
  have hs : (w1.alloc (.cells #[.int .i64 (n' : Int), .slice a' ws'.length cap'] 28)).heap.size = w1.heap.size + 1 := by simp
  generalize w1.alloc (.cells #[.int .i64 (n' : Int), .slice a' ws'.length cap'] 28) = W2 at *
  refine wpIn_rangeFunc_ownF rfl (by omega) (gf := 59) (lb := #[.pointer (some ⟨w1.heap.size, 0, none⟩)]) rfl trivial (enters_of Tryd.func59 (by kernel_rfl) rfl)
    (numbers_stops 2 (by omega) w1.heap.size w.heap.size (n' : Int) a' ws' cap' W2 (by omega) hB0.size hT.1 ho.len16 ho.wb BX.c0 BX.c1 (hT.below hB0) (HWD.out.below (hA.mono HB1.out.size))) belowK_t (belowK_b hB0.size) (Below.refl _ _) (fun _ => rfl)
    (fun pre W => (W.cell? ⟨w.heap.size + 1, 0, none⟩ = some (.int .i64 (pre.length : Nat)) ∧ W.frozen? ⟨w.heap.size + 1, 0, none⟩ = false) ∧ Below w.heap.size w W)
    (fun _ _ _ => False)
    (OwnFrom.and (Own.from (fun s A B row hs hg hr => ⟨cell_kept hs.1 hg hr, (frozen_kept hs.1 hg hr).trans hs.2⟩) _) (ownFrom_below (Nat.le_refl _) hB0.size))
    (fun _ _ _ _ _ hs _ _ => hs)
    ⟨⟨(hA.cell (p := ⟨w.heap.size + 1, 0, none⟩) (by simp; omega)).trans HC2.out, (hA.frozen (p := ⟨w.heap.size + 1, 0, none⟩) (by simp; omega)).trans HF2.out⟩, hB0⟩
    (fun x => { tmps := #[.agg #[.int .i64 n, .slice a ws.length cap], .pointer (some ⟨w.heap.size, 0, none⟩), .int .i64 0, .pointer (some ⟨w.heap.size + 1, 0, none⟩), .agg #[.int .i64 n, .slice a ws.length cap], .agg #[.int .i64 (n' : Int), .slice a' ws'.length cap'], .func (.func 59) #[] #[.pointer (some ⟨w1.heap.size, 0, none⟩)], .int .i64 (x : Int), undef, undef, undef], defers := [] }) ?assign ?body ?done ?stop
  case assign =>
    intro l x W K hK
    gi_wp2
    simpa using hK
  case body =>
    rintro l pre x W ⟨⟨hc, hf⟩, hB⟩ hlt
    have hp : (pre.length : Int) < 1024 := by omega
    have hp0 : (0 : Int) ≤ (pre.length : Int) := by omega
    clear BX hA hB0 hs hNl
    gi_wp2
    exact ⟨KeepsOthers.setCell _ _ _, (Below.refl w.heap.size W).setCell (p := ⟨w.heap.size + 1, 0, none⟩) (by simp) _, ⟨by rw [List.length_append]; exact World.cell?_setCell_same' _ _ _ (by rw [hc]; rfl), by rw [World.frozen?_setCell]; exact hf⟩, hB.setCell (p := ⟨w.heap.size + 1, 0, none⟩) (by simp) _⟩
  case done =>
    rintro D ys W hD rfl ⟨⟨hc, _⟩, hB⟩ hK
    gi_wp2
    refine ⟨by simp, .inl ⟨_, _, rfl, run_takeDeferred hK, ?_⟩⟩
    exact ⟨_, results_tmp rfl _ _ _, rfl, hB.trans (belowK_b (w := w) (Nat.le_refl _) W D _ _ (by have := hB0.size; omega) hK rfl rfl)⟩
  case stop =>
    rintro D c pre W _ _ h _
    exact h.elim
end Go.Proofs.YtjlofjoekpoepaaDoor
