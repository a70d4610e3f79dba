import Derived.RangeFuncWrites
import Derived.Maps.AppendAt
import Derived.Test.YtjlofjoekpoepaaDoorG
namespace Go.Proofs.YtjlofjoekpoepaaDoor
open Go Go.RowKit Go.Sort Go.Shelf

attribute [local go_sem] Oper.semAt_some

theorem Tryd_info3 : (Tryd.prog.info? 3).map (fun i => (i.zero, i.size, i.bytes)) = some (some (.int .i64 0), 1, 8) := by kernel_rfl

def encI (x : Nat) : Value := .int .i64 (x : Int)

set_option maxRecDepth 100000 in
set_option maxHeartbeats 2000000 in
theorem List_any (v : Value) (n : Int) (ws : List Nat) (w : World) (hv : SV w v n ws) (hl : ws.length ≤ 30) (hB : WB ws) (hT : Tab w) :
    Calls Tryd.prog 25 #[v] w fun e w' => ∃ u, e = .returned u ∧ w'.ownsRow w.heap.size 3 1 u (nums (nrmW n ws)).length ((nums (nrmW n ws)).map encI) ∧ Below w.heap.size w w' := by
  refine (callsIn_wide (n := 3)).1 ?_
  have hv0 := hv
  obtain ⟨a, cap, rfl, hWd⟩ := hv
  have hW2 : Below w.heap.size w ((w.alloc (.cells #[.int .i64 n, .slice a ws.length cap] 28)).alloc (.cells #[.slice none 0 0] 25)) := ((Below.refl _ _).alloc (Nat.le_refl _) _).alloc (by simp) _
  have HS := Lib.hid (saneOrEmpty_any w.heap.size _ n ws _ (SVB.below hv0 hW2) hW2.size hl)
  have HO := Lib.hid (nrm_ok (n := n) hB)
  have HW2 := Lib.hid hW2
  clear hv0 hWd hW2
  generalize nrm n ws = n' at *
  generalize nrmW n ws = ws' at *
  obtain ⟨i0, hi, hz0, hz1, hz2⟩ := info_parts Tryd_info3
  refine callsIn_of_wp_marks Tryd.func25 rfl trivial ?_ rfl
  simp only [Tryd.ntmps25, List.size_toArray, List.length_cons, List.length_nil, Nat.reduceAdd, Nat.reduceSub, Array.replicate_succ, Array.replicate_zero, List.push_toArray, List.append_toArray, List.nil_append, List.cons_append]
  gi_wp2_with (refine ⟨trivial, ?_⟩; gi_at_call 45; refine (callsIn_wide.2 HS.out).mono ?_; clear HS; rintro e w1 ⟨u, rfl, hsv, hb⟩)
  have B2 := Boxed.new (w.alloc (.cells #[.int .i64 n, .slice a ws.length cap] 28)) 25 (.slice none 0 0)
  rw [World.size_alloc] at B2
  have B1 : Boxed w1 (w.heap.size + 1) 25 (.slice none 0 0) := (hb.block _ (by simp)).trans B2
  have hb1 : Below w.heap.size w w1 := HW2.out.trans (hb.mono HW2.out.size)
  have hz1' : w.heap.size + 2 ≤ w1.heap.size := by have := hb.size; simpa using this
  obtain ⟨a', cap', rfl, hWd'⟩ := hsv
  have HWD := Lib.hid hWd'
  have HB1 := Lib.hid hb1
  clear hb hWd' B2 hb1
  gi_wp2_with (refine ⟨trivial, ?_⟩; gi_at_call 50; refine (callsIn_wide.2 (numbers_any _ _ _ _ _)).mono ?_; rintro e w2 ⟨rfl, rfl⟩)
  have ho := HO.out
  have hNl : (nums ws').length ≤ 1024 := by have := nums_length ws'; have := ho.len16; omega
  have BX := Box.new w1 (.int .i64 (n' : Int)) (.slice a' ws'.length cap') 28
  have hA : Below w1.heap.size w1 (w1.alloc (.cells #[.int .i64 (n' : Int), .slice a' ws'.length cap'] 28)) := (Below.refl _ _).alloc (Nat.le_refl _) _
  have hB0 : Below w.heap.size w (w1.alloc (.cells #[.int .i64 (n' : Int), .slice a' ws'.length cap'] 28)) := HB1.out.trans (hA.mono HB1.out.size)
  have hs : (w1.alloc (.cells #[.int .i64 (n' : Int), .slice a' ws'.length cap'] 28)).heap.size = w1.heap.size + 1 := by simp
  have B3 := B1.alloc (.cells #[.int .i64 (n' : Int), .slice a' ws'.length cap'] 28)
  generalize w1.alloc (.cells #[.int .i64 (n' : Int), .slice a' ws'.length cap'] 28) = W2 at *
  refine wpIn_rangeFunc_ownG rfl (by omega) (gf := 59) (lb := #[.pointer (some ⟨w1.heap.size, 0, none⟩)]) rfl trivial (enters_of Tryd.func59 (by kernel_rfl) rfl)
    (numbers_stops 2 (by omega) w1.heap.size w.heap.size (n' : Int) a' ws' cap' W2 (by omega) hB0.size hT.1 ho.len16 ho.wb BX.c0 BX.c1 (hT.below hB0) (HWD.out.below (hA.mono HB1.out.size))) belowK_t (belowK_b hB0.size) (Below.refl _ _) (fun _ => rfl)
    (fun pre W => (∃ v, Boxed W (w.heap.size + 1) 25 v ∧ W.ownsRow w.heap.size 3 1 v pre.length (pre.map encI) ∧ True) ∧ Below w.heap.size w W)
    (fun _ _ _ => False)
    (OwnFrom.and (Own.from (holdsRow_own w.heap.size (w.heap.size + 1) 25 3 1 (fun pre : List Nat => pre.length) (fun pre : List Nat => pre.map encI) (fun _ _ => True)) _) (ownFrom_below (Nat.le_refl _) hB0.size))
    (fun _ _ _ _ _ hs _ _ => hs)
    ⟨⟨_, B3, World.ownsRow_nil _ _ _ _, trivial⟩, hB0⟩
    (fun x => { tmps := #[.agg #[.int .i64 n, .slice a ws.length cap], .pointer (some ⟨w.heap.size, 0, none⟩), .slice none 0 0, .pointer (some ⟨w.heap.size + 1, 0, none⟩), .int .i64 (x : Int), .agg #[.int .i64 n, .slice a ws.length cap], .agg #[.int .i64 (n' : Int), .slice a' ws'.length cap'], .func (.func 59) #[] #[.pointer (some ⟨w1.heap.size, 0, none⟩)], .int .i64 (x : Int), undef, undef, undef, undef, undef], defers := [] }) ?assign ?body ?done ?stop
  case assign =>
    intro l x W K hK
    gi_wp2
    simpa using hK
  case body =>
    rintro l pre x W ⟨⟨v, hv, hrow, _⟩, hB⟩ hlt
    have hc := hv.cell
    have hp : pre.length < 1024 := by omega
    clear BX hA hB0 hs hNl B3 B1
    gi_wp2_with (gi_at_builtin; refine wpListIn_append_own _ rfl _ _ 25 rfl w.heap.size 3 i0 (.int .i64 0) 1 8 Tryd.underlying25 hi hz0 hz1 hz2 rfl (by decide) _ _ _ rfl (hrow.alloc _) ⟨W.heap.size, 0, none⟩ 1 1 [.int .i64 (x : Int)] rfl rfl (cell_one_new _ _ _) (by simp [Value.oneCell']) (by unfold maxLen; omega) (by omega) (by have := hB.size; simp; omega) ?_; intro v' w1 hown' hgrow _; obtain ⟨g', cap', rfl⟩ := ownsRow_succ hown'; obtain ⟨hv1, hv2, hr2, hk2, hb2⟩ := hv.appended (by decide) hrow hB.size (Nat.le_succ _) hown' hgrow; have hc1 := hv1.cell; have hf1 := hv1.frozen)
    exact ⟨hk2.from _, hb2, ⟨_, hv2, by simpa [encI] using hr2, trivial⟩, hB.trans hb2⟩
  case done =>
    rintro D ys W hD rfl ⟨⟨v, hv, hrow, _⟩, hB⟩ hK
    have hc := hv.cell
    gi_wp2
    refine ⟨by simp, .inl ⟨_, _, rfl, run_takeDeferred hK, ?_⟩⟩
    exact ⟨_, results_tmp rfl _ _ _, v, rfl, ownsRow_putObj hrow _ hK rfl, hB.trans (belowK_b (w := w) (Nat.le_refl _) W D _ _ (by have := hB0.size; omega) hK rfl rfl)⟩
  case stop =>
    rintro D c pre W _ _ h _
    exact h.elim
end Go.Proofs.YtjlofjoekpoepaaDoor
