/- Graphs: the law's example, walked. -/
import Derived.Test.YtcbfmplddjmiaaaGrG
namespace Go.Proofs.Ytcbfmplddjmiaaa
open Go Go.RowKit Go.Sort

set_option maxRecDepth 100000 in
set_option maxHeartbeats 4000000 in
theorem awake10_any (w : World) : Calls Try.prog 9 #[] w fun e w' => e = .returned (.bool true) ∧ Below w.heap.size w w' := by
  obtain ⟨hg, hb⟩ := g0_is w
  have hR := Reach_any (some ⟨w.heap.size + 3, 0, none⟩) g0 4 4 1 _ hg g0_few rfl
  have hO : ∀ W, Below (g0W w).heap.size (g0W w) W → Calls Try.prog 20 #[.slice (some ⟨w.heap.size + 3, 0, none⟩) 4 4, .int .i64 0] W fun e w' => ∃ u, e = .returned u ∧ w'.ownsRow W.heap.size 3 1 u [0, 2, 1, 3].length ((zs [0, 2, 1, 3]).map (Value.int .i64)) ∧ Below W.heap.size W w' := fun W hW =>
    Order_any (some ⟨w.heap.size + 3, 0, none⟩) g0 4 4 0 W (hg.on hW) g0_few rfl [0, 2, 1, 3] g0_order
  rw [g0_reach] at hR
  have HR := Lib.hid hR
  have HO := Lib.hid hO
  have HB := Lib.hid hb
  clear hR hO hb hg
  unfold g0W at HR HO HB
  generalize hE : (((w.alloc (.cells #[.int .i64 1, .int .i64 2] 3)).alloc (.cells #[.int .i64 3] 3)).alloc (.cells #[.int .i64 3] 3)).alloc (.cells #[.slice (some ⟨w.heap.size, 0, none⟩) 2 2, .slice (some ⟨w.heap.size + 1, 0, none⟩) 1 1, .slice (some ⟨w.heap.size + 2, 0, none⟩) 1 1, .slice none 0 0] 32) = W at HR HO HB
  have HE := Lib.hid hE
  clear hE
  go_enter Try.func9, Try.ntmps9
  go_upto_region 2 with fail
  rw [HE.out]
  go_upto_region 3 with (go_at_call 17; refine HR.out.mono ?_; rintro e w1 ⟨b, rfl, hbb, hbi, hb1⟩; have HBI := Lib.hid hbi; have HB1 := Lib.hid hb1; clear hbb hbi hb1)
  have c0 := World.rowIs.cell HBI.out (i := 0) (by decide)
  have c3 := World.rowIs.cell HBI.out (i := 3) (by decide)
  have HQ : Hid (∀ W : World, Is (W.alloc (.cells #[.int .i64 0, .int .i64 2, .int .i64 1, .int .i64 3] 3)).heap.size (W.alloc (.cells #[.int .i64 0, .int .i64 2, .int .i64 1, .int .i64 3] 3)) (some ⟨W.heap.size, 0, none⟩) [0, 2, 1, 3]) := fun W j hj => by
    have hj' : j < 4 := hj
    refine ⟨W.heap.size, 0, rfl, by simp, ?_⟩
    match j, hj' with
    | 0, _ => exact cell_laid _ _ _ _ _ _ rfl rfl
    | 1, _ => exact cell_laid _ _ _ _ _ _ rfl rfl
    | 2, _ => exact cell_laid _ _ _ _ _ _ rfl rfl
    | 3, _ => exact cell_laid _ _ _ _ _ _ rfl rfl
  have k0 : (([false, true, false, true] : List Bool)[0]?.getD false) = false := rfl
  have k3 : (([false, true, false, true] : List Bool)[3]?.getD false) = true := rfl
  rw [k0] at c0
  rw [k3] at c3
  clear k0 k3
  go_wp2_with (first
    | (go_at_call 20; refine (HO.out _ HB1.out).mono ?_; rintro e w2 ⟨u, rfl, hou, hb2⟩; obtain ⟨ua, uc, rfl, -, hI⟩ := is_of_ints hou; have HI := Lib.hid hI; have HB2 := Lib.hid hb2; have HBI2 := Lib.hid (HBI.out.below hb2); clear hou hI hb2 c0 c3)
    | (go_at_call 19; refine (Ints_ref ua _ [0, 2, 1, 3] [0, 2, 1, 3] uc 4 _ (HI.out.on (below1 _ _)) (HQ.out _) (by decide)).mono ?_; rintro e w3 ⟨rfl, hb3⟩; have HBI3 := Lib.hid ((HBI2.out.below (below1 _ _)).below hb3); have HB3 := Lib.hid (HB2.out.trans ((below1 w2 (.cells #[.int .i64 0, .int .i64 2, .int .i64 1, .int .i64 3] 3)).trans (hb3.mono (below1 w2 (.cells #[.int .i64 0, .int .i64 2, .int .i64 1, .int .i64 3] 3)).size) |>.mono HB2.out.size)); clear hb3; have c0 : w3.cell? ⟨b, 0, none⟩ = some (.bool false) := World.rowIs.cell HBI3.out (i := 0) (by decide); have c3 : w3.cell? ⟨b, 3, none⟩ = some (.bool true) := World.rowIs.cell HBI3.out (i := 3) (by decide)))
  go_ret
  exact ⟨rfl, HB.out.trans ((HB1.out.trans (HB3.out.mono HB1.out.size)).mono HB.out.size)⟩
end Go.Proofs.Ytcbfmplddjmiaaa
