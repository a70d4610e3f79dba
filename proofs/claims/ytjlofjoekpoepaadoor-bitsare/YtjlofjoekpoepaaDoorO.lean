import Derived.Test.YtjlofjoekpoepaaDoorG
import Derived.Test.YtjlofjoekpoepaaDoorL
namespace Go.Proofs.YtjlofjoekpoepaaDoor
open Go Go.RowKit Go.Sort

theorem awk1 : ofW 70 [3, 65] = [8, 2] := by decide +kernel
theorem awk2 : saneB 70 [8, 2] = true := by decide +kernel
theorem awk3 : hasB (nrm 70 [8, 2]) (nrmW 70 [8, 2]) 65 = true := by decide +kernel
theorem awk4 : (nums (nrmW 70 [8, 2])).length = 2 := by decide +kernel
theorem awk5 : clampN 70 = 70 := by decide +kernel
theorem awk6 : wcount 70 = 2 := by decide +kernel
theorem awk7 : WB [8, 2] := by intro x hx; simp at hx; rcases hx with rfl | rfl <;> decide

set_option maxRecDepth 100000 in
set_option maxHeartbeats 2000000 in
theorem awake_any (w : World) (hT : Tab w) :
    Calls Tryd.prog 10 #[] w fun e w' => e = .returned (.bool true) ∧ Below w.heap.size w w' := by
  have hIs : Is (w.alloc (.cells #[.int .i64 3, .int .i64 65] 3)).heap.size (w.alloc (.cells #[.int .i64 3, .int .i64 65] 3)) (some ⟨w.heap.size, 0, none⟩) [3, 65] := by
    intro j hj
    refine ⟨w.heap.size, 0, rfl, by simp, ?_⟩
    match j, hj with
    | 0, _ => simp
    | 1, _ => simp
  have HOf := Lib.hid (Of_any 70 (some ⟨w.heap.size, 0, none⟩) [3, 65] 2 _ hIs (by simp))
  rw [awk5, awk6, awk1] at HOf
  have hW1 : Below w.heap.size w (w.alloc (.cells #[.int .i64 3, .int .i64 65] 3)) := (Below.refl _ _).alloc (Nat.le_refl _) _
  have HW1 := Lib.hid hW1
  generalize hW : w.alloc (.cells #[.int .i64 3, .int .i64 65] 3) = W1 at *
  have HT := Lib.hid hT
  clear hIs hW1 hT
  go_enter Tryd.func10, Tryd.ntmps10
  go_wp2_with fail
  refine HOf.out.mono ?_
  clear HOf
  rintro e w1 ⟨g, rfl, hF, hb⟩
  have BX := Box.new w1 (.int .i64 70) (.slice (some ⟨g, 0, none⟩) 2 2) 28
  have hA := (Below.refl w1.heap.size w1).alloc (Nat.le_refl _) (.cells #[.int .i64 70, .slice (some ⟨g, 0, none⟩) 2 2] 28)
  have hb1 := HW1.out.trans (hb.mono HW1.out.size)
  have hb2 := hb1.trans (hA.mono hb1.size)
  have hF2 := hF.below hA hF.lt
  have hgl := hF.lt
  have g0 := hF2.cellAt (j := 0) (by simp)
  have g1 := hF2.cellAt (j := 1) (by simp)
  simp at g0 g1
  have hs2 : (w1.alloc (.cells #[.int .i64 70, .slice (some ⟨g, 0, none⟩) 2 2] 28)).heap.size = w1.heap.size + 1 := by simp
  have HBX := Lib.hid BX
  have HB2 := Lib.hid hb2
  have HF2 := Lib.hid hF2
  have HT2 := Lib.hid (HT.out.below hb2)
  have hsv : SV (w1.alloc (.cells #[.int .i64 70, .slice (some ⟨g, 0, none⟩) 2 2] 28)) (.agg #[.int .i64 70, .slice (some ⟨g, 0, none⟩) 2 2]) 70 [8, 2] := ⟨_, 2, rfl, hF2.wd⟩
  have HSV := Lib.hid hsv
  clear hb hb1 hb2 hF hF2 BX hA hW hsv hs2 HW1
  generalize hG : w1.alloc (.cells #[.int .i64 70, .slice (some ⟨g, 0, none⟩) 2 2] 28) = W2 at *
  obtain ⟨x0, x1, _, _⟩ := id HBX.out
  go_wp2_with fail
  have HH := Has_any _ 70 [8, 2] 65 W2 HSV.out (by simp) awk7
  rw [awk3] at HH
  refine HH.mono ?_
  clear HH x0 x1 g0 g1 hG
  rintro e w3 ⟨rfl, hb3⟩
  obtain ⟨x0, x1, _, _⟩ := HBX.out.below hb3 HBX.out.lt
  have HB3 := Lib.hid hb3
  clear hb3
  go_wp2_with fail
  have hsv3 := HSV.out.below HB3.out
  obtain ⟨a3, cap3, e3, hwd3⟩ := hsv3
  cases e3
  have HH := sane_any 70 (some ⟨g, 0, none⟩) [8, 2] 2 w3 hwd3 (by simp)
  rw [awk2] at HH
  refine HH.mono ?_
  clear HH hwd3
  rintro e w4 ⟨rfl, hb4⟩
  have hb24 := HB3.out.trans (hb4.mono HB3.out.size)
  obtain ⟨y0, y1, _, _⟩ := HBX.out.below hb24 HBX.out.lt
  have HB4 := Lib.hid hb24
  clear hb4 hb24 x0 x1
  go_wp2_with fail
  have HH := Count_any _ 70 [8, 2] w4 (HSV.out.below HB4.out) (by simp) awk7 (HT2.out.below HB4.out)
  rw [awk4] at HH
  refine HH.mono ?_
  clear HH y0 y1
  rintro e w5 ⟨rfl, hb5⟩
  have hb25 := HB4.out.trans (hb5.mono HB4.out.size)
  have HB5 := Lib.hid hb25
  clear hb5 hb25
  go_wp2
  go_ret
  exact ⟨rfl, HB2.out.trans (HB5.out.mono HB2.out.size)⟩
end Go.Proofs.YtjlofjoekpoepaaDoor
