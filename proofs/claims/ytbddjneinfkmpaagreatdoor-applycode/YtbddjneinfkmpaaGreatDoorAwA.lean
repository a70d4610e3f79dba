/- Apply: the document's example is as it says: awake. -/
import Derived.Test.YtbddjneinfkmpaaGreatDoorAwM
namespace Go.Proofs.YtbddjneinfkmpaaGreatDoor
open Go Go.RowKit Go.Sort
set_option maxRecDepth 100000 in
set_option maxHeartbeats 8000000 in
theorem awake8_any (w : World) (hT : KTab w) (hE : ETab w) :
    Calls Tryz.prog 47 #[] w fun e w' => e = .returned (.bool true) ∧ Below w.heap.size w w' := by
  have hA3 := below3 w (.cells #[.bool true, .slice none 0 0, .slice none 0 0, .bool false, .slice none 0 0, .slice none 0 0, .bool true, .slice none 0 0, .slice none 0 0] 35) (.cells #[.int .i64 0, .int .i64 0, .slice (some ⟨w.heap.size, 0, none⟩) 3 3] 29) (.cells #[.slice (some ⟨w.heap.size + 1, 0, none⟩) 1 1] 24)
  have hsz : ((((w.alloc (.cells #[.bool true, .slice none 0 0, .slice none 0 0, .bool false, .slice none 0 0, .slice none 0 0, .bool true, .slice none 0 0, .slice none 0 0] 35)).alloc (.cells #[.int .i64 0, .int .i64 0, .slice (some ⟨w.heap.size, 0, none⟩) 3 3] 29)).alloc (.cells #[.slice (some ⟨w.heap.size + 1, 0, none⟩) 1 1] 24))).heap.size = w.heap.size + 3 := by simp only [World.size_alloc]
  have hp := pg8_is w 35 29 24
  rw [← hsz] at hp
  have hx := BoxL.new ((w.alloc (.cells #[.bool true, .slice none 0 0, .slice none 0 0, .bool false, .slice none 0 0, .slice none 0 0, .bool true, .slice none 0 0, .slice none 0 0] 35)).alloc (.cells #[.int .i64 0, .int .i64 0, .slice (some ⟨w.heap.size, 0, none⟩) 3 3] 29)) [.slice (some ⟨w.heap.size + 1, 0, none⟩) 1 1] 24
  rw [World.size_alloc, World.size_alloc] at hx
  have HR1 : Hid (Rd ((((w.alloc (.cells #[.bool true, .slice none 0 0, .slice none 0 0, .bool false, .slice none 0 0, .slice none 0 0, .bool true, .slice none 0 0, .slice none 0 0] 35)).alloc (.cells #[.int .i64 0, .int .i64 0, .slice (some ⟨w.heap.size, 0, none⟩) 3 3] 29)).alloc (.cells #[.slice (some ⟨w.heap.size + 1, 0, none⟩) 1 1] 24))) (pg8 ⟨w.heap.size + 1, 0, none⟩ ⟨w.heap.size, 0, none⟩)) := Lib.hid ⟨hp, hT.on hA3, hE.on hA3⟩
  have HX1 : Hid (BoxL ((((w.alloc (.cells #[.bool true, .slice none 0 0, .slice none 0 0, .bool false, .slice none 0 0, .slice none 0 0, .bool true, .slice none 0 0, .slice none 0 0] 35)).alloc (.cells #[.int .i64 0, .int .i64 0, .slice (some ⟨w.heap.size, 0, none⟩) 3 3] 29)).alloc (.cells #[.slice (some ⟨w.heap.size + 1, 0, none⟩) 1 1] 24))) (w.heap.size + 1 + 1) [.slice (some ⟨w.heap.size + 1, 0, none⟩) 1 1]) := Lib.hid hx
  have HX0 : Hid (BoxL ((((w.alloc (.cells #[.bool true, .slice none 0 0, .slice none 0 0, .bool false, .slice none 0 0, .slice none 0 0, .bool true, .slice none 0 0, .slice none 0 0] 35)).alloc (.cells #[.int .i64 0, .int .i64 0, .slice (some ⟨w.heap.size, 0, none⟩) 3 3] 29)).alloc (.cells #[.slice (some ⟨w.heap.size + 1, 0, none⟩) 1 1] 24))) (w.heap.size + 1) [.int .i64 0, .int .i64 0, .slice (some ⟨w.heap.size, 0, none⟩) 3 3]) := Lib.hid (by
    have h2 := BoxL.new (w.alloc (.cells #[.bool true, .slice none 0 0, .slice none 0 0, .bool false, .slice none 0 0, .slice none 0 0, .bool true, .slice none 0 0, .slice none 0 0] 35)) [.int .i64 0, .int .i64 0, .slice (some ⟨w.heap.size, 0, none⟩) 3 3] 29
    rw [World.size_alloc] at h2
    exact h2.alloc (Nat.zero_lt_succ _) _)
  have HB3 := Lib.hid hA3
  clear hx hp hsz hT hE hA3
  go_enter Tryz.func47, Tryz.ntmps47
  go_upto_region 2 with fail
  generalize (((w.alloc (.cells #[.bool true, .slice none 0 0, .slice none 0 0, .bool false, .slice none 0 0, .slice none 0 0, .bool true, .slice none 0 0, .slice none 0 0] 35)).alloc (.cells #[.int .i64 0, .int .i64 0, .slice (some ⟨w.heap.size, 0, none⟩) 3 3] 29)).alloc (.cells #[.slice (some ⟨w.heap.size + 1, 0, none⟩) 1 1] 24)) = W3 at *
  obtain ⟨g, hg⟩ : ∃ g, w.heap.size = g := ⟨_, rfl⟩
  have HGL := Lib.hid HB3.out.size
  rw [hg] at HR1 HX1 HX0 HB3 HGL ⊢
  have HL1 := Lib.hid (HX1.out.lt (Nat.zero_lt_succ _))
  have HAP := Lib.hid (app8 ⟨g + 1, 0, none⟩ ⟨g, 0, none⟩ W3 HR1.out)
  have k0 := (HX1.out 0 _ rfl).1
  go_upto_region 3 with (go_at_call 49; refine HAP.out.mono ?_; rintro e w4 ⟨q, b, o, ba, bc, rfl, hqv, hlt, c2, hrd, hqs, hqf, hb⟩; have HQV := Lib.hid hqv; have HRD := Lib.hid hrd; have HQS := Lib.hid hqs; have HQF := Lib.hid hqf; have HBN := Lib.hid hb; have HLT := Lib.hid hlt; clear hqv hrd hqs hqf hb hlt k0)
  have hx := BoxL.new w4 [.slice (some ⟨b, o, none⟩) 1 q.pc] 24
  have hb5 := below1 w4 (.cells #[.slice (some ⟨b, o, none⟩) 1 q.pc] 24)
  have HXQ : Hid (BoxL (w4.alloc (.cells #[.slice (some ⟨b, o, none⟩) 1 q.pc] 24)) w4.heap.size [.slice (some ⟨b, o, none⟩) 1 q.pc]) := Lib.hid hx
  have HRQ := Lib.hid (HRD.out.on hb5)
  have k2 := (hb5.cell (p := ⟨b, o + 2, none⟩) HLT.out).trans c2
  have HBM := Lib.hid (HBN.out.trans (hb5.mono HBN.out.size))
  have HL0 := Lib.hid (HX0.out.lt (Nat.zero_lt_succ _))
  clear hx hb5 c2 HRD HAP HLT HBN
  generalize w4.alloc (.cells #[.slice (some ⟨b, o, none⟩) 1 q.pc] 24) = W5 at *
  have k0 := ((HX1.out.below HBM.out HL1.out) 0 _ rfl).1
  have k1 : W5.cell? ⟨g + 1, 2, none⟩ = some (.slice (some ⟨g, 0, none⟩) 3 3) := ((HX0.out.below HBM.out HL0.out) 2 _ rfl).1
  have k3 := (HXQ.out 0 _ rfl).1
  have HSA := Lib.hid (Sane_any q W5 HRQ.out.1 HRQ.out.2.1 HRQ.out.2.2 HQF.out true (iff_of_true rfl HQS.out))
  rw [HQV.out] at HSA
  go_wp2_with (go_at_call 23; refine HSA.out.mono ?_; rintro e w6 ⟨rfl, hb6⟩; have hbx := HBM.out.trans (hb6.mono HBM.out.size); clear k0 k1 k2 k3 HBM hb6; have HBM := Lib.hid hbx; clear hbx; have k0 := ((HX1.out.below HBM.out HL1.out) 0 _ rfl).1; have k1 : w6.cell? ⟨g + 1, 2, none⟩ = some (.slice (some ⟨g, 0, none⟩) 3 3) := ((HX0.out.below HBM.out HL0.out) 2 _ rfl).1)
  go_ret
  exact ⟨rfl, by rw [hg]; exact HB3.out.trans (HBM.out.mono HGL.out)⟩
end Go.Proofs.YtbddjneinfkmpaaGreatDoor
