/- Edits: the document's example is as it says: awake. -/
import Derived.Deep.DeepCutAuto
import Derived.Test.YtbddjneinfkmpaaGreatDoorEdN
import Derived.Test.YtbddjneinfkmpaaGreatDoorEdE
namespace Go.Proofs.YtbddjneinfkmpaaGreatDoor
open Go Go.RowKit Go.Sort

set_option maxRecDepth 100000 in
set_option maxHeartbeats 8000000 in
theorem awake7_any (w : World) (hT : KTab w) (hE : ETab w) (hN : NTab w) :
    Calls Tryz.prog 38 #[] w fun e w' => e = .returned (.bool true) ∧ Below w.heap.size w w' := by
  have hA3 := below3 w (.cells #[.bool true, .slice none 0 0, .slice none 0 0] 35) (.cells #[.int .i64 0, .int .i64 0, .slice (some ⟨w.heap.size, 0, none⟩) 1 1] 29) (.cells #[.slice (some ⟨w.heap.size + 1, 0, none⟩) 1 1] 24)
  have hsz : (((w.alloc (.cells #[.bool true, .slice none 0 0, .slice none 0 0] 35)).alloc (.cells #[.int .i64 0, .int .i64 0, .slice (some ⟨w.heap.size, 0, none⟩) 1 1] 29)).alloc (.cells #[.slice (some ⟨w.heap.size + 1, 0, none⟩) 1 1] 24)).heap.size = w.heap.size + 3 := by simp only [World.size_alloc]
  have hp := pg1_is w 35 29 24
  rw [← hsz] at hp
  have hx := BoxL.new ((w.alloc (.cells #[.bool true, .slice none 0 0, .slice none 0 0] 35)).alloc (.cells #[.int .i64 0, .int .i64 0, .slice (some ⟨w.heap.size, 0, none⟩) 1 1] 29)) [.slice (some ⟨w.heap.size + 1, 0, none⟩) 1 1] 24
  rw [World.size_alloc, World.size_alloc] at hx
  have HR1 : Hid (Rd (((w.alloc (.cells #[.bool true, .slice none 0 0, .slice none 0 0] 35)).alloc (.cells #[.int .i64 0, .int .i64 0, .slice (some ⟨w.heap.size, 0, none⟩) 1 1] 29)).alloc (.cells #[.slice (some ⟨w.heap.size + 1, 0, none⟩) 1 1] 24)) (pg1 ⟨w.heap.size + 1, 0, none⟩ ⟨w.heap.size, 0, none⟩)) := Lib.hid ⟨hp, hT.on hA3, hE.on hA3⟩
  have HX1 : Hid (BoxL (((w.alloc (.cells #[.bool true, .slice none 0 0, .slice none 0 0] 35)).alloc (.cells #[.int .i64 0, .int .i64 0, .slice (some ⟨w.heap.size, 0, none⟩) 1 1] 29)).alloc (.cells #[.slice (some ⟨w.heap.size + 1, 0, none⟩) 1 1] 24)) (w.heap.size + 1 + 1) [.slice (some ⟨w.heap.size + 1, 0, none⟩) 1 1]) := Lib.hid hx
  have HB3 := Lib.hid hA3
  have HN3 := Lib.hid (hN.on hA3)
  clear hx hp hsz hT hE hN hA3
  generalize hE1 : ((w.alloc (.cells #[.bool true, .slice none 0 0, .slice none 0 0] 35)).alloc (.cells #[.int .i64 0, .int .i64 0, .slice (some ⟨w.heap.size, 0, none⟩) 1 1] 29)).alloc (.cells #[.slice (some ⟨w.heap.size + 1, 0, none⟩) 1 1] 24) = W3 at HB3 HR1 HX1 HN3
  obtain ⟨g, hg⟩ : ∃ g, w.heap.size = g := ⟨_, rfl⟩
  have HGL := Lib.hid HB3.out.size
  rw [hg] at HR1 HX1 HB3 HGL hE1 ⊢
  -- the second program
  have hA4 := below4 W3 (.cells #[.int .i64 0] 3) (.cells #[.bool true, .slice none 0 0, .slice (some ⟨W3.heap.size, 0, none⟩) 1 1] 35) (.cells #[.int .i64 0, .int .i64 0, .slice (some ⟨W3.heap.size + 1, 0, none⟩) 1 1] 29) (.cells #[.slice (some ⟨W3.heap.size + 1 + 1, 0, none⟩) 1 1] 24)
  have hsz : ((((W3.alloc (.cells #[.int .i64 0] 3)).alloc (.cells #[.bool true, .slice none 0 0, .slice (some ⟨W3.heap.size, 0, none⟩) 1 1] 35)).alloc (.cells #[.int .i64 0, .int .i64 0, .slice (some ⟨W3.heap.size + 1, 0, none⟩) 1 1] 29)).alloc (.cells #[.slice (some ⟨W3.heap.size + 1 + 1, 0, none⟩) 1 1] 24)).heap.size = W3.heap.size + 4 := by simp only [World.size_alloc]
  have hp := pg2_is W3 3 35 29 24
  rw [← hsz] at hp
  have hx := BoxL.new (((W3.alloc (.cells #[.int .i64 0] 3)).alloc (.cells #[.bool true, .slice none 0 0, .slice (some ⟨W3.heap.size, 0, none⟩) 1 1] 35)).alloc (.cells #[.int .i64 0, .int .i64 0, .slice (some ⟨W3.heap.size + 1, 0, none⟩) 1 1] 29)) [.slice (some ⟨W3.heap.size + 1 + 1, 0, none⟩) 1 1] 24
  rw [World.size_alloc, World.size_alloc, World.size_alloc] at hx
  have HR2 : Hid (Rd ((((W3.alloc (.cells #[.int .i64 0] 3)).alloc (.cells #[.bool true, .slice none 0 0, .slice (some ⟨W3.heap.size, 0, none⟩) 1 1] 35)).alloc (.cells #[.int .i64 0, .int .i64 0, .slice (some ⟨W3.heap.size + 1, 0, none⟩) 1 1] 29)).alloc (.cells #[.slice (some ⟨W3.heap.size + 1 + 1, 0, none⟩) 1 1] 24)) (pg2 ⟨W3.heap.size + 1 + 1, 0, none⟩ ⟨W3.heap.size + 1, 0, none⟩ ⟨W3.heap.size, 0, none⟩)) := Lib.hid ⟨hp, HR1.out.2.1.on hA4, HR1.out.2.2.on hA4⟩
  have HX2 : Hid (BoxL ((((W3.alloc (.cells #[.int .i64 0] 3)).alloc (.cells #[.bool true, .slice none 0 0, .slice (some ⟨W3.heap.size, 0, none⟩) 1 1] 35)).alloc (.cells #[.int .i64 0, .int .i64 0, .slice (some ⟨W3.heap.size + 1, 0, none⟩) 1 1] 29)).alloc (.cells #[.slice (some ⟨W3.heap.size + 1 + 1, 0, none⟩) 1 1] 24)) (W3.heap.size + 1 + 1 + 1) [.slice (some ⟨W3.heap.size + 1 + 1, 0, none⟩) 1 1]) := Lib.hid hx
  have HB4 := Lib.hid hA4
  clear hx hp hsz hA4
  generalize hE2 : (((W3.alloc (.cells #[.int .i64 0] 3)).alloc (.cells #[.bool true, .slice none 0 0, .slice (some ⟨W3.heap.size, 0, none⟩) 1 1] 35)).alloc (.cells #[.int .i64 0, .int .i64 0, .slice (some ⟨W3.heap.size + 1, 0, none⟩) 1 1] 29)).alloc (.cells #[.slice (some ⟨W3.heap.size + 1 + 1, 0, none⟩) 1 1] 24) = W7 at HB4 HR2 HX2
  -- the edit
  have HX3 := Lib.hid (show BoxL (W7.alloc (.cells #[.int .i64 3, .int .i64 0, .int .i64 0, .int .i64 0, .int .i64 0, .int .i64 0, .int .i64 0, .int .i64 0, .int .i64 0, .int .i64 0, .int .i64 0, .int .i64 0, .int .i64 0, .int .i64 0, .int .i64 0, .int .i64 0, .int .i64 0] 55)) W7.heap.size [.int .i64 3, .int .i64 0, .int .i64 0, .int .i64 0, .int .i64 0, .int .i64 0, .int .i64 0, .int .i64 0, .int .i64 0, .int .i64 0, .int .i64 0, .int .i64 0, .int .i64 0, .int .i64 0, .int .i64 0, .int .i64 0, .int .i64 0] from BoxL.new W7 _ _)
  have HB8 := Lib.hid (below1 W7 (.cells #[.int .i64 3, .int .i64 0, .int .i64 0, .int .i64 0, .int .i64 0, .int .i64 0, .int .i64 0, .int .i64 0, .int .i64 0, .int .i64 0, .int .i64 0, .int .i64 0, .int .i64 0, .int .i64 0, .int .i64 0, .int .i64 0, .int .i64 0] 55))
  generalize hE3 : W7.alloc (.cells #[.int .i64 3, .int .i64 0, .int .i64 0, .int .i64 0, .int .i64 0, .int .i64 0, .int .i64 0, .int .i64 0, .int .i64 0, .int .i64 0, .int .i64 0, .int .i64 0, .int .i64 0, .int .i64 0, .int .i64 0, .int .i64 0, .int .i64 0] 55) = W8 at HX3 HB8
  have HE3 := Lib.hid hE3
  clear hE3
  have HC1 : Hid (∀ wr, Rd wr (pg1 ⟨g + 1, 0, none⟩ ⟨g, 0, none⟩) → Calls Tryz.prog 39 #[.agg #[.slice (some ⟨g + 1, 0, none⟩) 1 1], .agg #[.int .i64 3, .int .i64 0, .int .i64 0, .int .i64 0, .int .i64 0, .int .i64 0, .int .i64 0, .int .i64 0, .int .i64 0, .int .i64 0, .int .i64 0, .int .i64 0, .int .i64 0, .int .i64 0, .int .i64 0, .int .i64 0, .int .i64 0]] wr fun e w' => e = .returned (.int .i64 0) ∧ Below wr.heap.size wr w') :=
    Lib.hid fun wr h => Check_any (pg1 ⟨g + 1, 0, none⟩ ⟨g, 0, none⟩) ed3 wr h (pg1_few _ _) 0 (pg1_chk _ _)
  have HC2 : Hid (∀ wr, Rd wr (pg2 ⟨W3.heap.size + 1 + 1, 0, none⟩ ⟨W3.heap.size + 1, 0, none⟩ ⟨W3.heap.size, 0, none⟩) → Calls Tryz.prog 39 #[.agg #[.slice (some ⟨W3.heap.size + 1 + 1, 0, none⟩) 1 1], .agg #[.int .i64 3, .int .i64 0, .int .i64 0, .int .i64 0, .int .i64 0, .int .i64 0, .int .i64 0, .int .i64 0, .int .i64 0, .int .i64 0, .int .i64 0, .int .i64 0, .int .i64 0, .int .i64 0, .int .i64 0, .int .i64 0, .int .i64 0]] wr fun e w' => e = .returned (.int .i64 5) ∧ Below wr.heap.size wr w') :=
    Lib.hid fun wr h => Check_any (pg2 ⟨W3.heap.size + 1 + 1, 0, none⟩ ⟨W3.heap.size + 1, 0, none⟩ ⟨W3.heap.size, 0, none⟩) ed3 wr h (pg2_few _ _ _) 5 (pg2_chk _ _ _)
  have HNM : Hid (∀ wr, NTab wr → Calls Tryz.prog 45 #[.int .i64 3] wr fun e w' => e = .returned (.string ⟨#[97, 100, 100, 101, 100, 103, 101]⟩) ∧ w' = wr) := Lib.hid fun wr h => EdName_any 3 wr h
  have HL1 := Lib.hid (HX1.out.lt (Nat.zero_lt_succ _))
  have HL2 := Lib.hid (HX2.out.lt (Nat.zero_lt_succ _))
  have HL3 := Lib.hid (HX3.out.lt (Nat.zero_lt_succ _))
  have HB38 := Lib.hid (HB4.out.trans (HB8.out.mono HB4.out.size))
  have HC : Hid (∀ wr, Below W8.heap.size W8 wr → wr.cell? ⟨g + 1 + 1, 0, none⟩ = some (.slice (some ⟨g + 1, 0, none⟩) 1 1) ∧ wr.cell? ⟨W3.heap.size + 1 + 1 + 1, 0, none⟩ = some (.slice (some ⟨W3.heap.size + 1 + 1, 0, none⟩) 1 1)) := Lib.hid fun wr hb =>
    ⟨(((HX1.out.below HB38.out HL1.out).below hb (Nat.lt_of_lt_of_le HL1.out HB38.out.size)) 0 _ rfl).1, (((HX2.out.below HB8.out HL2.out).below hb (Nat.lt_of_lt_of_le HL2.out HB8.out.size)) 0 _ rfl).1⟩
  have HRG : Hid (∀ wr, Below W8.heap.size W8 wr → wr.rangeAt W7.heap.size 0 [.int .i64 3, .int .i64 0, .int .i64 0, .int .i64 0, .int .i64 0, .int .i64 0, .int .i64 0, .int .i64 0, .int .i64 0, .int .i64 0, .int .i64 0, .int .i64 0, .int .i64 0, .int .i64 0, .int .i64 0, .int .i64 0, .int .i64 0]) := Lib.hid fun wr hb => (HX3.out.below hb HL3.out).range
  have HBN : Hid (Below W8.heap.size W8 W8) := Lib.hid (Below.refl _ _)
  have HRA := Lib.hid (HR1.out.on HB38.out)
  have HRB := Lib.hid (HR2.out.on HB8.out)
  have HBW := Lib.hid (HB3.out.trans (HB38.out.mono HGL.out))
  have HGW := Lib.hid (Nat.le_trans HGL.out HB38.out.size)
  have HNA := Lib.hid (HN3.out.on HB38.out)
  clear HX1 HX2 HX3 HR1 HR2 HB3 HB4 HB8 HL1 HL2 HL3 HB38 HN3 HGL
  have k0 := (HC.out _ HBN.out).1
  have k1 := (HC.out _ HBN.out).2
  go_enter Tryz.func38, Tryz.ntmps38
  go_upto_region 3 with (fail)
  refine wp_region_lit ?_
  refine wpList_plain rfl (fun K hK => ?_)
  go_simp
  refine hK _ _ ?_
  clear hK K
  refine wpList_plain rfl (fun K hK => ?_)
  go_simp
  refine hK _ _ ?_
  clear hK K
  with_reducible refine wpList_store_new (w := W7) ?hg 55 ?stx ?sty ?ho #[.int .i64 0, .int .i64 0, .int .i64 0, .int .i64 0, .int .i64 0, .int .i64 0, .int .i64 0, .int .i64 0, .int .i64 0, .int .i64 0, .int .i64 0, .int .i64 0, .int .i64 0, .int .i64 0, .int .i64 0, .int .i64 0, .int .i64 0] #[.int .i64 3, .int .i64 0, .int .i64 0, .int .i64 0, .int .i64 0, .int .i64 0, .int .i64 0, .int .i64 0, .int .i64 0, .int .i64 0, .int .i64 0, .int .i64 0, .int .i64 0, .int .i64 0, .int .i64 0, .int .i64 0, .int .i64 0] ?hx ?hy ?hi ?hs ?h1 ?hh
  case hg => rfl
  case ho => rfl
  case hx => rfl
  case hy => rfl
  case hi => kernel_rfl
  case hs => rfl
  case h1 => simp [Value.oneCell']
  rw [HE3.out]
  clear HE3
  refine wpList_nil ?_
  have tok1 : True := trivial
  go_wp2_with (first
    | ((with_reducible apply wpList_load_w (ty := 55) (b := W7.heap.size) (o := 0) (cs := [.int .i64 3, .int .i64 0, .int .i64 0, .int .i64 0, .int .i64 0, .int .i64 0, .int .i64 0, .int .i64 0, .int .i64 0, .int .i64 0, .int .i64 0, .int .i64 0, .int .i64 0, .int .i64 0, .int .i64 0, .int .i64 0, .int .i64 0])); rotate_left; rfl; rfl; exact HRG.out _ HBN.out; exact Tryz.underlying55; rfl; kernel_rfl; rotate_left; rfl; simp only [Act.put, List.setIfInBounds_toArray, List.set_cons_zero, List.set_cons_succ])
    | (have _t := tok1; go_at_call 39; refine (HC1.out _ (HRA.out.on HBN.out)).mono ?_; clear _t tok1; rintro e wn ⟨rfl, hbn⟩; have hbx := HBN.out.trans (hbn.mono HBN.out.size); clear HBN hbn k0 k1; have HBN := Lib.hid hbx; clear hbx; have k0 := (HC.out _ HBN.out).1; have k1 := (HC.out _ HBN.out).2)
    | (go_at_call 39; refine (HC2.out _ (HRB.out.on HBN.out)).mono ?_; rintro e wn ⟨rfl, hbn⟩; have hbx := HBN.out.trans (hbn.mono HBN.out.size); clear HBN hbn k0 k1; have HBN := Lib.hid hbx; clear hbx; have k0 := (HC.out _ HBN.out).1; have k1 := (HC.out _ HBN.out).2)
    | (go_at_call 45; refine (HNM.out _ (HNA.out.on HBN.out)).mono ?_; rintro e wm ⟨rfl, rfl⟩))
  go_ret
  exact ⟨rfl, HBW.out.trans (HBN.out.mono HGW.out)⟩
end Go.Proofs.YtbddjneinfkmpaaGreatDoor
