/- The document's example is as it says. -/
import Derived.Test.YtdhdpfloaelngaaDoorPgV
namespace Go.Proofs.YtdhdpfloaelngaaDoor
open Go Go.RowKit Go.Sort

theorem pg1_is (w : World) (t t' t'' : TypeId) : PgIs (w.heap.size + 3) (((w.alloc (.cells #[.bool true, .slice none 0 0, .slice none 0 0] t)).alloc (.cells #[.int .i64 0, .int .i64 0, .slice (some ⟨w.heap.size, 0, none⟩) 1 1] t')).alloc (.cells #[.slice (some ⟨w.heap.size + 1, 0, none⟩) 1 1] t'')) (pg1 ⟨w.heap.size + 1, 0, none⟩ ⟨w.heap.size, 0, none⟩) := by
  have h1 := BoxL.new w [.bool true, .slice none 0 0, .slice none 0 0] t
  have h2 := BoxL.new (w.alloc (.cells #[.bool true, .slice none 0 0, .slice none 0 0] t)) [.int .i64 0, .int .i64 0, .slice (some ⟨w.heap.size, 0, none⟩) 1 1] t'
  rw [World.size_alloc] at h2
  replace h1 := (h1.alloc (Nat.zero_lt_succ _) (.cells #[.int .i64 0, .int .i64 0, .slice (some ⟨w.heap.size, 0, none⟩) 1 1] t')).alloc (Nat.zero_lt_succ _) (.cells #[.slice (some ⟨w.heap.size + 1, 0, none⟩) 1 1] t'')
  replace h2 := h2.alloc (Nat.zero_lt_succ _) (.cells #[.slice (some ⟨w.heap.size + 1, 0, none⟩) 1 1] t'')
  intro j hj
  obtain rfl : j = 0 := by simp [pg1] at hj; omega
  refine ⟨w.heap.size + 1, 0, rfl, by omega, (h2 0 _ rfl).1, (h2 1 _ rfl).1, (h2 2 _ rfl).1, fun k hk => ?_⟩
  obtain rfl : k = 0 := by simp [pg1, fdAt] at hk; omega
  exact ⟨w.heap.size, 0, rfl, by omega, (h1 0 _ rfl).1, (h1 1 _ rfl).1, (h1 2 _ rfl).1, fun n hn => by simp [pg1, fdAt, blkAt] at hn, fun n hn => by simp [pg1, fdAt, blkAt] at hn⟩

/-- A program in memory, with the tables and its box g. -/
def Here (W : World) (p : Pg) (g : Nat) : Prop := PgIs W.heap.size W p ∧ KTab W ∧ ETab W ∧ BoxL W g [.slice p.pa p.funs.length p.pc]
theorem Here.on {W W' : World} {p : Pg} {g : Nat} (h : Here W p g) (hb : Below W.heap.size W W') : Here W' p g :=
  ⟨h.1.on hb, h.2.1.on hb, h.2.2.1.on hb, h.2.2.2.below hb (h.2.2.2.lt (Nat.zero_lt_succ _))⟩
theorem Here.bx {W : World} {p : Pg} {g : Nat} (h : Here W p g) : W.cell? ⟨g, 0, none⟩ = some (.slice p.pa p.funs.length p.pc) := (h.2.2.2 0 _ rfl).1

set_option maxRecDepth 100000 in
set_option maxHeartbeats 4000000 in
theorem awake_any (w : World) (hT : KTab w) (hE : ETab w) :
    Calls Tryd.prog 7 #[] w fun e w' => e = .returned (.bool true) ∧ Below w.heap.size w w' := by
  have HB3 := Lib.hid (below3 w (.cells #[.bool true, .slice none 0 0, .slice none 0 0] 36) (.cells #[.int .i64 0, .int .i64 0, .slice (some ⟨w.heap.size, 0, none⟩) 1 1] 29) (.cells #[.slice (some ⟨w.heap.size + 1, 0, none⟩) 1 1] 24))
  have hsz : (((w.alloc (.cells #[.bool true, .slice none 0 0, .slice none 0 0] 36)).alloc (.cells #[.int .i64 0, .int .i64 0, .slice (some ⟨w.heap.size, 0, none⟩) 1 1] 29)).alloc (.cells #[.slice (some ⟨w.heap.size + 1, 0, none⟩) 1 1] 24)).heap.size = w.heap.size + 3 := by simp only [World.size_alloc]
  have hp := pg1_is w 36 29 24
  rw [← hsz] at hp
  have hx := BoxL.new ((w.alloc (.cells #[.bool true, .slice none 0 0, .slice none 0 0] 36)).alloc (.cells #[.int .i64 0, .int .i64 0, .slice (some ⟨w.heap.size, 0, none⟩) 1 1] 29)) [.slice (some ⟨w.heap.size + 1, 0, none⟩) 1 1] 24
  rw [World.size_alloc, World.size_alloc] at hx
  have HH : Hid (Here (((w.alloc (.cells #[.bool true, .slice none 0 0, .slice none 0 0] 36)).alloc (.cells #[.int .i64 0, .int .i64 0, .slice (some ⟨w.heap.size, 0, none⟩) 1 1] 29)).alloc (.cells #[.slice (some ⟨w.heap.size + 1, 0, none⟩) 1 1] 24)) (pg1 ⟨w.heap.size + 1, 0, none⟩ ⟨w.heap.size, 0, none⟩) (w.heap.size + 1 + 1)) := Lib.hid ⟨hp, hT.on HB3.out, hE.on HB3.out, hx⟩
  clear hx hp hsz hT hE
  generalize hE : ((w.alloc (.cells #[.bool true, .slice none 0 0, .slice none 0 0] 36)).alloc (.cells #[.int .i64 0, .int .i64 0, .slice (some ⟨w.heap.size, 0, none⟩) 1 1] 29)).alloc (.cells #[.slice (some ⟨w.heap.size + 1, 0, none⟩) 1 1] 24) = W at HB3 HH
  obtain ⟨g, hg⟩ : ∃ g, w.heap.size = g := ⟨_, rfl⟩
  have HGL := Lib.hid HB3.out.size
  rw [hg] at HH HB3 HGL hE ⊢
  have HF : Hid (∀ W, Here W (pg1 ⟨g + 1, 0, none⟩ ⟨g, 0, none⟩) (g + 1 + 1) → Calls Tryd.prog 10 #[.agg #[.slice (some ⟨g + 1, 0, none⟩) 1 1], .int .i64 0] W fun e w' => e = .returned (.tuple #[.agg #[.int .i64 0, .int .i64 0, .slice (some ⟨g, 0, none⟩) 1 1], .bool true]) ∧ Below W.heap.size W w') :=
    Lib.hid fun W h => Fun_any _ 0 W h.1 h.2.1 h.2.2.1 (pg1_few _ _) _ (pg1_funR _ _) true (pg1_funB _ _)
  have HS : Hid (∀ W, Here W (pg1 ⟨g + 1, 0, none⟩ ⟨g, 0, none⟩) (g + 1 + 1) → Calls Tryd.prog 9 #[.agg #[.slice (some ⟨g + 1, 0, none⟩) 1 1]] W fun e w' => e = .returned (.bool true) ∧ Below W.heap.size W w') :=
    Lib.hid fun W h => Sane_any (pg1 ⟨g + 1, 0, none⟩ ⟨g, 0, none⟩) W h.1 h.2.1 h.2.2.1 (pg1_few _ _) true (by simp [pg1_sane])
  have HN : Hid (∀ W, Here W (pg1 ⟨g + 1, 0, none⟩ ⟨g, 0, none⟩) (g + 1 + 1) → Calls Tryd.prog 15 #[.agg #[.slice (some ⟨g + 1, 0, none⟩) 1 1], .int .i64 0] W fun e w' => e = .returned (.int .i64 1) ∧ Below W.heap.size W w') :=
    Lib.hid fun W h => (NewBlock_any (pg1 ⟨g + 1, 0, none⟩ ⟨g, 0, none⟩) 0 W h.1 h.2.1 h.2.2.1 (pg1_few _ _)).mono fun e w' ⟨⟨z, h1, h2⟩, h3⟩ => ⟨by rw [h1, pg1_newBlk _ _ h2], h3⟩
  have HI : Hid (∀ W, Here W (pg1 ⟨g + 1, 0, none⟩ ⟨g, 0, none⟩) (g + 1 + 1) → Calls Tryd.prog 13 #[.agg #[.slice (some ⟨g + 1, 0, none⟩) 1 1]] W fun e w' => e = .returned (.int .i64 0) ∧ Below W.heap.size W w') :=
    Lib.hid fun W h => (NewId_any (pg1 ⟨g + 1, 0, none⟩ ⟨g, 0, none⟩) W h.1 h.2.1 h.2.2.1 (pg1_few _ _)).mono fun e w' ⟨⟨z, h1, h2⟩, h3⟩ => ⟨by rw [h1, pg1_newId _ _ h2], h3⟩
  have k0 : W.cell? ⟨g + 1 + 1, 0, none⟩ = some (.slice (some ⟨g + 1, 0, none⟩) 1 1) := HH.out.bx
  go_enter Tryd.func7, Tryd.ntmps7
  go_wp2_with (first
    | (go_at_call 10; refine (HF.out _ HH.out).mono ?_; rintro e wa ⟨rfl, hba⟩; have hb2 := hba.alloc hba.size (.cells #[.int .i64 0, .int .i64 0, .slice (some ⟨g, 0, none⟩) 1 1] 29); have HHA := Lib.hid (HH.out.on hb2); have HBA := Lib.hid (HB3.out.trans (hb2.mono HGL.out)); have HGA := Lib.hid (Nat.le_trans HGL.out hb2.size); have HXA : Hid (BoxL (wa.alloc (.cells #[.int .i64 0, .int .i64 0, .slice (some ⟨g, 0, none⟩) 1 1] 29)) wa.heap.size [.int .i64 0, .int .i64 0, .slice (some ⟨g, 0, none⟩) 1 1]) := Lib.hid (BoxL.new wa _ 29); clear hba hb2 k0 HH HB3 HGL; have k0 : (wa.alloc (.cells #[.int .i64 0, .int .i64 0, .slice (some ⟨g, 0, none⟩) 1 1] 29)).cell? ⟨g + 1 + 1, 0, none⟩ = some (.slice (some ⟨g + 1, 0, none⟩) 1 1) := HHA.out.bx)
    | (go_at_call 9; refine (HS.out _ HHA.out).mono ?_; rintro e wb ⟨rfl, hbb⟩; have HHB := Lib.hid (HHA.out.on hbb); have HBB := Lib.hid (HBA.out.trans (hbb.mono HGA.out)); have HGB := Lib.hid (Nat.le_trans HGA.out hbb.size); have HXB := Lib.hid (HXA.out.below hbb (HXA.out.lt (Nat.zero_lt_succ _))); clear hbb k0 HHA HBA HGA HXA; have k0 : wb.cell? ⟨g + 1 + 1, 0, none⟩ = some (.slice (some ⟨g + 1, 0, none⟩) 1 1) := HHB.out.bx; have x2 := (HXB.out 2 _ rfl).1)
    | (go_at_call 15; refine (HN.out _ HHB.out).mono ?_; rintro e wc ⟨rfl, hbc⟩; have HHC := Lib.hid (HHB.out.on hbc); have HBC := Lib.hid (HBB.out.trans (hbc.mono HGB.out)); have HGC := Lib.hid (Nat.le_trans HGB.out hbc.size); clear hbc k0 HHB HBB HGB HXB x2; have k0 : wc.cell? ⟨g + 1 + 1, 0, none⟩ = some (.slice (some ⟨g + 1, 0, none⟩) 1 1) := HHC.out.bx)
    | (go_at_call 13; refine (HI.out _ HHC.out).mono ?_; rintro e wd ⟨rfl, hbd⟩; have HBD := Lib.hid (HBC.out.trans (hbd.mono HGC.out)); clear hbd k0 HHC HBC HGC))
  go_ret
  exact ⟨rfl, HBD.out⟩
end Go.Proofs.YtdhdpfloaelngaaDoor
