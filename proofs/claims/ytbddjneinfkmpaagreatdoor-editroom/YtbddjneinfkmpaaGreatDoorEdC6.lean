/- Edits: checkInFun. -/
import Derived.Test.YtbddjneinfkmpaaGreatDoorEdI
import Derived.Test.YtbddjneinfkmpaaGreatDoorEdC
import Derived.Test.YtbddjneinfkmpaaGreatDoorEdC5
namespace Go.Proofs.YtbddjneinfkmpaaGreatDoor
open Go Go.RowKit Go.Sort

set_option maxRecDepth 100000 in
set_option maxHeartbeats 16000000 in
theorem inFun6_any (p : Pg) (op f b tob other pos : Int) (i : Ins) (w : World) (h : Rd w p) (hfew : p.few) (hop : op = 6) :
    Calls Tryz.prog 109 #[p.val, Ed.val ⟨op, f, b, tob, other, pos, i⟩] w fun e w' => e = .returned (.int .i64 (inFunE p ⟨op, f, b, tob, other, pos, i⟩)) ∧ Below w.heap.size w w' := by
  obtain ⟨r, hr⟩ : ∃ r, inFunE p ⟨op, f, b, tob, other, pos, i⟩ = r := ⟨_, rfl⟩
  rw [hr]
  unfold inFunE at hr
  subst hop
  simp only [show ¬ ((6 : Int) = 1) by decide, show ¬ ((6 : Int) = 2) by decide, show ¬ ((6 : Int) = 3) by decide, show ¬ ((6 : Int) = 4) by decide, show ¬ ((6 : Int) = 5) by decide, if_false, if_true] at hr
  have HCI := Lib.hid (fun wr (h : Rd wr p) => checkInsert_any p ⟨6, f, b, tob, other, pos, i⟩ wr h hfew r hr)
  have HRD0 := Lib.hid h
  clear h hfew
  obtain ⟨id, kind, dst, a, b2, c, f2, n, x0, x1, x2⟩ := i
  unfold Pg.val Ed.val at HCI
  unfold Pg.val Ed.val
  dsimp only at *
  obtain ⟨PL, hPL⟩ : ∃ PL, p.funs.length = PL := ⟨_, rfl⟩
  simp only [hPL] at HCI ⊢
  clear hPL
  have HR := Lib.hid hr
  clear hr
  have HBb := Lib.hid (below2 w (.cells #[.slice p.pa PL p.pc] 24) (.cells #[.int .i64 6, .int .i64 f, .int .i64 b, .int .i64 tob, .int .i64 other, .int .i64 pos, .int .i64 id, .int .i64 kind, .int .i64 dst, .int .i64 a, .int .i64 b2, .int .i64 c, .int .i64 f2, .int .i64 n, .int .i64 x0, .int .i64 x1, .int .i64 x2] 55))
  have hx0 := BoxL.new w [.slice p.pa PL p.pc] 24
  have HX0 := Lib.hid (show BoxL ((w.alloc (.cells #[.slice p.pa PL p.pc] 24)).alloc (.cells #[.int .i64 6, .int .i64 f, .int .i64 b, .int .i64 tob, .int .i64 other, .int .i64 pos, .int .i64 id, .int .i64 kind, .int .i64 dst, .int .i64 a, .int .i64 b2, .int .i64 c, .int .i64 f2, .int .i64 n, .int .i64 x0, .int .i64 x1, .int .i64 x2] 55)) (w.heap.size) [.slice p.pa PL p.pc] from (hx0).alloc (Nat.zero_lt_succ _) (.cells #[.int .i64 6, .int .i64 f, .int .i64 b, .int .i64 tob, .int .i64 other, .int .i64 pos, .int .i64 id, .int .i64 kind, .int .i64 dst, .int .i64 a, .int .i64 b2, .int .i64 c, .int .i64 f2, .int .i64 n, .int .i64 x0, .int .i64 x1, .int .i64 x2] 55))
  have hx1 := BoxL.new (w.alloc (.cells #[.slice p.pa PL p.pc] 24)) [.int .i64 6, .int .i64 f, .int .i64 b, .int .i64 tob, .int .i64 other, .int .i64 pos, .int .i64 id, .int .i64 kind, .int .i64 dst, .int .i64 a, .int .i64 b2, .int .i64 c, .int .i64 f2, .int .i64 n, .int .i64 x0, .int .i64 x1, .int .i64 x2] 55
  rw [World.size_alloc] at hx1
  have HX1 := Lib.hid (show BoxL ((w.alloc (.cells #[.slice p.pa PL p.pc] 24)).alloc (.cells #[.int .i64 6, .int .i64 f, .int .i64 b, .int .i64 tob, .int .i64 other, .int .i64 pos, .int .i64 id, .int .i64 kind, .int .i64 dst, .int .i64 a, .int .i64 b2, .int .i64 c, .int .i64 f2, .int .i64 n, .int .i64 x0, .int .i64 x1, .int .i64 x2] 55)) (w.heap.size + 1) [.int .i64 6, .int .i64 f, .int .i64 b, .int .i64 tob, .int .i64 other, .int .i64 pos, .int .i64 id, .int .i64 kind, .int .i64 dst, .int .i64 a, .int .i64 b2, .int .i64 c, .int .i64 f2, .int .i64 n, .int .i64 x0, .int .i64 x1, .int .i64 x2] from hx1)
  clear hx0 hx1
  have HRW := Lib.hid (HRD0.out.on HBb.out)
  generalize hW : ((w.alloc (.cells #[.slice p.pa PL p.pc] 24)).alloc (.cells #[.int .i64 6, .int .i64 f, .int .i64 b, .int .i64 tob, .int .i64 other, .int .i64 pos, .int .i64 id, .int .i64 kind, .int .i64 dst, .int .i64 a, .int .i64 b2, .int .i64 c, .int .i64 f2, .int .i64 n, .int .i64 x0, .int .i64 x1, .int .i64 x2] 55)) = W at HBb HX0 HX1 HRW
  obtain ⟨g, hg⟩ : ∃ g, w.heap.size = g := ⟨_, rfl⟩
  have HGL := Lib.hid HBb.out.size
  rw [hg] at HBb HGL HX0 HX1 ⊢
  have HL0 := Lib.hid (HX0.out.lt (Nat.zero_lt_succ _))
  have HL1 := Lib.hid (HX1.out.lt (Nat.zero_lt_succ _))
  have HC : Hid (∀ wr, Below W.heap.size W wr → wr.cell? ⟨g, 0, none⟩ = some (.slice p.pa PL p.pc) ∧ wr.cell? ⟨g + 1, 0, none⟩ = some (.int .i64 6) ∧ wr.cell? ⟨g + 1, 1, none⟩ = some (.int .i64 f) ∧ wr.cell? ⟨g + 1, 2, none⟩ = some (.int .i64 b) ∧ wr.cell? ⟨g + 1, 3, none⟩ = some (.int .i64 tob) ∧ wr.cell? ⟨g + 1, 4, none⟩ = some (.int .i64 other) ∧ wr.cell? ⟨g + 1, 5, none⟩ = some (.int .i64 pos) ∧ wr.cell? ⟨g + 1, 6, none⟩ = some (.int .i64 id) ∧ wr.cell? ⟨g + 1, 7, none⟩ = some (.int .i64 kind) ∧ wr.cell? ⟨g + 1, 8, none⟩ = some (.int .i64 dst) ∧ wr.cell? ⟨g + 1, 9, none⟩ = some (.int .i64 a) ∧ wr.cell? ⟨g + 1, 10, none⟩ = some (.int .i64 b2) ∧ wr.cell? ⟨g + 1, 11, none⟩ = some (.int .i64 c) ∧ wr.cell? ⟨g + 1, 12, none⟩ = some (.int .i64 f2) ∧ wr.cell? ⟨g + 1, 13, none⟩ = some (.int .i64 n) ∧ wr.cell? ⟨g + 1, 14, none⟩ = some (.int .i64 x0) ∧ wr.cell? ⟨g + 1, 15, none⟩ = some (.int .i64 x1) ∧ wr.cell? ⟨g + 1, 16, none⟩ = some (.int .i64 x2)) := Lib.hid fun wr hb => ⟨((HX0.out.below hb HL0.out) 0 _ rfl).1, ((HX1.out.below hb HL1.out) 0 _ rfl).1, ((HX1.out.below hb HL1.out) 1 _ rfl).1, ((HX1.out.below hb HL1.out) 2 _ rfl).1, ((HX1.out.below hb HL1.out) 3 _ rfl).1, ((HX1.out.below hb HL1.out) 4 _ rfl).1, ((HX1.out.below hb HL1.out) 5 _ rfl).1, ((HX1.out.below hb HL1.out) 6 _ rfl).1, ((HX1.out.below hb HL1.out) 7 _ rfl).1, ((HX1.out.below hb HL1.out) 8 _ rfl).1, ((HX1.out.below hb HL1.out) 9 _ rfl).1, ((HX1.out.below hb HL1.out) 10 _ rfl).1, ((HX1.out.below hb HL1.out) 11 _ rfl).1, ((HX1.out.below hb HL1.out) 12 _ rfl).1, ((HX1.out.below hb HL1.out) 13 _ rfl).1, ((HX1.out.below hb HL1.out) 14 _ rfl).1, ((HX1.out.below hb HL1.out) 15 _ rfl).1, ((HX1.out.below hb HL1.out) 16 _ rfl).1⟩
  have HBN : Hid (Below W.heap.size W W) := Lib.hid (Below.refl _ _)
  obtain ⟨k0, k1, k2, k3, k4, k5, k6, k7, k8, k9, k10, k11, k12, k13, k14, k15, k16, k17⟩ := HC.out _ HBN.out
  go_enter Tryz.func109, Tryz.ntmps109
  go_wp2_with (go_at_call 148; refine (HCI.out _ (HRW.out.on HBN.out)).mono ?_; rintro e wn ⟨rfl, hbn⟩; have hbx := HBN.out.trans (hbn.mono HBN.out.size); clear HBN hbn; have HBN := Lib.hid hbx; clear hbx; clear k0 k1 k2 k3 k4 k5 k6 k7 k8 k9 k10 k11 k12 k13 k14 k15 k16 k17)
  go_ret
  exact ⟨rfl, HBb.out.trans (HBN.out.mono HGL.out)⟩

theorem inFun_any (p : Pg) (e : Ed) (w : World) (h : Rd w p) (hfew : p.few) :
    Calls Tryz.prog 109 #[p.val, e.val] w fun x w' => x = .returned (.int .i64 (inFunE p e)) ∧ Below w.heap.size w w' := by
  obtain ⟨op, f, b, tob, other, pos, i⟩ := e
  have hc : op = 1 ∨ op = 2 ∨ op = 3 ∨ op = 4 ∨ op = 5 ∨ op = 6 ∨ op = 7 ∨ ¬ (1 ≤ op ∧ op ≤ 7) := by omega
  rcases hc with h1 | h1 | h1 | h1 | h1 | h1 | h1 | h1
  · exact inFun1_any p op f b tob other pos i w h hfew h1
  · exact inFun2_any p op f b tob other pos i w h hfew h1
  · exact inFun3_any p op f b tob other pos i w h hfew h1
  · exact inFun4_any p op f b tob other pos i w h hfew h1
  · by_cases ho : other = tob
    · exact inFun5e_any p op f b tob other pos i w h hfew h1 ho.symm
    · exact inFun5n_any p op f b tob other pos i w h hfew h1 ho
  · exact inFun6_any p op f b tob other pos i w h hfew h1
  · exact inFun7_any p op f b tob other pos i w h hfew h1
  · exact inFun0_any p op f b tob other pos i w h hfew h1
end Go.Proofs.YtbddjneinfkmpaaGreatDoor
