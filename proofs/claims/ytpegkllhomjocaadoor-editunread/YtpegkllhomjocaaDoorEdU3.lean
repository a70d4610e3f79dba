/- EditUnread: its walk. -/
import Derived.Test.YtpegkllhomjocaaDoorEdE2
import Derived.Test.YtpegkllhomjocaaDoorEdN
import Derived.Test.YtpegkllhomjocaaDoorLate
import Derived.Test.YtpegkllhomjocaaDoorEdUp
namespace Go.Proofs.YtpegkllhomjocaaDoor
open Go Go.RowKit Go.Sort

set_option maxRecDepth 100000 in
set_option maxHeartbeats 16000000 in
theorem unread6 (p : Pg) (e o : Ed) (w : World) (h : Rd w p) (hN : NTab w) (hfew : p.few) (hop : e.op = 6) :
    Calls Tryd.prog 3 #[p.val, e.val, o.val] w fun x w' => x = .returned (.bool true) ∧ Below w.heap.size w w' := by
  have HAW := Lib.hid (fun wr (h : Rd wr p) (hN : NTab wr) => awake7_any wr h.2.1 h.2.2 hN)
  have HFE := Lib.hid (fun wr (h : Rd wr p) => Few_any p wr h.1 true (by simp [hfew]))
  obtain ⟨r, hr⟩ : ∃ r, chk p e = r := ⟨_, rfl⟩
  have hrx : chk p ⟨e.op, e.f, e.b, o.tob, o.other, e.pos, e.i⟩ = r := (chk_unread p e ⟨e.op, e.f, e.b, o.tob, o.other, e.pos, e.i⟩ rfl (fun _ => rfl) (fun _ => rfl) (fun h => absurd h (by omega)) (fun h => absurd h (by omega)) (fun _ => rfl) (fun _ => rfl)).trans hr
  have HCE := Lib.hid (fun wr (h : Rd wr p) => Check_any p e wr h hfew r hr)
  have HCX := Lib.hid (fun wr (h : Rd wr p) => Check_any p ⟨e.op, e.f, e.b, o.tob, o.other, e.pos, e.i⟩ wr h hfew r hrx)
  clear hr hrx
  have HRD0 := Lib.hid h
  have HN0 := Lib.hid hN
  clear h hN hfew
  obtain ⟨op, f, b, tob, other, pos, ⟨id, kind, dst, a, b2, c, f2, n, x0, x1, x2⟩⟩ := e
  obtain ⟨oop, of, ob, otob, oother, opos, ⟨oid, okind, odst, oa, ob2, oc, of2, on, ox0, ox1, ox2⟩⟩ := o
  unfold Pg.val at HFE HCE HCX
  unfold Ed.val at HCE HCX
  unfold Pg.val Ed.val
  dsimp only at *
  subst hop
  obtain ⟨PL, hPL⟩ : ∃ PL, p.funs.length = PL := ⟨_, rfl⟩
  simp only [hPL] at HFE  HCE HCX ⊢
  clear hPL
  have HBb := Lib.hid (below3 w (.cells #[.slice p.pa PL p.pc] 24) (.cells #[.int .i64 6, .int .i64 f, .int .i64 b, .int .i64 tob, .int .i64 other, .int .i64 pos, .int .i64 id, .int .i64 kind, .int .i64 dst, .int .i64 a, .int .i64 b2, .int .i64 c, .int .i64 f2, .int .i64 n, .int .i64 x0, .int .i64 x1, .int .i64 x2] 29) (.cells #[.int .i64 oop, .int .i64 of, .int .i64 ob, .int .i64 otob, .int .i64 oother, .int .i64 opos, .int .i64 oid, .int .i64 okind, .int .i64 odst, .int .i64 oa, .int .i64 ob2, .int .i64 oc, .int .i64 of2, .int .i64 on, .int .i64 ox0, .int .i64 ox1, .int .i64 ox2] 29))
  have hx0 := BoxL.new w [.slice p.pa PL p.pc] 24
  have HX0 := Lib.hid (show BoxL (((w.alloc (.cells #[.slice p.pa PL p.pc] 24)).alloc (.cells #[.int .i64 6, .int .i64 f, .int .i64 b, .int .i64 tob, .int .i64 other, .int .i64 pos, .int .i64 id, .int .i64 kind, .int .i64 dst, .int .i64 a, .int .i64 b2, .int .i64 c, .int .i64 f2, .int .i64 n, .int .i64 x0, .int .i64 x1, .int .i64 x2] 29)).alloc (.cells #[.int .i64 oop, .int .i64 of, .int .i64 ob, .int .i64 otob, .int .i64 oother, .int .i64 opos, .int .i64 oid, .int .i64 okind, .int .i64 odst, .int .i64 oa, .int .i64 ob2, .int .i64 oc, .int .i64 of2, .int .i64 on, .int .i64 ox0, .int .i64 ox1, .int .i64 ox2] 29)) (w.heap.size) [.slice p.pa PL p.pc] from ((hx0).alloc (Nat.zero_lt_succ _) (.cells #[.int .i64 6, .int .i64 f, .int .i64 b, .int .i64 tob, .int .i64 other, .int .i64 pos, .int .i64 id, .int .i64 kind, .int .i64 dst, .int .i64 a, .int .i64 b2, .int .i64 c, .int .i64 f2, .int .i64 n, .int .i64 x0, .int .i64 x1, .int .i64 x2] 29)).alloc (Nat.zero_lt_succ _) (.cells #[.int .i64 oop, .int .i64 of, .int .i64 ob, .int .i64 otob, .int .i64 oother, .int .i64 opos, .int .i64 oid, .int .i64 okind, .int .i64 odst, .int .i64 oa, .int .i64 ob2, .int .i64 oc, .int .i64 of2, .int .i64 on, .int .i64 ox0, .int .i64 ox1, .int .i64 ox2] 29))
  have hx1 := BoxL.new (w.alloc (.cells #[.slice p.pa PL p.pc] 24)) [.int .i64 6, .int .i64 f, .int .i64 b, .int .i64 tob, .int .i64 other, .int .i64 pos, .int .i64 id, .int .i64 kind, .int .i64 dst, .int .i64 a, .int .i64 b2, .int .i64 c, .int .i64 f2, .int .i64 n, .int .i64 x0, .int .i64 x1, .int .i64 x2] 29
  rw [World.size_alloc] at hx1
  have HX1 := Lib.hid (show BoxL (((w.alloc (.cells #[.slice p.pa PL p.pc] 24)).alloc (.cells #[.int .i64 6, .int .i64 f, .int .i64 b, .int .i64 tob, .int .i64 other, .int .i64 pos, .int .i64 id, .int .i64 kind, .int .i64 dst, .int .i64 a, .int .i64 b2, .int .i64 c, .int .i64 f2, .int .i64 n, .int .i64 x0, .int .i64 x1, .int .i64 x2] 29)).alloc (.cells #[.int .i64 oop, .int .i64 of, .int .i64 ob, .int .i64 otob, .int .i64 oother, .int .i64 opos, .int .i64 oid, .int .i64 okind, .int .i64 odst, .int .i64 oa, .int .i64 ob2, .int .i64 oc, .int .i64 of2, .int .i64 on, .int .i64 ox0, .int .i64 ox1, .int .i64 ox2] 29)) (w.heap.size + 1) [.int .i64 6, .int .i64 f, .int .i64 b, .int .i64 tob, .int .i64 other, .int .i64 pos, .int .i64 id, .int .i64 kind, .int .i64 dst, .int .i64 a, .int .i64 b2, .int .i64 c, .int .i64 f2, .int .i64 n, .int .i64 x0, .int .i64 x1, .int .i64 x2] from (hx1).alloc (Nat.zero_lt_succ _) (.cells #[.int .i64 oop, .int .i64 of, .int .i64 ob, .int .i64 otob, .int .i64 oother, .int .i64 opos, .int .i64 oid, .int .i64 okind, .int .i64 odst, .int .i64 oa, .int .i64 ob2, .int .i64 oc, .int .i64 of2, .int .i64 on, .int .i64 ox0, .int .i64 ox1, .int .i64 ox2] 29))
  have hx2 := BoxL.new ((w.alloc (.cells #[.slice p.pa PL p.pc] 24)).alloc (.cells #[.int .i64 6, .int .i64 f, .int .i64 b, .int .i64 tob, .int .i64 other, .int .i64 pos, .int .i64 id, .int .i64 kind, .int .i64 dst, .int .i64 a, .int .i64 b2, .int .i64 c, .int .i64 f2, .int .i64 n, .int .i64 x0, .int .i64 x1, .int .i64 x2] 29)) [.int .i64 oop, .int .i64 of, .int .i64 ob, .int .i64 otob, .int .i64 oother, .int .i64 opos, .int .i64 oid, .int .i64 okind, .int .i64 odst, .int .i64 oa, .int .i64 ob2, .int .i64 oc, .int .i64 of2, .int .i64 on, .int .i64 ox0, .int .i64 ox1, .int .i64 ox2] 29
  rw [World.size_alloc, World.size_alloc] at hx2
  have HX2 := Lib.hid (show BoxL (((w.alloc (.cells #[.slice p.pa PL p.pc] 24)).alloc (.cells #[.int .i64 6, .int .i64 f, .int .i64 b, .int .i64 tob, .int .i64 other, .int .i64 pos, .int .i64 id, .int .i64 kind, .int .i64 dst, .int .i64 a, .int .i64 b2, .int .i64 c, .int .i64 f2, .int .i64 n, .int .i64 x0, .int .i64 x1, .int .i64 x2] 29)).alloc (.cells #[.int .i64 oop, .int .i64 of, .int .i64 ob, .int .i64 otob, .int .i64 oother, .int .i64 opos, .int .i64 oid, .int .i64 okind, .int .i64 odst, .int .i64 oa, .int .i64 ob2, .int .i64 oc, .int .i64 of2, .int .i64 on, .int .i64 ox0, .int .i64 ox1, .int .i64 ox2] 29)) (w.heap.size + 1 + 1) [.int .i64 oop, .int .i64 of, .int .i64 ob, .int .i64 otob, .int .i64 oother, .int .i64 opos, .int .i64 oid, .int .i64 okind, .int .i64 odst, .int .i64 oa, .int .i64 ob2, .int .i64 oc, .int .i64 of2, .int .i64 on, .int .i64 ox0, .int .i64 ox1, .int .i64 ox2] from hx2)
  clear hx0 hx1 hx2
  have HRW := Lib.hid (HRD0.out.on HBb.out)
  have HNW := Lib.hid (HN0.out.on HBb.out)
  generalize hW : (((w.alloc (.cells #[.slice p.pa PL p.pc] 24)).alloc (.cells #[.int .i64 6, .int .i64 f, .int .i64 b, .int .i64 tob, .int .i64 other, .int .i64 pos, .int .i64 id, .int .i64 kind, .int .i64 dst, .int .i64 a, .int .i64 b2, .int .i64 c, .int .i64 f2, .int .i64 n, .int .i64 x0, .int .i64 x1, .int .i64 x2] 29)).alloc (.cells #[.int .i64 oop, .int .i64 of, .int .i64 ob, .int .i64 otob, .int .i64 oother, .int .i64 opos, .int .i64 oid, .int .i64 okind, .int .i64 odst, .int .i64 oa, .int .i64 ob2, .int .i64 oc, .int .i64 of2, .int .i64 on, .int .i64 ox0, .int .i64 ox1, .int .i64 ox2] 29)) = W at HBb HX0 HX1 HX2 HRW HNW
  obtain ⟨g, hg⟩ : ∃ g, w.heap.size = g := ⟨_, rfl⟩
  have HGL := Lib.hid HBb.out.size
  rw [hg] at HBb HGL HX0 HX1 HX2 ⊢
  have HL0 := Lib.hid (HX0.out.lt (Nat.zero_lt_succ _))
  have HL1 := Lib.hid (HX1.out.lt (Nat.zero_lt_succ _))
  have HL2 := Lib.hid (HX2.out.lt (Nat.zero_lt_succ _))
  have HC : Hid (∀ wr, Below W.heap.size W wr → wr.cell? ⟨g, 0, none⟩ = some (.slice p.pa PL p.pc)) := Lib.hid fun wr hb => ((HX0.out.below hb HL0.out) 0 _ rfl).1
  have HBN : Hid (Below W.heap.size W W) := Lib.hid (Below.refl _ _)
  have k0 := HC.out _ HBN.out
  have HRO : Hid (∀ wr, Below W.heap.size W wr → wr.rangeAt (g + 1 + 1) 0 [.int .i64 oop, .int .i64 of, .int .i64 ob, .int .i64 otob, .int .i64 oother, .int .i64 opos, .int .i64 oid, .int .i64 okind, .int .i64 odst, .int .i64 oa, .int .i64 ob2, .int .i64 oc, .int .i64 of2, .int .i64 on, .int .i64 ox0, .int .i64 ox1, .int .i64 ox2]) := Lib.hid fun wr hb => (HX2.out.below hb HL2.out).range
  go_enter Tryd.func3, Tryd.ntmps3
  go_wp2_with (first
    | (go_at_call 5; refine (HAW.out _ (HRW.out.on HBN.out) (HNW.out.on HBN.out)).mono ?_; rintro e wa ⟨rfl, hbn⟩; have hbx := HBN.out.trans (hbn.mono HBN.out.size); clear HBN hbn k0; have HBN := Lib.hid hbx; clear hbx; have k0 := HC.out _ HBN.out)
    | (go_at_call 6; refine (HFE.out _ (HRW.out.on HBN.out)).mono ?_; rintro e wb ⟨rfl, hbn⟩; have hbx := HBN.out.trans (hbn.mono HBN.out.size); clear HBN hbn k0; have HBN := Lib.hid hbx; clear hbx; have k0 := HC.out _ HBN.out; have q0 : ∀ cs, (wb.alloc (.cells cs 29)).cell? ⟨g + 1, 0, none⟩ = some (.int .i64 6) := fun cs => ((HX1.out.below (HBN.out.alloc HBN.out.size (.cells cs 29)) HL1.out) 0 _ rfl).1; have q1 : ∀ cs, (wb.alloc (.cells cs 29)).cell? ⟨g + 1, 1, none⟩ = some (.int .i64 f) := fun cs => ((HX1.out.below (HBN.out.alloc HBN.out.size (.cells cs 29)) HL1.out) 1 _ rfl).1; have q2 : ∀ cs, (wb.alloc (.cells cs 29)).cell? ⟨g + 1, 2, none⟩ = some (.int .i64 b) := fun cs => ((HX1.out.below (HBN.out.alloc HBN.out.size (.cells cs 29)) HL1.out) 2 _ rfl).1; have q5 : ∀ cs, (wb.alloc (.cells cs 29)).cell? ⟨g + 1, 5, none⟩ = some (.int .i64 pos) := fun cs => ((HX1.out.below (HBN.out.alloc HBN.out.size (.cells cs 29)) HL1.out) 5 _ rfl).1; have q6 : ∀ cs, (wb.alloc (.cells cs 29)).cell? ⟨g + 1, 6, none⟩ = some (.int .i64 id) := fun cs => ((HX1.out.below (HBN.out.alloc HBN.out.size (.cells cs 29)) HL1.out) 6 _ rfl).1; have q7 : ∀ cs, (wb.alloc (.cells cs 29)).cell? ⟨g + 1, 7, none⟩ = some (.int .i64 kind) := fun cs => ((HX1.out.below (HBN.out.alloc HBN.out.size (.cells cs 29)) HL1.out) 7 _ rfl).1; have q8 : ∀ cs, (wb.alloc (.cells cs 29)).cell? ⟨g + 1, 8, none⟩ = some (.int .i64 dst) := fun cs => ((HX1.out.below (HBN.out.alloc HBN.out.size (.cells cs 29)) HL1.out) 8 _ rfl).1; have q9 : ∀ cs, (wb.alloc (.cells cs 29)).cell? ⟨g + 1, 9, none⟩ = some (.int .i64 a) := fun cs => ((HX1.out.below (HBN.out.alloc HBN.out.size (.cells cs 29)) HL1.out) 9 _ rfl).1; have q10 : ∀ cs, (wb.alloc (.cells cs 29)).cell? ⟨g + 1, 10, none⟩ = some (.int .i64 b2) := fun cs => ((HX1.out.below (HBN.out.alloc HBN.out.size (.cells cs 29)) HL1.out) 10 _ rfl).1; have q11 : ∀ cs, (wb.alloc (.cells cs 29)).cell? ⟨g + 1, 11, none⟩ = some (.int .i64 c) := fun cs => ((HX1.out.below (HBN.out.alloc HBN.out.size (.cells cs 29)) HL1.out) 11 _ rfl).1; have q12 : ∀ cs, (wb.alloc (.cells cs 29)).cell? ⟨g + 1, 12, none⟩ = some (.int .i64 f2) := fun cs => ((HX1.out.below (HBN.out.alloc HBN.out.size (.cells cs 29)) HL1.out) 12 _ rfl).1; have q13 : ∀ cs, (wb.alloc (.cells cs 29)).cell? ⟨g + 1, 13, none⟩ = some (.int .i64 n) := fun cs => ((HX1.out.below (HBN.out.alloc HBN.out.size (.cells cs 29)) HL1.out) 13 _ rfl).1; have q14 : ∀ cs, (wb.alloc (.cells cs 29)).cell? ⟨g + 1, 14, none⟩ = some (.int .i64 x0) := fun cs => ((HX1.out.below (HBN.out.alloc HBN.out.size (.cells cs 29)) HL1.out) 14 _ rfl).1; have q15 : ∀ cs, (wb.alloc (.cells cs 29)).cell? ⟨g + 1, 15, none⟩ = some (.int .i64 x1) := fun cs => ((HX1.out.below (HBN.out.alloc HBN.out.size (.cells cs 29)) HL1.out) 15 _ rfl).1; have q16 : ∀ cs, (wb.alloc (.cells cs 29)).cell? ⟨g + 1, 16, none⟩ = some (.int .i64 x2) := fun cs => ((HX1.out.below (HBN.out.alloc HBN.out.size (.cells cs 29)) HL1.out) 16 _ rfl).1)
    | ((with_reducible apply wpList_load_w (ty := 29) (b := g + 1 + 1) (o := 0) (cs := [.int .i64 oop, .int .i64 of, .int .i64 ob, .int .i64 otob, .int .i64 oother, .int .i64 opos, .int .i64 oid, .int .i64 okind, .int .i64 odst, .int .i64 oa, .int .i64 ob2, .int .i64 oc, .int .i64 of2, .int .i64 on, .int .i64 ox0, .int .i64 ox1, .int .i64 ox2])); rotate_left; rfl; rfl; exact HRO.out _ HBN.out; exact Tryd.underlying29; rfl; kernel_rfl; rotate_left; rfl; simp only [Act.put, List.setIfInBounds_toArray, List.set_cons_zero, List.set_cons_succ])
    | ((with_reducible apply wpList_store_new (ty := 29) (c := #[.int .i64 0, .int .i64 0, .int .i64 0, .int .i64 0, .int .i64 0, .int .i64 0, .int .i64 0, .int .i64 0, .int .i64 0, .int .i64 0, .int .i64 0, .int .i64 0, .int .i64 0, .int .i64 0, .int .i64 0, .int .i64 0, .int .i64 0]) (c' := #[.int .i64 oop, .int .i64 of, .int .i64 ob, .int .i64 otob, .int .i64 oother, .int .i64 opos, .int .i64 oid, .int .i64 okind, .int .i64 odst, .int .i64 oa, .int .i64 ob2, .int .i64 oc, .int .i64 of2, .int .i64 on, .int .i64 ox0, .int .i64 ox1, .int .i64 ox2])); rfl; rfl; rfl; rfl; kernel_rfl; rfl; simp [Value.oneCell']; simp only [Act.put]))
  have HB2 := Lib.hid (HBN.out.alloc HBN.out.size (.cells #[.int .i64 6, .int .i64 f, .int .i64 b, .int .i64 otob, .int .i64 oother, .int .i64 pos, .int .i64 id, .int .i64 kind, .int .i64 dst, .int .i64 a, .int .i64 b2, .int .i64 c, .int .i64 f2, .int .i64 n, .int .i64 x0, .int .i64 x1, .int .i64 x2] 29))
  have HXX := Lib.hid (show BoxL (wb.alloc (.cells #[.int .i64 6, .int .i64 f, .int .i64 b, .int .i64 otob, .int .i64 oother, .int .i64 pos, .int .i64 id, .int .i64 kind, .int .i64 dst, .int .i64 a, .int .i64 b2, .int .i64 c, .int .i64 f2, .int .i64 n, .int .i64 x0, .int .i64 x1, .int .i64 x2] 29)) wb.heap.size [.int .i64 6, .int .i64 f, .int .i64 b, .int .i64 otob, .int .i64 oother, .int .i64 pos, .int .i64 id, .int .i64 kind, .int .i64 dst, .int .i64 a, .int .i64 b2, .int .i64 c, .int .i64 f2, .int .i64 n, .int .i64 x0, .int .i64 x1, .int .i64 x2] from BoxL.new wb _ _)
  clear q0 q1 q2 q5 q6 q7 q8 q9 q10 q11 q12 q13 q14 q15 q16 k0 HBN
  generalize wb.alloc (.cells #[.int .i64 6, .int .i64 f, .int .i64 b, .int .i64 otob, .int .i64 oother, .int .i64 pos, .int .i64 id, .int .i64 kind, .int .i64 dst, .int .i64 a, .int .i64 b2, .int .i64 c, .int .i64 f2, .int .i64 n, .int .i64 x0, .int .i64 x1, .int .i64 x2] 29) = W2 at *
  obtain ⟨gx, hgx⟩ : ∃ b, wb.heap.size = b := ⟨_, rfl⟩
  rw [hgx] at HXX ⊢
  clear hgx
  have HLX := Lib.hid (HXX.out.lt (Nat.zero_lt_succ _))
  have HF1 := Lib.hid (HBb.out.trans (HB2.out.mono HGL.out))
  have HG2 := Lib.hid (Nat.le_trans HGL.out HB2.out.size)
  have HRD2 := Lib.hid (HRW.out.on HB2.out)
  have HS : Hid (∀ w', Below W2.heap.size W2 w' → w'.cell? ⟨g, 0, none⟩ = some (.slice p.pa PL p.pc) ∧ w'.rangeAt (g + 1) 0 [.int .i64 6, .int .i64 f, .int .i64 b, .int .i64 tob, .int .i64 other, .int .i64 pos, .int .i64 id, .int .i64 kind, .int .i64 dst, .int .i64 a, .int .i64 b2, .int .i64 c, .int .i64 f2, .int .i64 n, .int .i64 x0, .int .i64 x1, .int .i64 x2] ∧ w'.rangeAt gx 0 [.int .i64 6, .int .i64 f, .int .i64 b, .int .i64 otob, .int .i64 oother, .int .i64 pos, .int .i64 id, .int .i64 kind, .int .i64 dst, .int .i64 a, .int .i64 b2, .int .i64 c, .int .i64 f2, .int .i64 n, .int .i64 x0, .int .i64 x1, .int .i64 x2]) := Lib.hid fun w' hb => ⟨((HX0.out.below (HB2.out.trans (hb.mono HB2.out.size)) HL0.out) 0 _ rfl).1, (HX1.out.below (HB2.out.trans (hb.mono HB2.out.size)) HL1.out).range, (HXX.out.below hb HLX.out).range⟩
  have HBN : Hid (Below W2.heap.size W2 W2.drew) := Lib.hid (Below.refl _ _).drew
  clear HC HX0 HX1 HX2 HXX HFE HAW HN0 HNW
  refine wp_region_late (fun w' => w'.cell? ⟨g, 0, none⟩ = some (.slice p.pa PL p.pc) ∧ w'.rangeAt (g + 1) 0 [.int .i64 6, .int .i64 f, .int .i64 b, .int .i64 tob, .int .i64 other, .int .i64 pos, .int .i64 id, .int .i64 kind, .int .i64 dst, .int .i64 a, .int .i64 b2, .int .i64 c, .int .i64 f2, .int .i64 n, .int .i64 x0, .int .i64 x1, .int .i64 x2] ∧ w'.rangeAt gx 0 [.int .i64 6, .int .i64 f, .int .i64 b, .int .i64 otob, .int .i64 oother, .int .i64 pos, .int .i64 id, .int .i64 kind, .int .i64 dst, .int .i64 a, .int .i64 b2, .int .i64 c, .int .i64 f2, .int .i64 n, .int .i64 x0, .int .i64 x1, .int .i64 x2]) 11 (by kernel_rfl) (HS.out _ HBN.out) (fun hHeld => ?_)
  refine wpAnyE_take (i := 0) (v := ?v0) rfl (by kernel_rfl) (fun _ _ _ h => h) hHeld (by rfl) ?y0 ?_
  case y0 => (intro w' hSw; (try dsimp only at hSw); go_simp <;> with_reducible rfl)
  refine wpAnyE_take (i := 1) (v := ?v1) rfl (by kernel_rfl) (fun _ _ _ h => h) hHeld (by rfl) ?y1 ?_
  case y1 => (intro w' hSw; (try dsimp only at hSw); go_simp <;> with_reducible rfl)
  refine wpAnyE_take (i := 2) (v := ?v2) rfl (by kernel_rfl) (fun _ _ _ h => h) hHeld (by rfl) ?y2 ?_
  case y2 => (intro w' hSw; (try dsimp only at hSw); go_simp <;> with_reducible rfl)
  refine wpAnyE_takeY (i := 3) rfl (by kernel_rfl) (fun _ _ _ h => h) hHeld (yieldsIf_load_mid (by rfl) 29 _ rfl gx 0 rfl [.int .i64 6, .int .i64 f, .int .i64 b, .int .i64 otob, .int .i64 oother, .int .i64 pos, .int .i64 id, .int .i64 kind, .int .i64 dst, .int .i64 a, .int .i64 b2, .int .i64 c, .int .i64 f2, .int .i64 n, .int .i64 x0, .int .i64 x1, .int .i64 x2] _ (fun w h => h.2.2) Tryd.underlying29 rfl (by kernel_rfl)) ?_
  refine wpAnyE_take (i := 5) (v := ?v5) rfl (by kernel_rfl) (fun _ _ _ h => h) hHeld (by rfl) ?y5 ?_
  case y5 => (intro w' hSw; (try dsimp only at hSw); go_simp <;> with_reducible rfl)
  refine wpAnyE_takeY (i := 6) rfl (by kernel_rfl) (fun _ _ _ h => h) hHeld (yieldsIf_load_mid (by rfl) 29 _ rfl (g + 1) 0 rfl [.int .i64 6, .int .i64 f, .int .i64 b, .int .i64 tob, .int .i64 other, .int .i64 pos, .int .i64 id, .int .i64 kind, .int .i64 dst, .int .i64 a, .int .i64 b2, .int .i64 c, .int .i64 f2, .int .i64 n, .int .i64 x0, .int .i64 x1, .int .i64 x2] _ (fun w h => h.2.1) Tryd.underlying29 rfl (by kernel_rfl)) ?_
  refine wpAnyE_one (i := 4) (by kernel_rfl) rfl (fun K hK => ?_)
  go_simp
  go_at_call 7
  refine (HCX.out _ (HRD2.out.on HBN.out)).mono ?_
  rintro e wn ⟨rfl, hbn⟩
  have hbx := HBN.out.trans (hbn.mono HBN.out.size)
  clear HBN hbn
  have HBN := Lib.hid hbx
  clear hbx
  refine hK.out _ _ ?_ (fun hHeld => ?_)
  · exact HS.out _ HBN.out
  clear hK K
  refine wpAnyE_one (i := 7) (by kernel_rfl) rfl (fun K hK => ?_)
  go_simp
  go_at_call 7
  refine (HCE.out _ (HRD2.out.on HBN.out)).mono ?_
  rintro e wn ⟨rfl, hbn⟩
  have hbx := HBN.out.trans (hbn.mono HBN.out.size)
  clear HBN hbn
  have HBN := Lib.hid hbx
  clear hbx
  refine hK.out _ _ ?_ (fun hHeld => ?_)
  · exact HS.out _ HBN.out
  clear hK K
  refine wpAnyE_take (i := 8) (v := ?v8) rfl (by kernel_rfl) (fun _ _ _ h => h) hHeld (by rfl) ?y8 ?_
  case y8 => (intro w' hSw; (try dsimp only at hSw); go_simp <;> with_reducible rfl)
  refine wpAnyE_take (i := 9) (v := ?v9) rfl (by kernel_rfl) (fun _ _ _ h => h) hHeld (by rfl) ?y9 ?_
  case y9 => (intro w' hSw; (try dsimp only at hSw); go_simp <;> with_reducible rfl)
  refine wpAnyE_take (i := 10) (v := ?v10) rfl (by kernel_rfl) (fun _ _ _ h => h) hHeld (by rfl) ?y10 ?_
  case y10 => (intro w' hSw; (try dsimp only at hSw); go_simp <;> with_reducible rfl)
  refine wpAnyE_tail 11 (by decide) rfl (by kernel_rfl) ?_
  simp only [List.drop_succ_cons, List.drop_zero]
  go_wp2_with fail
  go_ret
  first
    | exact ⟨rfl, HF1.out.trans (HBN.out.mono HG2.out)⟩
    | exact ⟨ret_bool (by simp), HF1.out.trans (HBN.out.mono HG2.out)⟩

set_option maxRecDepth 100000 in
set_option maxHeartbeats 16000000 in
theorem unread7 (p : Pg) (e o : Ed) (w : World) (h : Rd w p) (hN : NTab w) (hfew : p.few) (hop : e.op = 7) :
    Calls Tryd.prog 3 #[p.val, e.val, o.val] w fun x w' => x = .returned (.bool true) ∧ Below w.heap.size w w' := by
  have HAW := Lib.hid (fun wr (h : Rd wr p) (hN : NTab wr) => awake7_any wr h.2.1 h.2.2 hN)
  have HFE := Lib.hid (fun wr (h : Rd wr p) => Few_any p wr h.1 true (by simp [hfew]))
  obtain ⟨r, hr⟩ : ∃ r, chk p e = r := ⟨_, rfl⟩
  have hrx : chk p ⟨e.op, e.f, e.b, o.tob, o.other, e.pos, o.i⟩ = r := (chk_unread p e ⟨e.op, e.f, e.b, o.tob, o.other, e.pos, o.i⟩ rfl (fun _ => rfl) (fun _ => rfl) (fun h => absurd h (by omega)) (fun h => absurd h (by omega)) (fun _ => rfl) (fun h => absurd h (by omega))).trans hr
  have HCE := Lib.hid (fun wr (h : Rd wr p) => Check_any p e wr h hfew r hr)
  have HCX := Lib.hid (fun wr (h : Rd wr p) => Check_any p ⟨e.op, e.f, e.b, o.tob, o.other, e.pos, o.i⟩ wr h hfew r hrx)
  clear hr hrx
  have HRD0 := Lib.hid h
  have HN0 := Lib.hid hN
  clear h hN hfew
  obtain ⟨op, f, b, tob, other, pos, ⟨id, kind, dst, a, b2, c, f2, n, x0, x1, x2⟩⟩ := e
  obtain ⟨oop, of, ob, otob, oother, opos, ⟨oid, okind, odst, oa, ob2, oc, of2, on, ox0, ox1, ox2⟩⟩ := o
  unfold Pg.val at HFE HCE HCX
  unfold Ed.val at HCE HCX
  unfold Pg.val Ed.val
  dsimp only at *
  subst hop
  obtain ⟨PL, hPL⟩ : ∃ PL, p.funs.length = PL := ⟨_, rfl⟩
  simp only [hPL] at HFE  HCE HCX ⊢
  clear hPL
  have HBb := Lib.hid (below3 w (.cells #[.slice p.pa PL p.pc] 24) (.cells #[.int .i64 7, .int .i64 f, .int .i64 b, .int .i64 tob, .int .i64 other, .int .i64 pos, .int .i64 id, .int .i64 kind, .int .i64 dst, .int .i64 a, .int .i64 b2, .int .i64 c, .int .i64 f2, .int .i64 n, .int .i64 x0, .int .i64 x1, .int .i64 x2] 29) (.cells #[.int .i64 oop, .int .i64 of, .int .i64 ob, .int .i64 otob, .int .i64 oother, .int .i64 opos, .int .i64 oid, .int .i64 okind, .int .i64 odst, .int .i64 oa, .int .i64 ob2, .int .i64 oc, .int .i64 of2, .int .i64 on, .int .i64 ox0, .int .i64 ox1, .int .i64 ox2] 29))
  have hx0 := BoxL.new w [.slice p.pa PL p.pc] 24
  have HX0 := Lib.hid (show BoxL (((w.alloc (.cells #[.slice p.pa PL p.pc] 24)).alloc (.cells #[.int .i64 7, .int .i64 f, .int .i64 b, .int .i64 tob, .int .i64 other, .int .i64 pos, .int .i64 id, .int .i64 kind, .int .i64 dst, .int .i64 a, .int .i64 b2, .int .i64 c, .int .i64 f2, .int .i64 n, .int .i64 x0, .int .i64 x1, .int .i64 x2] 29)).alloc (.cells #[.int .i64 oop, .int .i64 of, .int .i64 ob, .int .i64 otob, .int .i64 oother, .int .i64 opos, .int .i64 oid, .int .i64 okind, .int .i64 odst, .int .i64 oa, .int .i64 ob2, .int .i64 oc, .int .i64 of2, .int .i64 on, .int .i64 ox0, .int .i64 ox1, .int .i64 ox2] 29)) (w.heap.size) [.slice p.pa PL p.pc] from ((hx0).alloc (Nat.zero_lt_succ _) (.cells #[.int .i64 7, .int .i64 f, .int .i64 b, .int .i64 tob, .int .i64 other, .int .i64 pos, .int .i64 id, .int .i64 kind, .int .i64 dst, .int .i64 a, .int .i64 b2, .int .i64 c, .int .i64 f2, .int .i64 n, .int .i64 x0, .int .i64 x1, .int .i64 x2] 29)).alloc (Nat.zero_lt_succ _) (.cells #[.int .i64 oop, .int .i64 of, .int .i64 ob, .int .i64 otob, .int .i64 oother, .int .i64 opos, .int .i64 oid, .int .i64 okind, .int .i64 odst, .int .i64 oa, .int .i64 ob2, .int .i64 oc, .int .i64 of2, .int .i64 on, .int .i64 ox0, .int .i64 ox1, .int .i64 ox2] 29))
  have hx1 := BoxL.new (w.alloc (.cells #[.slice p.pa PL p.pc] 24)) [.int .i64 7, .int .i64 f, .int .i64 b, .int .i64 tob, .int .i64 other, .int .i64 pos, .int .i64 id, .int .i64 kind, .int .i64 dst, .int .i64 a, .int .i64 b2, .int .i64 c, .int .i64 f2, .int .i64 n, .int .i64 x0, .int .i64 x1, .int .i64 x2] 29
  rw [World.size_alloc] at hx1
  have HX1 := Lib.hid (show BoxL (((w.alloc (.cells #[.slice p.pa PL p.pc] 24)).alloc (.cells #[.int .i64 7, .int .i64 f, .int .i64 b, .int .i64 tob, .int .i64 other, .int .i64 pos, .int .i64 id, .int .i64 kind, .int .i64 dst, .int .i64 a, .int .i64 b2, .int .i64 c, .int .i64 f2, .int .i64 n, .int .i64 x0, .int .i64 x1, .int .i64 x2] 29)).alloc (.cells #[.int .i64 oop, .int .i64 of, .int .i64 ob, .int .i64 otob, .int .i64 oother, .int .i64 opos, .int .i64 oid, .int .i64 okind, .int .i64 odst, .int .i64 oa, .int .i64 ob2, .int .i64 oc, .int .i64 of2, .int .i64 on, .int .i64 ox0, .int .i64 ox1, .int .i64 ox2] 29)) (w.heap.size + 1) [.int .i64 7, .int .i64 f, .int .i64 b, .int .i64 tob, .int .i64 other, .int .i64 pos, .int .i64 id, .int .i64 kind, .int .i64 dst, .int .i64 a, .int .i64 b2, .int .i64 c, .int .i64 f2, .int .i64 n, .int .i64 x0, .int .i64 x1, .int .i64 x2] from (hx1).alloc (Nat.zero_lt_succ _) (.cells #[.int .i64 oop, .int .i64 of, .int .i64 ob, .int .i64 otob, .int .i64 oother, .int .i64 opos, .int .i64 oid, .int .i64 okind, .int .i64 odst, .int .i64 oa, .int .i64 ob2, .int .i64 oc, .int .i64 of2, .int .i64 on, .int .i64 ox0, .int .i64 ox1, .int .i64 ox2] 29))
  have hx2 := BoxL.new ((w.alloc (.cells #[.slice p.pa PL p.pc] 24)).alloc (.cells #[.int .i64 7, .int .i64 f, .int .i64 b, .int .i64 tob, .int .i64 other, .int .i64 pos, .int .i64 id, .int .i64 kind, .int .i64 dst, .int .i64 a, .int .i64 b2, .int .i64 c, .int .i64 f2, .int .i64 n, .int .i64 x0, .int .i64 x1, .int .i64 x2] 29)) [.int .i64 oop, .int .i64 of, .int .i64 ob, .int .i64 otob, .int .i64 oother, .int .i64 opos, .int .i64 oid, .int .i64 okind, .int .i64 odst, .int .i64 oa, .int .i64 ob2, .int .i64 oc, .int .i64 of2, .int .i64 on, .int .i64 ox0, .int .i64 ox1, .int .i64 ox2] 29
  rw [World.size_alloc, World.size_alloc] at hx2
  have HX2 := Lib.hid (show BoxL (((w.alloc (.cells #[.slice p.pa PL p.pc] 24)).alloc (.cells #[.int .i64 7, .int .i64 f, .int .i64 b, .int .i64 tob, .int .i64 other, .int .i64 pos, .int .i64 id, .int .i64 kind, .int .i64 dst, .int .i64 a, .int .i64 b2, .int .i64 c, .int .i64 f2, .int .i64 n, .int .i64 x0, .int .i64 x1, .int .i64 x2] 29)).alloc (.cells #[.int .i64 oop, .int .i64 of, .int .i64 ob, .int .i64 otob, .int .i64 oother, .int .i64 opos, .int .i64 oid, .int .i64 okind, .int .i64 odst, .int .i64 oa, .int .i64 ob2, .int .i64 oc, .int .i64 of2, .int .i64 on, .int .i64 ox0, .int .i64 ox1, .int .i64 ox2] 29)) (w.heap.size + 1 + 1) [.int .i64 oop, .int .i64 of, .int .i64 ob, .int .i64 otob, .int .i64 oother, .int .i64 opos, .int .i64 oid, .int .i64 okind, .int .i64 odst, .int .i64 oa, .int .i64 ob2, .int .i64 oc, .int .i64 of2, .int .i64 on, .int .i64 ox0, .int .i64 ox1, .int .i64 ox2] from hx2)
  clear hx0 hx1 hx2
  have HRW := Lib.hid (HRD0.out.on HBb.out)
  have HNW := Lib.hid (HN0.out.on HBb.out)
  generalize hW : (((w.alloc (.cells #[.slice p.pa PL p.pc] 24)).alloc (.cells #[.int .i64 7, .int .i64 f, .int .i64 b, .int .i64 tob, .int .i64 other, .int .i64 pos, .int .i64 id, .int .i64 kind, .int .i64 dst, .int .i64 a, .int .i64 b2, .int .i64 c, .int .i64 f2, .int .i64 n, .int .i64 x0, .int .i64 x1, .int .i64 x2] 29)).alloc (.cells #[.int .i64 oop, .int .i64 of, .int .i64 ob, .int .i64 otob, .int .i64 oother, .int .i64 opos, .int .i64 oid, .int .i64 okind, .int .i64 odst, .int .i64 oa, .int .i64 ob2, .int .i64 oc, .int .i64 of2, .int .i64 on, .int .i64 ox0, .int .i64 ox1, .int .i64 ox2] 29)) = W at HBb HX0 HX1 HX2 HRW HNW
  obtain ⟨g, hg⟩ : ∃ g, w.heap.size = g := ⟨_, rfl⟩
  have HGL := Lib.hid HBb.out.size
  rw [hg] at HBb HGL HX0 HX1 HX2 ⊢
  have HL0 := Lib.hid (HX0.out.lt (Nat.zero_lt_succ _))
  have HL1 := Lib.hid (HX1.out.lt (Nat.zero_lt_succ _))
  have HL2 := Lib.hid (HX2.out.lt (Nat.zero_lt_succ _))
  have HC : Hid (∀ wr, Below W.heap.size W wr → wr.cell? ⟨g, 0, none⟩ = some (.slice p.pa PL p.pc)) := Lib.hid fun wr hb => ((HX0.out.below hb HL0.out) 0 _ rfl).1
  have HBN : Hid (Below W.heap.size W W) := Lib.hid (Below.refl _ _)
  have k0 := HC.out _ HBN.out
  have HRO : Hid (∀ wr, Below W.heap.size W wr → wr.rangeAt (g + 1 + 1) 0 [.int .i64 oop, .int .i64 of, .int .i64 ob, .int .i64 otob, .int .i64 oother, .int .i64 opos, .int .i64 oid, .int .i64 okind, .int .i64 odst, .int .i64 oa, .int .i64 ob2, .int .i64 oc, .int .i64 of2, .int .i64 on, .int .i64 ox0, .int .i64 ox1, .int .i64 ox2]) := Lib.hid fun wr hb => (HX2.out.below hb HL2.out).range
  go_enter Tryd.func3, Tryd.ntmps3
  go_wp2_with (first
    | (go_at_call 5; refine (HAW.out _ (HRW.out.on HBN.out) (HNW.out.on HBN.out)).mono ?_; rintro e wa ⟨rfl, hbn⟩; have hbx := HBN.out.trans (hbn.mono HBN.out.size); clear HBN hbn k0; have HBN := Lib.hid hbx; clear hbx; have k0 := HC.out _ HBN.out)
    | (go_at_call 6; refine (HFE.out _ (HRW.out.on HBN.out)).mono ?_; rintro e wb ⟨rfl, hbn⟩; have hbx := HBN.out.trans (hbn.mono HBN.out.size); clear HBN hbn k0; have HBN := Lib.hid hbx; clear hbx; have k0 := HC.out _ HBN.out; have q0 : ∀ cs, (wb.alloc (.cells cs 29)).cell? ⟨g + 1, 0, none⟩ = some (.int .i64 7) := fun cs => ((HX1.out.below (HBN.out.alloc HBN.out.size (.cells cs 29)) HL1.out) 0 _ rfl).1; have q1 : ∀ cs, (wb.alloc (.cells cs 29)).cell? ⟨g + 1, 1, none⟩ = some (.int .i64 f) := fun cs => ((HX1.out.below (HBN.out.alloc HBN.out.size (.cells cs 29)) HL1.out) 1 _ rfl).1; have q2 : ∀ cs, (wb.alloc (.cells cs 29)).cell? ⟨g + 1, 2, none⟩ = some (.int .i64 b) := fun cs => ((HX1.out.below (HBN.out.alloc HBN.out.size (.cells cs 29)) HL1.out) 2 _ rfl).1; have q5 : ∀ cs, (wb.alloc (.cells cs 29)).cell? ⟨g + 1, 5, none⟩ = some (.int .i64 pos) := fun cs => ((HX1.out.below (HBN.out.alloc HBN.out.size (.cells cs 29)) HL1.out) 5 _ rfl).1)
    | ((with_reducible apply wpList_load_w (ty := 29) (b := g + 1 + 1) (o := 0) (cs := [.int .i64 oop, .int .i64 of, .int .i64 ob, .int .i64 otob, .int .i64 oother, .int .i64 opos, .int .i64 oid, .int .i64 okind, .int .i64 odst, .int .i64 oa, .int .i64 ob2, .int .i64 oc, .int .i64 of2, .int .i64 on, .int .i64 ox0, .int .i64 ox1, .int .i64 ox2])); rotate_left; rfl; rfl; exact HRO.out _ HBN.out; exact Tryd.underlying29; rfl; kernel_rfl; rotate_left; rfl; simp only [Act.put, List.setIfInBounds_toArray, List.set_cons_zero, List.set_cons_succ])
    | ((with_reducible apply wpList_store_new (ty := 29) (c := #[.int .i64 0, .int .i64 0, .int .i64 0, .int .i64 0, .int .i64 0, .int .i64 0, .int .i64 0, .int .i64 0, .int .i64 0, .int .i64 0, .int .i64 0, .int .i64 0, .int .i64 0, .int .i64 0, .int .i64 0, .int .i64 0, .int .i64 0]) (c' := #[.int .i64 oop, .int .i64 of, .int .i64 ob, .int .i64 otob, .int .i64 oother, .int .i64 opos, .int .i64 oid, .int .i64 okind, .int .i64 odst, .int .i64 oa, .int .i64 ob2, .int .i64 oc, .int .i64 of2, .int .i64 on, .int .i64 ox0, .int .i64 ox1, .int .i64 ox2])); rfl; rfl; rfl; rfl; kernel_rfl; rfl; simp [Value.oneCell']; simp only [Act.put]))
  have HB2 := Lib.hid (HBN.out.alloc HBN.out.size (.cells #[.int .i64 7, .int .i64 f, .int .i64 b, .int .i64 otob, .int .i64 oother, .int .i64 pos, .int .i64 oid, .int .i64 okind, .int .i64 odst, .int .i64 oa, .int .i64 ob2, .int .i64 oc, .int .i64 of2, .int .i64 on, .int .i64 ox0, .int .i64 ox1, .int .i64 ox2] 29))
  have HXX := Lib.hid (show BoxL (wb.alloc (.cells #[.int .i64 7, .int .i64 f, .int .i64 b, .int .i64 otob, .int .i64 oother, .int .i64 pos, .int .i64 oid, .int .i64 okind, .int .i64 odst, .int .i64 oa, .int .i64 ob2, .int .i64 oc, .int .i64 of2, .int .i64 on, .int .i64 ox0, .int .i64 ox1, .int .i64 ox2] 29)) wb.heap.size [.int .i64 7, .int .i64 f, .int .i64 b, .int .i64 otob, .int .i64 oother, .int .i64 pos, .int .i64 oid, .int .i64 okind, .int .i64 odst, .int .i64 oa, .int .i64 ob2, .int .i64 oc, .int .i64 of2, .int .i64 on, .int .i64 ox0, .int .i64 ox1, .int .i64 ox2] from BoxL.new wb _ _)
  clear q0 q1 q2 q5 k0 HBN
  generalize wb.alloc (.cells #[.int .i64 7, .int .i64 f, .int .i64 b, .int .i64 otob, .int .i64 oother, .int .i64 pos, .int .i64 oid, .int .i64 okind, .int .i64 odst, .int .i64 oa, .int .i64 ob2, .int .i64 oc, .int .i64 of2, .int .i64 on, .int .i64 ox0, .int .i64 ox1, .int .i64 ox2] 29) = W2 at *
  obtain ⟨gx, hgx⟩ : ∃ b, wb.heap.size = b := ⟨_, rfl⟩
  rw [hgx] at HXX ⊢
  clear hgx
  have HLX := Lib.hid (HXX.out.lt (Nat.zero_lt_succ _))
  have HF1 := Lib.hid (HBb.out.trans (HB2.out.mono HGL.out))
  have HG2 := Lib.hid (Nat.le_trans HGL.out HB2.out.size)
  have HRD2 := Lib.hid (HRW.out.on HB2.out)
  have HS : Hid (∀ w', Below W2.heap.size W2 w' → w'.cell? ⟨g, 0, none⟩ = some (.slice p.pa PL p.pc) ∧ w'.rangeAt (g + 1) 0 [.int .i64 7, .int .i64 f, .int .i64 b, .int .i64 tob, .int .i64 other, .int .i64 pos, .int .i64 id, .int .i64 kind, .int .i64 dst, .int .i64 a, .int .i64 b2, .int .i64 c, .int .i64 f2, .int .i64 n, .int .i64 x0, .int .i64 x1, .int .i64 x2] ∧ w'.rangeAt gx 0 [.int .i64 7, .int .i64 f, .int .i64 b, .int .i64 otob, .int .i64 oother, .int .i64 pos, .int .i64 oid, .int .i64 okind, .int .i64 odst, .int .i64 oa, .int .i64 ob2, .int .i64 oc, .int .i64 of2, .int .i64 on, .int .i64 ox0, .int .i64 ox1, .int .i64 ox2]) := Lib.hid fun w' hb => ⟨((HX0.out.below (HB2.out.trans (hb.mono HB2.out.size)) HL0.out) 0 _ rfl).1, (HX1.out.below (HB2.out.trans (hb.mono HB2.out.size)) HL1.out).range, (HXX.out.below hb HLX.out).range⟩
  have HBN : Hid (Below W2.heap.size W2 W2.drew) := Lib.hid (Below.refl _ _).drew
  clear HC HX0 HX1 HX2 HXX HFE HAW HN0 HNW
  refine wp_region_late (fun w' => w'.cell? ⟨g, 0, none⟩ = some (.slice p.pa PL p.pc) ∧ w'.rangeAt (g + 1) 0 [.int .i64 7, .int .i64 f, .int .i64 b, .int .i64 tob, .int .i64 other, .int .i64 pos, .int .i64 id, .int .i64 kind, .int .i64 dst, .int .i64 a, .int .i64 b2, .int .i64 c, .int .i64 f2, .int .i64 n, .int .i64 x0, .int .i64 x1, .int .i64 x2] ∧ w'.rangeAt gx 0 [.int .i64 7, .int .i64 f, .int .i64 b, .int .i64 otob, .int .i64 oother, .int .i64 pos, .int .i64 oid, .int .i64 okind, .int .i64 odst, .int .i64 oa, .int .i64 ob2, .int .i64 oc, .int .i64 of2, .int .i64 on, .int .i64 ox0, .int .i64 ox1, .int .i64 ox2]) 11 (by kernel_rfl) (HS.out _ HBN.out) (fun hHeld => ?_)
  refine wpAnyE_take (i := 0) (v := ?v0) rfl (by kernel_rfl) (fun _ _ _ h => h) hHeld (by rfl) ?y0 ?_
  case y0 => (intro w' hSw; (try dsimp only at hSw); go_simp <;> with_reducible rfl)
  refine wpAnyE_take (i := 1) (v := ?v1) rfl (by kernel_rfl) (fun _ _ _ h => h) hHeld (by rfl) ?y1 ?_
  case y1 => (intro w' hSw; (try dsimp only at hSw); go_simp <;> with_reducible rfl)
  refine wpAnyE_take (i := 2) (v := ?v2) rfl (by kernel_rfl) (fun _ _ _ h => h) hHeld (by rfl) ?y2 ?_
  case y2 => (intro w' hSw; (try dsimp only at hSw); go_simp <;> with_reducible rfl)
  refine wpAnyE_takeY (i := 3) rfl (by kernel_rfl) (fun _ _ _ h => h) hHeld (yieldsIf_load_mid (by rfl) 29 _ rfl gx 0 rfl [.int .i64 7, .int .i64 f, .int .i64 b, .int .i64 otob, .int .i64 oother, .int .i64 pos, .int .i64 oid, .int .i64 okind, .int .i64 odst, .int .i64 oa, .int .i64 ob2, .int .i64 oc, .int .i64 of2, .int .i64 on, .int .i64 ox0, .int .i64 ox1, .int .i64 ox2] _ (fun w h => h.2.2) Tryd.underlying29 rfl (by kernel_rfl)) ?_
  refine wpAnyE_take (i := 5) (v := ?v5) rfl (by kernel_rfl) (fun _ _ _ h => h) hHeld (by rfl) ?y5 ?_
  case y5 => (intro w' hSw; (try dsimp only at hSw); go_simp <;> with_reducible rfl)
  refine wpAnyE_takeY (i := 6) rfl (by kernel_rfl) (fun _ _ _ h => h) hHeld (yieldsIf_load_mid (by rfl) 29 _ rfl (g + 1) 0 rfl [.int .i64 7, .int .i64 f, .int .i64 b, .int .i64 tob, .int .i64 other, .int .i64 pos, .int .i64 id, .int .i64 kind, .int .i64 dst, .int .i64 a, .int .i64 b2, .int .i64 c, .int .i64 f2, .int .i64 n, .int .i64 x0, .int .i64 x1, .int .i64 x2] _ (fun w h => h.2.1) Tryd.underlying29 rfl (by kernel_rfl)) ?_
  refine wpAnyE_one (i := 4) (by kernel_rfl) rfl (fun K hK => ?_)
  go_simp
  go_at_call 7
  refine (HCX.out _ (HRD2.out.on HBN.out)).mono ?_
  rintro e wn ⟨rfl, hbn⟩
  have hbx := HBN.out.trans (hbn.mono HBN.out.size)
  clear HBN hbn
  have HBN := Lib.hid hbx
  clear hbx
  refine hK.out _ _ ?_ (fun hHeld => ?_)
  · exact HS.out _ HBN.out
  clear hK K
  refine wpAnyE_one (i := 7) (by kernel_rfl) rfl (fun K hK => ?_)
  go_simp
  go_at_call 7
  refine (HCE.out _ (HRD2.out.on HBN.out)).mono ?_
  rintro e wn ⟨rfl, hbn⟩
  have hbx := HBN.out.trans (hbn.mono HBN.out.size)
  clear HBN hbn
  have HBN := Lib.hid hbx
  clear hbx
  refine hK.out _ _ ?_ (fun hHeld => ?_)
  · exact HS.out _ HBN.out
  clear hK K
  refine wpAnyE_take (i := 8) (v := ?v8) rfl (by kernel_rfl) (fun _ _ _ h => h) hHeld (by rfl) ?y8 ?_
  case y8 => (intro w' hSw; (try dsimp only at hSw); go_simp <;> with_reducible rfl)
  refine wpAnyE_take (i := 9) (v := ?v9) rfl (by kernel_rfl) (fun _ _ _ h => h) hHeld (by rfl) ?y9 ?_
  case y9 => (intro w' hSw; (try dsimp only at hSw); go_simp <;> with_reducible rfl)
  refine wpAnyE_take (i := 10) (v := ?v10) rfl (by kernel_rfl) (fun _ _ _ h => h) hHeld (by rfl) ?y10 ?_
  case y10 => (intro w' hSw; (try dsimp only at hSw); go_simp <;> with_reducible rfl)
  refine wpAnyE_tail 11 (by decide) rfl (by kernel_rfl) ?_
  simp only [List.drop_succ_cons, List.drop_zero]
  go_wp2_with fail
  go_ret
  first
    | exact ⟨rfl, HF1.out.trans (HBN.out.mono HG2.out)⟩
    | exact ⟨ret_bool (by simp), HF1.out.trans (HBN.out.mono HG2.out)⟩

set_option maxRecDepth 100000 in
set_option maxHeartbeats 16000000 in
theorem unreadx (p : Pg) (e o : Ed) (w : World) (h : Rd w p) (hN : NTab w) (hfew : p.few) (hop : ¬ (0 ≤ e.op ∧ e.op ≤ 7)) :
    Calls Tryd.prog 3 #[p.val, e.val, o.val] w fun x w' => x = .returned (.bool true) ∧ Below w.heap.size w w' := by
  have HAW := Lib.hid (fun wr (h : Rd wr p) (hN : NTab wr) => awake7_any wr h.2.1 h.2.2 hN)
  have HFE := Lib.hid (fun wr (h : Rd wr p) => Few_any p wr h.1 true (by simp [hfew]))
  obtain ⟨r, hr⟩ : ∃ r, chk p e = r := ⟨_, rfl⟩
  have hrx : chk p ⟨e.op, e.f, e.b, o.tob, o.other, o.pos, o.i⟩ = r := (chk_unread p e ⟨e.op, e.f, e.b, o.tob, o.other, o.pos, o.i⟩ rfl (fun _ => rfl) (fun _ => rfl) (fun h => absurd h (by omega)) (fun h => absurd h (by omega)) (fun h => absurd h (by omega)) (fun h => absurd h (by omega))).trans hr
  have HCE := Lib.hid (fun wr (h : Rd wr p) => Check_any p e wr h hfew r hr)
  have HCX := Lib.hid (fun wr (h : Rd wr p) => Check_any p ⟨e.op, e.f, e.b, o.tob, o.other, o.pos, o.i⟩ wr h hfew r hrx)
  clear hr hrx
  have HRD0 := Lib.hid h
  have HN0 := Lib.hid hN
  clear h hN hfew
  obtain ⟨op, f, b, tob, other, pos, ⟨id, kind, dst, a, b2, c, f2, n, x0, x1, x2⟩⟩ := e
  obtain ⟨oop, of, ob, otob, oother, opos, ⟨oid, okind, odst, oa, ob2, oc, of2, on, ox0, ox1, ox2⟩⟩ := o
  unfold Pg.val at HFE HCE HCX
  unfold Ed.val at HCE HCX
  unfold Pg.val Ed.val
  dsimp only at *
  obtain ⟨PL, hPL⟩ : ∃ PL, p.funs.length = PL := ⟨_, rfl⟩
  simp only [hPL] at HFE  HCE HCX ⊢
  clear hPL
  have n0 : (op == 0) = false := beq_false_of_ne (by omega)
  have m0 : (op != 0) = true := by simp only [bne, n0, Bool.not_false]
  have n1 : (op == 1) = false := beq_false_of_ne (by omega)
  have m1 : (op != 1) = true := by simp only [bne, n1, Bool.not_false]
  have n2 : (op == 2) = false := beq_false_of_ne (by omega)
  have m2 : (op != 2) = true := by simp only [bne, n2, Bool.not_false]
  have n3 : (op == 3) = false := beq_false_of_ne (by omega)
  have m3 : (op != 3) = true := by simp only [bne, n3, Bool.not_false]
  have n4 : (op == 4) = false := beq_false_of_ne (by omega)
  have m4 : (op != 4) = true := by simp only [bne, n4, Bool.not_false]
  have n5 : (op == 5) = false := beq_false_of_ne (by omega)
  have m5 : (op != 5) = true := by simp only [bne, n5, Bool.not_false]
  have n6 : (op == 6) = false := beq_false_of_ne (by omega)
  have m6 : (op != 6) = true := by simp only [bne, n6, Bool.not_false]
  have n7 : (op == 7) = false := beq_false_of_ne (by omega)
  have m7 : (op != 7) = true := by simp only [bne, n7, Bool.not_false]
  clear hop
  have HBb := Lib.hid (below3 w (.cells #[.slice p.pa PL p.pc] 24) (.cells #[.int .i64 op, .int .i64 f, .int .i64 b, .int .i64 tob, .int .i64 other, .int .i64 pos, .int .i64 id, .int .i64 kind, .int .i64 dst, .int .i64 a, .int .i64 b2, .int .i64 c, .int .i64 f2, .int .i64 n, .int .i64 x0, .int .i64 x1, .int .i64 x2] 29) (.cells #[.int .i64 oop, .int .i64 of, .int .i64 ob, .int .i64 otob, .int .i64 oother, .int .i64 opos, .int .i64 oid, .int .i64 okind, .int .i64 odst, .int .i64 oa, .int .i64 ob2, .int .i64 oc, .int .i64 of2, .int .i64 on, .int .i64 ox0, .int .i64 ox1, .int .i64 ox2] 29))
  have hx0 := BoxL.new w [.slice p.pa PL p.pc] 24
  have HX0 := Lib.hid (show BoxL (((w.alloc (.cells #[.slice p.pa PL p.pc] 24)).alloc (.cells #[.int .i64 op, .int .i64 f, .int .i64 b, .int .i64 tob, .int .i64 other, .int .i64 pos, .int .i64 id, .int .i64 kind, .int .i64 dst, .int .i64 a, .int .i64 b2, .int .i64 c, .int .i64 f2, .int .i64 n, .int .i64 x0, .int .i64 x1, .int .i64 x2] 29)).alloc (.cells #[.int .i64 oop, .int .i64 of, .int .i64 ob, .int .i64 otob, .int .i64 oother, .int .i64 opos, .int .i64 oid, .int .i64 okind, .int .i64 odst, .int .i64 oa, .int .i64 ob2, .int .i64 oc, .int .i64 of2, .int .i64 on, .int .i64 ox0, .int .i64 ox1, .int .i64 ox2] 29)) (w.heap.size) [.slice p.pa PL p.pc] from ((hx0).alloc (Nat.zero_lt_succ _) (.cells #[.int .i64 op, .int .i64 f, .int .i64 b, .int .i64 tob, .int .i64 other, .int .i64 pos, .int .i64 id, .int .i64 kind, .int .i64 dst, .int .i64 a, .int .i64 b2, .int .i64 c, .int .i64 f2, .int .i64 n, .int .i64 x0, .int .i64 x1, .int .i64 x2] 29)).alloc (Nat.zero_lt_succ _) (.cells #[.int .i64 oop, .int .i64 of, .int .i64 ob, .int .i64 otob, .int .i64 oother, .int .i64 opos, .int .i64 oid, .int .i64 okind, .int .i64 odst, .int .i64 oa, .int .i64 ob2, .int .i64 oc, .int .i64 of2, .int .i64 on, .int .i64 ox0, .int .i64 ox1, .int .i64 ox2] 29))
  have hx1 := BoxL.new (w.alloc (.cells #[.slice p.pa PL p.pc] 24)) [.int .i64 op, .int .i64 f, .int .i64 b, .int .i64 tob, .int .i64 other, .int .i64 pos, .int .i64 id, .int .i64 kind, .int .i64 dst, .int .i64 a, .int .i64 b2, .int .i64 c, .int .i64 f2, .int .i64 n, .int .i64 x0, .int .i64 x1, .int .i64 x2] 29
  rw [World.size_alloc] at hx1
  have HX1 := Lib.hid (show BoxL (((w.alloc (.cells #[.slice p.pa PL p.pc] 24)).alloc (.cells #[.int .i64 op, .int .i64 f, .int .i64 b, .int .i64 tob, .int .i64 other, .int .i64 pos, .int .i64 id, .int .i64 kind, .int .i64 dst, .int .i64 a, .int .i64 b2, .int .i64 c, .int .i64 f2, .int .i64 n, .int .i64 x0, .int .i64 x1, .int .i64 x2] 29)).alloc (.cells #[.int .i64 oop, .int .i64 of, .int .i64 ob, .int .i64 otob, .int .i64 oother, .int .i64 opos, .int .i64 oid, .int .i64 okind, .int .i64 odst, .int .i64 oa, .int .i64 ob2, .int .i64 oc, .int .i64 of2, .int .i64 on, .int .i64 ox0, .int .i64 ox1, .int .i64 ox2] 29)) (w.heap.size + 1) [.int .i64 op, .int .i64 f, .int .i64 b, .int .i64 tob, .int .i64 other, .int .i64 pos, .int .i64 id, .int .i64 kind, .int .i64 dst, .int .i64 a, .int .i64 b2, .int .i64 c, .int .i64 f2, .int .i64 n, .int .i64 x0, .int .i64 x1, .int .i64 x2] from (hx1).alloc (Nat.zero_lt_succ _) (.cells #[.int .i64 oop, .int .i64 of, .int .i64 ob, .int .i64 otob, .int .i64 oother, .int .i64 opos, .int .i64 oid, .int .i64 okind, .int .i64 odst, .int .i64 oa, .int .i64 ob2, .int .i64 oc, .int .i64 of2, .int .i64 on, .int .i64 ox0, .int .i64 ox1, .int .i64 ox2] 29))
  have hx2 := BoxL.new ((w.alloc (.cells #[.slice p.pa PL p.pc] 24)).alloc (.cells #[.int .i64 op, .int .i64 f, .int .i64 b, .int .i64 tob, .int .i64 other, .int .i64 pos, .int .i64 id, .int .i64 kind, .int .i64 dst, .int .i64 a, .int .i64 b2, .int .i64 c, .int .i64 f2, .int .i64 n, .int .i64 x0, .int .i64 x1, .int .i64 x2] 29)) [.int .i64 oop, .int .i64 of, .int .i64 ob, .int .i64 otob, .int .i64 oother, .int .i64 opos, .int .i64 oid, .int .i64 okind, .int .i64 odst, .int .i64 oa, .int .i64 ob2, .int .i64 oc, .int .i64 of2, .int .i64 on, .int .i64 ox0, .int .i64 ox1, .int .i64 ox2] 29
  rw [World.size_alloc, World.size_alloc] at hx2
  have HX2 := Lib.hid (show BoxL (((w.alloc (.cells #[.slice p.pa PL p.pc] 24)).alloc (.cells #[.int .i64 op, .int .i64 f, .int .i64 b, .int .i64 tob, .int .i64 other, .int .i64 pos, .int .i64 id, .int .i64 kind, .int .i64 dst, .int .i64 a, .int .i64 b2, .int .i64 c, .int .i64 f2, .int .i64 n, .int .i64 x0, .int .i64 x1, .int .i64 x2] 29)).alloc (.cells #[.int .i64 oop, .int .i64 of, .int .i64 ob, .int .i64 otob, .int .i64 oother, .int .i64 opos, .int .i64 oid, .int .i64 okind, .int .i64 odst, .int .i64 oa, .int .i64 ob2, .int .i64 oc, .int .i64 of2, .int .i64 on, .int .i64 ox0, .int .i64 ox1, .int .i64 ox2] 29)) (w.heap.size + 1 + 1) [.int .i64 oop, .int .i64 of, .int .i64 ob, .int .i64 otob, .int .i64 oother, .int .i64 opos, .int .i64 oid, .int .i64 okind, .int .i64 odst, .int .i64 oa, .int .i64 ob2, .int .i64 oc, .int .i64 of2, .int .i64 on, .int .i64 ox0, .int .i64 ox1, .int .i64 ox2] from hx2)
  clear hx0 hx1 hx2
  have HRW := Lib.hid (HRD0.out.on HBb.out)
  have HNW := Lib.hid (HN0.out.on HBb.out)
  generalize hW : (((w.alloc (.cells #[.slice p.pa PL p.pc] 24)).alloc (.cells #[.int .i64 op, .int .i64 f, .int .i64 b, .int .i64 tob, .int .i64 other, .int .i64 pos, .int .i64 id, .int .i64 kind, .int .i64 dst, .int .i64 a, .int .i64 b2, .int .i64 c, .int .i64 f2, .int .i64 n, .int .i64 x0, .int .i64 x1, .int .i64 x2] 29)).alloc (.cells #[.int .i64 oop, .int .i64 of, .int .i64 ob, .int .i64 otob, .int .i64 oother, .int .i64 opos, .int .i64 oid, .int .i64 okind, .int .i64 odst, .int .i64 oa, .int .i64 ob2, .int .i64 oc, .int .i64 of2, .int .i64 on, .int .i64 ox0, .int .i64 ox1, .int .i64 ox2] 29)) = W at HBb HX0 HX1 HX2 HRW HNW
  obtain ⟨g, hg⟩ : ∃ g, w.heap.size = g := ⟨_, rfl⟩
  have HGL := Lib.hid HBb.out.size
  rw [hg] at HBb HGL HX0 HX1 HX2 ⊢
  have HL0 := Lib.hid (HX0.out.lt (Nat.zero_lt_succ _))
  have HL1 := Lib.hid (HX1.out.lt (Nat.zero_lt_succ _))
  have HL2 := Lib.hid (HX2.out.lt (Nat.zero_lt_succ _))
  have HC : Hid (∀ wr, Below W.heap.size W wr → wr.cell? ⟨g, 0, none⟩ = some (.slice p.pa PL p.pc)) := Lib.hid fun wr hb => ((HX0.out.below hb HL0.out) 0 _ rfl).1
  have HBN : Hid (Below W.heap.size W W) := Lib.hid (Below.refl _ _)
  have k0 := HC.out _ HBN.out
  have HRO : Hid (∀ wr, Below W.heap.size W wr → wr.rangeAt (g + 1 + 1) 0 [.int .i64 oop, .int .i64 of, .int .i64 ob, .int .i64 otob, .int .i64 oother, .int .i64 opos, .int .i64 oid, .int .i64 okind, .int .i64 odst, .int .i64 oa, .int .i64 ob2, .int .i64 oc, .int .i64 of2, .int .i64 on, .int .i64 ox0, .int .i64 ox1, .int .i64 ox2]) := Lib.hid fun wr hb => (HX2.out.below hb HL2.out).range
  go_enter Tryd.func3, Tryd.ntmps3
  go_wp2_with (first
    | (go_at_call 5; refine (HAW.out _ (HRW.out.on HBN.out) (HNW.out.on HBN.out)).mono ?_; rintro e wa ⟨rfl, hbn⟩; have hbx := HBN.out.trans (hbn.mono HBN.out.size); clear HBN hbn k0; have HBN := Lib.hid hbx; clear hbx; have k0 := HC.out _ HBN.out)
    | (go_at_call 6; refine (HFE.out _ (HRW.out.on HBN.out)).mono ?_; rintro e wb ⟨rfl, hbn⟩; have hbx := HBN.out.trans (hbn.mono HBN.out.size); clear HBN hbn k0; have HBN := Lib.hid hbx; clear hbx; have k0 := HC.out _ HBN.out; have q0 : ∀ cs, (wb.alloc (.cells cs 29)).cell? ⟨g + 1, 0, none⟩ = some (.int .i64 op) := fun cs => ((HX1.out.below (HBN.out.alloc HBN.out.size (.cells cs 29)) HL1.out) 0 _ rfl).1; have q1 : ∀ cs, (wb.alloc (.cells cs 29)).cell? ⟨g + 1, 1, none⟩ = some (.int .i64 f) := fun cs => ((HX1.out.below (HBN.out.alloc HBN.out.size (.cells cs 29)) HL1.out) 1 _ rfl).1; have q2 : ∀ cs, (wb.alloc (.cells cs 29)).cell? ⟨g + 1, 2, none⟩ = some (.int .i64 b) := fun cs => ((HX1.out.below (HBN.out.alloc HBN.out.size (.cells cs 29)) HL1.out) 2 _ rfl).1)
    | ((with_reducible apply wpList_load_w (ty := 29) (b := g + 1 + 1) (o := 0) (cs := [.int .i64 oop, .int .i64 of, .int .i64 ob, .int .i64 otob, .int .i64 oother, .int .i64 opos, .int .i64 oid, .int .i64 okind, .int .i64 odst, .int .i64 oa, .int .i64 ob2, .int .i64 oc, .int .i64 of2, .int .i64 on, .int .i64 ox0, .int .i64 ox1, .int .i64 ox2])); rotate_left; rfl; rfl; exact HRO.out _ HBN.out; exact Tryd.underlying29; rfl; kernel_rfl; rotate_left; rfl; simp only [Act.put, List.setIfInBounds_toArray, List.set_cons_zero, List.set_cons_succ])
    | ((with_reducible apply wpList_store_new (ty := 29) (c := #[.int .i64 0, .int .i64 0, .int .i64 0, .int .i64 0, .int .i64 0, .int .i64 0, .int .i64 0, .int .i64 0, .int .i64 0, .int .i64 0, .int .i64 0, .int .i64 0, .int .i64 0, .int .i64 0, .int .i64 0, .int .i64 0, .int .i64 0]) (c' := #[.int .i64 oop, .int .i64 of, .int .i64 ob, .int .i64 otob, .int .i64 oother, .int .i64 opos, .int .i64 oid, .int .i64 okind, .int .i64 odst, .int .i64 oa, .int .i64 ob2, .int .i64 oc, .int .i64 of2, .int .i64 on, .int .i64 ox0, .int .i64 ox1, .int .i64 ox2])); rfl; rfl; rfl; rfl; kernel_rfl; rfl; simp [Value.oneCell']; simp only [Act.put]))
  have HB2 := Lib.hid (HBN.out.alloc HBN.out.size (.cells #[.int .i64 op, .int .i64 f, .int .i64 b, .int .i64 otob, .int .i64 oother, .int .i64 opos, .int .i64 oid, .int .i64 okind, .int .i64 odst, .int .i64 oa, .int .i64 ob2, .int .i64 oc, .int .i64 of2, .int .i64 on, .int .i64 ox0, .int .i64 ox1, .int .i64 ox2] 29))
  have HXX := Lib.hid (show BoxL (wb.alloc (.cells #[.int .i64 op, .int .i64 f, .int .i64 b, .int .i64 otob, .int .i64 oother, .int .i64 opos, .int .i64 oid, .int .i64 okind, .int .i64 odst, .int .i64 oa, .int .i64 ob2, .int .i64 oc, .int .i64 of2, .int .i64 on, .int .i64 ox0, .int .i64 ox1, .int .i64 ox2] 29)) wb.heap.size [.int .i64 op, .int .i64 f, .int .i64 b, .int .i64 otob, .int .i64 oother, .int .i64 opos, .int .i64 oid, .int .i64 okind, .int .i64 odst, .int .i64 oa, .int .i64 ob2, .int .i64 oc, .int .i64 of2, .int .i64 on, .int .i64 ox0, .int .i64 ox1, .int .i64 ox2] from BoxL.new wb _ _)
  clear q0 q1 q2 k0 HBN
  generalize wb.alloc (.cells #[.int .i64 op, .int .i64 f, .int .i64 b, .int .i64 otob, .int .i64 oother, .int .i64 opos, .int .i64 oid, .int .i64 okind, .int .i64 odst, .int .i64 oa, .int .i64 ob2, .int .i64 oc, .int .i64 of2, .int .i64 on, .int .i64 ox0, .int .i64 ox1, .int .i64 ox2] 29) = W2 at *
  obtain ⟨gx, hgx⟩ : ∃ b, wb.heap.size = b := ⟨_, rfl⟩
  rw [hgx] at HXX ⊢
  clear hgx
  have HLX := Lib.hid (HXX.out.lt (Nat.zero_lt_succ _))
  have HF1 := Lib.hid (HBb.out.trans (HB2.out.mono HGL.out))
  have HG2 := Lib.hid (Nat.le_trans HGL.out HB2.out.size)
  have HRD2 := Lib.hid (HRW.out.on HB2.out)
  have HS : Hid (∀ w', Below W2.heap.size W2 w' → w'.cell? ⟨g, 0, none⟩ = some (.slice p.pa PL p.pc) ∧ w'.rangeAt (g + 1) 0 [.int .i64 op, .int .i64 f, .int .i64 b, .int .i64 tob, .int .i64 other, .int .i64 pos, .int .i64 id, .int .i64 kind, .int .i64 dst, .int .i64 a, .int .i64 b2, .int .i64 c, .int .i64 f2, .int .i64 n, .int .i64 x0, .int .i64 x1, .int .i64 x2] ∧ w'.rangeAt gx 0 [.int .i64 op, .int .i64 f, .int .i64 b, .int .i64 otob, .int .i64 oother, .int .i64 opos, .int .i64 oid, .int .i64 okind, .int .i64 odst, .int .i64 oa, .int .i64 ob2, .int .i64 oc, .int .i64 of2, .int .i64 on, .int .i64 ox0, .int .i64 ox1, .int .i64 ox2]) := Lib.hid fun w' hb => ⟨((HX0.out.below (HB2.out.trans (hb.mono HB2.out.size)) HL0.out) 0 _ rfl).1, (HX1.out.below (HB2.out.trans (hb.mono HB2.out.size)) HL1.out).range, (HXX.out.below hb HLX.out).range⟩
  have HBN : Hid (Below W2.heap.size W2 W2.drew) := Lib.hid (Below.refl _ _).drew
  clear HC HX0 HX1 HX2 HXX HFE HAW HN0 HNW
  refine wp_region_late (fun w' => w'.cell? ⟨g, 0, none⟩ = some (.slice p.pa PL p.pc) ∧ w'.rangeAt (g + 1) 0 [.int .i64 op, .int .i64 f, .int .i64 b, .int .i64 tob, .int .i64 other, .int .i64 pos, .int .i64 id, .int .i64 kind, .int .i64 dst, .int .i64 a, .int .i64 b2, .int .i64 c, .int .i64 f2, .int .i64 n, .int .i64 x0, .int .i64 x1, .int .i64 x2] ∧ w'.rangeAt gx 0 [.int .i64 op, .int .i64 f, .int .i64 b, .int .i64 otob, .int .i64 oother, .int .i64 opos, .int .i64 oid, .int .i64 okind, .int .i64 odst, .int .i64 oa, .int .i64 ob2, .int .i64 oc, .int .i64 of2, .int .i64 on, .int .i64 ox0, .int .i64 ox1, .int .i64 ox2]) 11 (by kernel_rfl) (HS.out _ HBN.out) (fun hHeld => ?_)
  refine wpAnyE_take (i := 0) (v := ?v0) rfl (by kernel_rfl) (fun _ _ _ h => h) hHeld (by rfl) ?y0 ?_
  case y0 => (intro w' hSw; (try dsimp only at hSw); go_simp <;> with_reducible rfl)
  refine wpAnyE_take (i := 1) (v := ?v1) rfl (by kernel_rfl) (fun _ _ _ h => h) hHeld (by rfl) ?y1 ?_
  case y1 => (intro w' hSw; (try dsimp only at hSw); go_simp <;> with_reducible rfl)
  refine wpAnyE_take (i := 2) (v := ?v2) rfl (by kernel_rfl) (fun _ _ _ h => h) hHeld (by rfl) ?y2 ?_
  case y2 => (intro w' hSw; (try dsimp only at hSw); go_simp <;> with_reducible rfl)
  refine wpAnyE_takeY (i := 3) rfl (by kernel_rfl) (fun _ _ _ h => h) hHeld (yieldsIf_load_mid (by rfl) 29 _ rfl gx 0 rfl [.int .i64 op, .int .i64 f, .int .i64 b, .int .i64 otob, .int .i64 oother, .int .i64 opos, .int .i64 oid, .int .i64 okind, .int .i64 odst, .int .i64 oa, .int .i64 ob2, .int .i64 oc, .int .i64 of2, .int .i64 on, .int .i64 ox0, .int .i64 ox1, .int .i64 ox2] _ (fun w h => h.2.2) Tryd.underlying29 rfl (by kernel_rfl)) ?_
  refine wpAnyE_take (i := 5) (v := ?v5) rfl (by kernel_rfl) (fun _ _ _ h => h) hHeld (by rfl) ?y5 ?_
  case y5 => (intro w' hSw; (try dsimp only at hSw); go_simp <;> with_reducible rfl)
  refine wpAnyE_takeY (i := 6) rfl (by kernel_rfl) (fun _ _ _ h => h) hHeld (yieldsIf_load_mid (by rfl) 29 _ rfl (g + 1) 0 rfl [.int .i64 op, .int .i64 f, .int .i64 b, .int .i64 tob, .int .i64 other, .int .i64 pos, .int .i64 id, .int .i64 kind, .int .i64 dst, .int .i64 a, .int .i64 b2, .int .i64 c, .int .i64 f2, .int .i64 n, .int .i64 x0, .int .i64 x1, .int .i64 x2] _ (fun w h => h.2.1) Tryd.underlying29 rfl (by kernel_rfl)) ?_
  refine wpAnyE_one (i := 4) (by kernel_rfl) rfl (fun K hK => ?_)
  go_simp
  go_at_call 7
  refine (HCX.out _ (HRD2.out.on HBN.out)).mono ?_
  rintro e wn ⟨rfl, hbn⟩
  have hbx := HBN.out.trans (hbn.mono HBN.out.size)
  clear HBN hbn
  have HBN := Lib.hid hbx
  clear hbx
  refine hK.out _ _ ?_ (fun hHeld => ?_)
  · exact HS.out _ HBN.out
  clear hK K
  refine wpAnyE_one (i := 7) (by kernel_rfl) rfl (fun K hK => ?_)
  go_simp
  go_at_call 7
  refine (HCE.out _ (HRD2.out.on HBN.out)).mono ?_
  rintro e wn ⟨rfl, hbn⟩
  have hbx := HBN.out.trans (hbn.mono HBN.out.size)
  clear HBN hbn
  have HBN := Lib.hid hbx
  clear hbx
  refine hK.out _ _ ?_ (fun hHeld => ?_)
  · exact HS.out _ HBN.out
  clear hK K
  refine wpAnyE_take (i := 8) (v := ?v8) rfl (by kernel_rfl) (fun _ _ _ h => h) hHeld (by rfl) ?y8 ?_
  case y8 => (intro w' hSw; (try dsimp only at hSw); go_simp <;> with_reducible rfl)
  refine wpAnyE_take (i := 9) (v := ?v9) rfl (by kernel_rfl) (fun _ _ _ h => h) hHeld (by rfl) ?y9 ?_
  case y9 => (intro w' hSw; (try dsimp only at hSw); go_simp <;> with_reducible rfl)
  refine wpAnyE_take (i := 10) (v := ?v10) rfl (by kernel_rfl) (fun _ _ _ h => h) hHeld (by rfl) ?y10 ?_
  case y10 => (intro w' hSw; (try dsimp only at hSw); go_simp <;> with_reducible rfl)
  refine wpAnyE_tail 11 (by decide) rfl (by kernel_rfl) ?_
  simp only [List.drop_succ_cons, List.drop_zero]
  go_wp2_with fail
  go_ret
  first
    | exact ⟨rfl, HF1.out.trans (HBN.out.mono HG2.out)⟩
    | exact ⟨ret_bool (by simp), HF1.out.trans (HBN.out.mono HG2.out)⟩

end Go.Proofs.YtpegkllhomjocaaDoor
