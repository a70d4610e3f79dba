/- EditUnread: whatever the parts of an edit are that its Op does not name, the same is wrong with it. Conditions: none but the row's own (the tables that it names, tied to the program's text). -/
import Derived.Test.YtpegkllhomjocaaDoorRBaseQ
import Derived.Test.YtpegkllhomjocaaDoorEdE2
import Derived.Test.YtpegkllhomjocaaDoorEdN
import Derived.Test.YtpegkllhomjocaaDoorLate
import Derived.Test.YtpegkllhomjocaaDoorEdUp
import Derived.Test.YtpegkllhomjocaaDoorEdU2
import Derived.Test.YtpegkllhomjocaaDoorEdU3
namespace Go.Proofs.YtpegkllhomjocaaDoor
open Go Go.RowKit Go.Sort

set_option maxRecDepth 100000 in
set_option maxHeartbeats 16000000 in
theorem unreadN (p : Pg) (e o : Ed) (w : World) (h : Rd w p) (hN : NTab w) (hfew : ¬ p.few) :
    Calls Tryd.prog 3 #[p.val, e.val, o.val] w fun x w' => x = .returned (.bool true) ∧ Below w.heap.size w w' := by
  have HAW := Lib.hid (fun wr (h : Rd wr p) (hN : NTab wr) => awake7_any wr h.2.1 h.2.2 hN)
  have HFE := Lib.hid (fun wr (h : Rd wr p) => Few_any p wr h.1 false (by simp [hfew]))
  have HRD0 := Lib.hid h
  have HN0 := Lib.hid hN
  clear h hN hfew
  obtain ⟨op, f, b, tob, other, pos, ⟨id, kind, dst, a, b2, c, f2, n, x0, x1, x2⟩⟩ := e
  obtain ⟨oop, of, ob, otob, oother, opos, ⟨oid, okind, odst, oa, ob2, oc, of2, on, ox0, ox1, ox2⟩⟩ := o
  unfold Pg.val at HFE
  unfold Pg.val Ed.val
  dsimp only at *
  obtain ⟨PL, hPL⟩ : ∃ PL, p.funs.length = PL := ⟨_, rfl⟩
  simp only [hPL] at HFE ⊢
  clear hPL
  have HBb := Lib.hid (below3 w (.cells #[.slice p.pa PL p.pc] 24) (.cells #[.int .i64 op, .int .i64 f, .int .i64 b, .int .i64 tob, .int .i64 other, .int .i64 pos, .int .i64 id, .int .i64 kind, .int .i64 dst, .int .i64 a, .int .i64 b2, .int .i64 c, .int .i64 f2, .int .i64 n, .int .i64 x0, .int .i64 x1, .int .i64 x2] 29) (.cells #[.int .i64 oop, .int .i64 of, .int .i64 ob, .int .i64 otob, .int .i64 oother, .int .i64 opos, .int .i64 oid, .int .i64 okind, .int .i64 odst, .int .i64 oa, .int .i64 ob2, .int .i64 oc, .int .i64 of2, .int .i64 on, .int .i64 ox0, .int .i64 ox1, .int .i64 ox2] 29))
  have hx0 := BoxL.new w [.slice p.pa PL p.pc] 24
  have HX0 := Lib.hid (show BoxL (((w.alloc (.cells #[.slice p.pa PL p.pc] 24)).alloc (.cells #[.int .i64 op, .int .i64 f, .int .i64 b, .int .i64 tob, .int .i64 other, .int .i64 pos, .int .i64 id, .int .i64 kind, .int .i64 dst, .int .i64 a, .int .i64 b2, .int .i64 c, .int .i64 f2, .int .i64 n, .int .i64 x0, .int .i64 x1, .int .i64 x2] 29)).alloc (.cells #[.int .i64 oop, .int .i64 of, .int .i64 ob, .int .i64 otob, .int .i64 oother, .int .i64 opos, .int .i64 oid, .int .i64 okind, .int .i64 odst, .int .i64 oa, .int .i64 ob2, .int .i64 oc, .int .i64 of2, .int .i64 on, .int .i64 ox0, .int .i64 ox1, .int .i64 ox2] 29)) (w.heap.size) [.slice p.pa PL p.pc] from ((hx0).alloc (Nat.zero_lt_succ _) (.cells #[.int .i64 op, .int .i64 f, .int .i64 b, .int .i64 tob, .int .i64 other, .int .i64 pos, .int .i64 id, .int .i64 kind, .int .i64 dst, .int .i64 a, .int .i64 b2, .int .i64 c, .int .i64 f2, .int .i64 n, .int .i64 x0, .int .i64 x1, .int .i64 x2] 29)).alloc (Nat.zero_lt_succ _) (.cells #[.int .i64 oop, .int .i64 of, .int .i64 ob, .int .i64 otob, .int .i64 oother, .int .i64 opos, .int .i64 oid, .int .i64 okind, .int .i64 odst, .int .i64 oa, .int .i64 ob2, .int .i64 oc, .int .i64 of2, .int .i64 on, .int .i64 ox0, .int .i64 ox1, .int .i64 ox2] 29))
  have hx1 := BoxL.new (w.alloc (.cells #[.slice p.pa PL p.pc] 24)) [.int .i64 op, .int .i64 f, .int .i64 b, .int .i64 tob, .int .i64 other, .int .i64 pos, .int .i64 id, .int .i64 kind, .int .i64 dst, .int .i64 a, .int .i64 b2, .int .i64 c, .int .i64 f2, .int .i64 n, .int .i64 x0, .int .i64 x1, .int .i64 x2] 29
  rw [World.size_alloc] at hx1
  have HX1 := Lib.hid (show BoxL (((w.alloc (.cells #[.slice p.pa PL p.pc] 24)).alloc (.cells #[.int .i64 op, .int .i64 f, .int .i64 b, .int .i64 tob, .int .i64 other, .int .i64 pos, .int .i64 id, .int .i64 kind, .int .i64 dst, .int .i64 a, .int .i64 b2, .int .i64 c, .int .i64 f2, .int .i64 n, .int .i64 x0, .int .i64 x1, .int .i64 x2] 29)).alloc (.cells #[.int .i64 oop, .int .i64 of, .int .i64 ob, .int .i64 otob, .int .i64 oother, .int .i64 opos, .int .i64 oid, .int .i64 okind, .int .i64 odst, .int .i64 oa, .int .i64 ob2, .int .i64 oc, .int .i64 of2, .int .i64 on, .int .i64 ox0, .int .i64 ox1, .int .i64 ox2] 29)) (w.heap.size + 1) [.int .i64 op, .int .i64 f, .int .i64 b, .int .i64 tob, .int .i64 other, .int .i64 pos, .int .i64 id, .int .i64 kind, .int .i64 dst, .int .i64 a, .int .i64 b2, .int .i64 c, .int .i64 f2, .int .i64 n, .int .i64 x0, .int .i64 x1, .int .i64 x2] from (hx1).alloc (Nat.zero_lt_succ _) (.cells #[.int .i64 oop, .int .i64 of, .int .i64 ob, .int .i64 otob, .int .i64 oother, .int .i64 opos, .int .i64 oid, .int .i64 okind, .int .i64 odst, .int .i64 oa, .int .i64 ob2, .int .i64 oc, .int .i64 of2, .int .i64 on, .int .i64 ox0, .int .i64 ox1, .int .i64 ox2] 29))
  have hx2 := BoxL.new ((w.alloc (.cells #[.slice p.pa PL p.pc] 24)).alloc (.cells #[.int .i64 op, .int .i64 f, .int .i64 b, .int .i64 tob, .int .i64 other, .int .i64 pos, .int .i64 id, .int .i64 kind, .int .i64 dst, .int .i64 a, .int .i64 b2, .int .i64 c, .int .i64 f2, .int .i64 n, .int .i64 x0, .int .i64 x1, .int .i64 x2] 29)) [.int .i64 oop, .int .i64 of, .int .i64 ob, .int .i64 otob, .int .i64 oother, .int .i64 opos, .int .i64 oid, .int .i64 okind, .int .i64 odst, .int .i64 oa, .int .i64 ob2, .int .i64 oc, .int .i64 of2, .int .i64 on, .int .i64 ox0, .int .i64 ox1, .int .i64 ox2] 29
  rw [World.size_alloc, World.size_alloc] at hx2
  have HX2 := Lib.hid (show BoxL (((w.alloc (.cells #[.slice p.pa PL p.pc] 24)).alloc (.cells #[.int .i64 op, .int .i64 f, .int .i64 b, .int .i64 tob, .int .i64 other, .int .i64 pos, .int .i64 id, .int .i64 kind, .int .i64 dst, .int .i64 a, .int .i64 b2, .int .i64 c, .int .i64 f2, .int .i64 n, .int .i64 x0, .int .i64 x1, .int .i64 x2] 29)).alloc (.cells #[.int .i64 oop, .int .i64 of, .int .i64 ob, .int .i64 otob, .int .i64 oother, .int .i64 opos, .int .i64 oid, .int .i64 okind, .int .i64 odst, .int .i64 oa, .int .i64 ob2, .int .i64 oc, .int .i64 of2, .int .i64 on, .int .i64 ox0, .int .i64 ox1, .int .i64 ox2] 29)) (w.heap.size + 1 + 1) [.int .i64 oop, .int .i64 of, .int .i64 ob, .int .i64 otob, .int .i64 oother, .int .i64 opos, .int .i64 oid, .int .i64 okind, .int .i64 odst, .int .i64 oa, .int .i64 ob2, .int .i64 oc, .int .i64 of2, .int .i64 on, .int .i64 ox0, .int .i64 ox1, .int .i64 ox2] from hx2)
  clear hx0 hx1 hx2
  have HRW := Lib.hid (HRD0.out.on HBb.out)
  have HNW := Lib.hid (HN0.out.on HBb.out)
  generalize hW : (((w.alloc (.cells #[.slice p.pa PL p.pc] 24)).alloc (.cells #[.int .i64 op, .int .i64 f, .int .i64 b, .int .i64 tob, .int .i64 other, .int .i64 pos, .int .i64 id, .int .i64 kind, .int .i64 dst, .int .i64 a, .int .i64 b2, .int .i64 c, .int .i64 f2, .int .i64 n, .int .i64 x0, .int .i64 x1, .int .i64 x2] 29)).alloc (.cells #[.int .i64 oop, .int .i64 of, .int .i64 ob, .int .i64 otob, .int .i64 oother, .int .i64 opos, .int .i64 oid, .int .i64 okind, .int .i64 odst, .int .i64 oa, .int .i64 ob2, .int .i64 oc, .int .i64 of2, .int .i64 on, .int .i64 ox0, .int .i64 ox1, .int .i64 ox2] 29)) = W at HBb HX0 HX1 HX2 HRW HNW
  obtain ⟨g, hg⟩ : ∃ g, w.heap.size = g := ⟨_, rfl⟩
  have HGL := Lib.hid HBb.out.size
  rw [hg] at HBb HGL HX0 HX1 HX2 ⊢
  have HL0 := Lib.hid (HX0.out.lt (Nat.zero_lt_succ _))
  have HL1 := Lib.hid (HX1.out.lt (Nat.zero_lt_succ _))
  have HL2 := Lib.hid (HX2.out.lt (Nat.zero_lt_succ _))
  have HC : Hid (∀ wr, Below W.heap.size W wr → wr.cell? ⟨g, 0, none⟩ = some (.slice p.pa PL p.pc)) := Lib.hid fun wr hb => ((HX0.out.below hb HL0.out) 0 _ rfl).1
  have HBN : Hid (Below W.heap.size W W) := Lib.hid (Below.refl _ _)
  have k0 := HC.out _ HBN.out
  go_enter Tryd.func3, Tryd.ntmps3
  go_wp2_with (first
    | (go_at_call 5; refine (HAW.out _ (HRW.out.on HBN.out) (HNW.out.on HBN.out)).mono ?_; rintro e wa ⟨rfl, hbn⟩; have hbx := HBN.out.trans (hbn.mono HBN.out.size); clear HBN hbn k0; have HBN := Lib.hid hbx; clear hbx; have k0 := HC.out _ HBN.out)
    | (go_at_call 6; refine (HFE.out _ (HRW.out.on HBN.out)).mono ?_; rintro e wb ⟨rfl, hbn⟩; have hbx := HBN.out.trans (hbn.mono HBN.out.size); clear HBN hbn k0; have HBN := Lib.hid hbx; clear hbx; have k0 := HC.out _ HBN.out))
  go_ret
  exact ⟨rfl, HBb.out.trans (HBN.out.mono HGL.out)⟩

set_option maxRecDepth 100000 in
set_option maxHeartbeats 16000000 in
theorem unread0 (p : Pg) (e o : Ed) (w : World) (h : Rd w p) (hN : NTab w) (hfew : p.few) (hop : e.op = 0) :
    Calls Tryd.prog 3 #[p.val, e.val, o.val] w fun x w' => x = .returned (.bool true) ∧ Below w.heap.size w w' := by
  have HAW := Lib.hid (fun wr (h : Rd wr p) (hN : NTab wr) => awake7_any wr h.2.1 h.2.2 hN)
  have HFE := Lib.hid (fun wr (h : Rd wr p) => Few_any p wr h.1 true (by simp [hfew]))
  obtain ⟨r, hr⟩ : ∃ r, chk p e = r := ⟨_, rfl⟩
  have hrx : chk p ⟨e.op, o.f, e.b, e.tob, o.other, o.pos, o.i⟩ = r := (chk_unread p e ⟨e.op, o.f, e.b, e.tob, o.other, o.pos, o.i⟩ rfl (fun h => absurd h (by omega)) (fun _ => rfl) (fun _ => rfl) (fun h => absurd h (by omega)) (fun h => absurd h (by omega)) (fun h => absurd h (by omega))).trans hr
  have HCE := Lib.hid (fun wr (h : Rd wr p) => Check_any p e wr h hfew r hr)
  have HCX := Lib.hid (fun wr (h : Rd wr p) => Check_any p ⟨e.op, o.f, e.b, e.tob, o.other, o.pos, o.i⟩ wr h hfew r hrx)
  clear hr hrx
  have HRD0 := Lib.hid h
  have HN0 := Lib.hid hN
  clear h hN hfew
  obtain ⟨op, f, b, tob, other, pos, ⟨id, kind, dst, a, b2, c, f2, n, x0, x1, x2⟩⟩ := e
  obtain ⟨oop, of, ob, otob, oother, opos, ⟨oid, okind, odst, oa, ob2, oc, of2, on, ox0, ox1, ox2⟩⟩ := o
  unfold Pg.val at HFE HCE HCX
  unfold Ed.val at HCE HCX
  unfold Pg.val Ed.val
  dsimp only at *
  subst hop
  obtain ⟨PL, hPL⟩ : ∃ PL, p.funs.length = PL := ⟨_, rfl⟩
  simp only [hPL] at HFE  HCE HCX ⊢
  clear hPL
  have HBb := Lib.hid (below3 w (.cells #[.slice p.pa PL p.pc] 24) (.cells #[.int .i64 0, .int .i64 f, .int .i64 b, .int .i64 tob, .int .i64 other, .int .i64 pos, .int .i64 id, .int .i64 kind, .int .i64 dst, .int .i64 a, .int .i64 b2, .int .i64 c, .int .i64 f2, .int .i64 n, .int .i64 x0, .int .i64 x1, .int .i64 x2] 29) (.cells #[.int .i64 oop, .int .i64 of, .int .i64 ob, .int .i64 otob, .int .i64 oother, .int .i64 opos, .int .i64 oid, .int .i64 okind, .int .i64 odst, .int .i64 oa, .int .i64 ob2, .int .i64 oc, .int .i64 of2, .int .i64 on, .int .i64 ox0, .int .i64 ox1, .int .i64 ox2] 29))
  have hx0 := BoxL.new w [.slice p.pa PL p.pc] 24
  have HX0 := Lib.hid (show BoxL (((w.alloc (.cells #[.slice p.pa PL p.pc] 24)).alloc (.cells #[.int .i64 0, .int .i64 f, .int .i64 b, .int .i64 tob, .int .i64 other, .int .i64 pos, .int .i64 id, .int .i64 kind, .int .i64 dst, .int .i64 a, .int .i64 b2, .int .i64 c, .int .i64 f2, .int .i64 n, .int .i64 x0, .int .i64 x1, .int .i64 x2] 29)).alloc (.cells #[.int .i64 oop, .int .i64 of, .int .i64 ob, .int .i64 otob, .int .i64 oother, .int .i64 opos, .int .i64 oid, .int .i64 okind, .int .i64 odst, .int .i64 oa, .int .i64 ob2, .int .i64 oc, .int .i64 of2, .int .i64 on, .int .i64 ox0, .int .i64 ox1, .int .i64 ox2] 29)) (w.heap.size) [.slice p.pa PL p.pc] from ((hx0).alloc (Nat.zero_lt_succ _) (.cells #[.int .i64 0, .int .i64 f, .int .i64 b, .int .i64 tob, .int .i64 other, .int .i64 pos, .int .i64 id, .int .i64 kind, .int .i64 dst, .int .i64 a, .int .i64 b2, .int .i64 c, .int .i64 f2, .int .i64 n, .int .i64 x0, .int .i64 x1, .int .i64 x2] 29)).alloc (Nat.zero_lt_succ _) (.cells #[.int .i64 oop, .int .i64 of, .int .i64 ob, .int .i64 otob, .int .i64 oother, .int .i64 opos, .int .i64 oid, .int .i64 okind, .int .i64 odst, .int .i64 oa, .int .i64 ob2, .int .i64 oc, .int .i64 of2, .int .i64 on, .int .i64 ox0, .int .i64 ox1, .int .i64 ox2] 29))
  have hx1 := BoxL.new (w.alloc (.cells #[.slice p.pa PL p.pc] 24)) [.int .i64 0, .int .i64 f, .int .i64 b, .int .i64 tob, .int .i64 other, .int .i64 pos, .int .i64 id, .int .i64 kind, .int .i64 dst, .int .i64 a, .int .i64 b2, .int .i64 c, .int .i64 f2, .int .i64 n, .int .i64 x0, .int .i64 x1, .int .i64 x2] 29
  rw [World.size_alloc] at hx1
  have HX1 := Lib.hid (show BoxL (((w.alloc (.cells #[.slice p.pa PL p.pc] 24)).alloc (.cells #[.int .i64 0, .int .i64 f, .int .i64 b, .int .i64 tob, .int .i64 other, .int .i64 pos, .int .i64 id, .int .i64 kind, .int .i64 dst, .int .i64 a, .int .i64 b2, .int .i64 c, .int .i64 f2, .int .i64 n, .int .i64 x0, .int .i64 x1, .int .i64 x2] 29)).alloc (.cells #[.int .i64 oop, .int .i64 of, .int .i64 ob, .int .i64 otob, .int .i64 oother, .int .i64 opos, .int .i64 oid, .int .i64 okind, .int .i64 odst, .int .i64 oa, .int .i64 ob2, .int .i64 oc, .int .i64 of2, .int .i64 on, .int .i64 ox0, .int .i64 ox1, .int .i64 ox2] 29)) (w.heap.size + 1) [.int .i64 0, .int .i64 f, .int .i64 b, .int .i64 tob, .int .i64 other, .int .i64 pos, .int .i64 id, .int .i64 kind, .int .i64 dst, .int .i64 a, .int .i64 b2, .int .i64 c, .int .i64 f2, .int .i64 n, .int .i64 x0, .int .i64 x1, .int .i64 x2] from (hx1).alloc (Nat.zero_lt_succ _) (.cells #[.int .i64 oop, .int .i64 of, .int .i64 ob, .int .i64 otob, .int .i64 oother, .int .i64 opos, .int .i64 oid, .int .i64 okind, .int .i64 odst, .int .i64 oa, .int .i64 ob2, .int .i64 oc, .int .i64 of2, .int .i64 on, .int .i64 ox0, .int .i64 ox1, .int .i64 ox2] 29))
  have hx2 := BoxL.new ((w.alloc (.cells #[.slice p.pa PL p.pc] 24)).alloc (.cells #[.int .i64 0, .int .i64 f, .int .i64 b, .int .i64 tob, .int .i64 other, .int .i64 pos, .int .i64 id, .int .i64 kind, .int .i64 dst, .int .i64 a, .int .i64 b2, .int .i64 c, .int .i64 f2, .int .i64 n, .int .i64 x0, .int .i64 x1, .int .i64 x2] 29)) [.int .i64 oop, .int .i64 of, .int .i64 ob, .int .i64 otob, .int .i64 oother, .int .i64 opos, .int .i64 oid, .int .i64 okind, .int .i64 odst, .int .i64 oa, .int .i64 ob2, .int .i64 oc, .int .i64 of2, .int .i64 on, .int .i64 ox0, .int .i64 ox1, .int .i64 ox2] 29
  rw [World.size_alloc, World.size_alloc] at hx2
  have HX2 := Lib.hid (show BoxL (((w.alloc (.cells #[.slice p.pa PL p.pc] 24)).alloc (.cells #[.int .i64 0, .int .i64 f, .int .i64 b, .int .i64 tob, .int .i64 other, .int .i64 pos, .int .i64 id, .int .i64 kind, .int .i64 dst, .int .i64 a, .int .i64 b2, .int .i64 c, .int .i64 f2, .int .i64 n, .int .i64 x0, .int .i64 x1, .int .i64 x2] 29)).alloc (.cells #[.int .i64 oop, .int .i64 of, .int .i64 ob, .int .i64 otob, .int .i64 oother, .int .i64 opos, .int .i64 oid, .int .i64 okind, .int .i64 odst, .int .i64 oa, .int .i64 ob2, .int .i64 oc, .int .i64 of2, .int .i64 on, .int .i64 ox0, .int .i64 ox1, .int .i64 ox2] 29)) (w.heap.size + 1 + 1) [.int .i64 oop, .int .i64 of, .int .i64 ob, .int .i64 otob, .int .i64 oother, .int .i64 opos, .int .i64 oid, .int .i64 okind, .int .i64 odst, .int .i64 oa, .int .i64 ob2, .int .i64 oc, .int .i64 of2, .int .i64 on, .int .i64 ox0, .int .i64 ox1, .int .i64 ox2] from hx2)
  clear hx0 hx1 hx2
  have HRW := Lib.hid (HRD0.out.on HBb.out)
  have HNW := Lib.hid (HN0.out.on HBb.out)
  generalize hW : (((w.alloc (.cells #[.slice p.pa PL p.pc] 24)).alloc (.cells #[.int .i64 0, .int .i64 f, .int .i64 b, .int .i64 tob, .int .i64 other, .int .i64 pos, .int .i64 id, .int .i64 kind, .int .i64 dst, .int .i64 a, .int .i64 b2, .int .i64 c, .int .i64 f2, .int .i64 n, .int .i64 x0, .int .i64 x1, .int .i64 x2] 29)).alloc (.cells #[.int .i64 oop, .int .i64 of, .int .i64 ob, .int .i64 otob, .int .i64 oother, .int .i64 opos, .int .i64 oid, .int .i64 okind, .int .i64 odst, .int .i64 oa, .int .i64 ob2, .int .i64 oc, .int .i64 of2, .int .i64 on, .int .i64 ox0, .int .i64 ox1, .int .i64 ox2] 29)) = W at HBb HX0 HX1 HX2 HRW HNW
  obtain ⟨g, hg⟩ : ∃ g, w.heap.size = g := ⟨_, rfl⟩
  have HGL := Lib.hid HBb.out.size
  rw [hg] at HBb HGL HX0 HX1 HX2 ⊢
  have HL0 := Lib.hid (HX0.out.lt (Nat.zero_lt_succ _))
  have HL1 := Lib.hid (HX1.out.lt (Nat.zero_lt_succ _))
  have HL2 := Lib.hid (HX2.out.lt (Nat.zero_lt_succ _))
  have HC : Hid (∀ wr, Below W.heap.size W wr → wr.cell? ⟨g, 0, none⟩ = some (.slice p.pa PL p.pc)) := Lib.hid fun wr hb => ((HX0.out.below hb HL0.out) 0 _ rfl).1
  have HBN : Hid (Below W.heap.size W W) := Lib.hid (Below.refl _ _)
  have k0 := HC.out _ HBN.out
  have HRO : Hid (∀ wr, Below W.heap.size W wr → wr.rangeAt (g + 1 + 1) 0 [.int .i64 oop, .int .i64 of, .int .i64 ob, .int .i64 otob, .int .i64 oother, .int .i64 opos, .int .i64 oid, .int .i64 okind, .int .i64 odst, .int .i64 oa, .int .i64 ob2, .int .i64 oc, .int .i64 of2, .int .i64 on, .int .i64 ox0, .int .i64 ox1, .int .i64 ox2]) := Lib.hid fun wr hb => (HX2.out.below hb HL2.out).range
  go_enter Tryd.func3, Tryd.ntmps3
  go_wp2_with (first
    | (go_at_call 5; refine (HAW.out _ (HRW.out.on HBN.out) (HNW.out.on HBN.out)).mono ?_; rintro e wa ⟨rfl, hbn⟩; have hbx := HBN.out.trans (hbn.mono HBN.out.size); clear HBN hbn k0; have HBN := Lib.hid hbx; clear hbx; have k0 := HC.out _ HBN.out)
    | (go_at_call 6; refine (HFE.out _ (HRW.out.on HBN.out)).mono ?_; rintro e wb ⟨rfl, hbn⟩; have hbx := HBN.out.trans (hbn.mono HBN.out.size); clear HBN hbn k0; have HBN := Lib.hid hbx; clear hbx; have k0 := HC.out _ HBN.out; have q0 : ∀ cs, (wb.alloc (.cells cs 29)).cell? ⟨g + 1, 0, none⟩ = some (.int .i64 0) := fun cs => ((HX1.out.below (HBN.out.alloc HBN.out.size (.cells cs 29)) HL1.out) 0 _ rfl).1; have q2 : ∀ cs, (wb.alloc (.cells cs 29)).cell? ⟨g + 1, 2, none⟩ = some (.int .i64 b) := fun cs => ((HX1.out.below (HBN.out.alloc HBN.out.size (.cells cs 29)) HL1.out) 2 _ rfl).1; have q3 : ∀ cs, (wb.alloc (.cells cs 29)).cell? ⟨g + 1, 3, none⟩ = some (.int .i64 tob) := fun cs => ((HX1.out.below (HBN.out.alloc HBN.out.size (.cells cs 29)) HL1.out) 3 _ rfl).1)
    | ((with_reducible apply wpList_load_w (ty := 29) (b := g + 1 + 1) (o := 0) (cs := [.int .i64 oop, .int .i64 of, .int .i64 ob, .int .i64 otob, .int .i64 oother, .int .i64 opos, .int .i64 oid, .int .i64 okind, .int .i64 odst, .int .i64 oa, .int .i64 ob2, .int .i64 oc, .int .i64 of2, .int .i64 on, .int .i64 ox0, .int .i64 ox1, .int .i64 ox2])); rotate_left; rfl; rfl; exact HRO.out _ HBN.out; exact Tryd.underlying29; rfl; kernel_rfl; rotate_left; rfl; simp only [Act.put, List.setIfInBounds_toArray, List.set_cons_zero, List.set_cons_succ])
    | ((with_reducible apply wpList_store_new (ty := 29) (c := #[.int .i64 0, .int .i64 0, .int .i64 0, .int .i64 0, .int .i64 0, .int .i64 0, .int .i64 0, .int .i64 0, .int .i64 0, .int .i64 0, .int .i64 0, .int .i64 0, .int .i64 0, .int .i64 0, .int .i64 0, .int .i64 0, .int .i64 0]) (c' := #[.int .i64 oop, .int .i64 of, .int .i64 ob, .int .i64 otob, .int .i64 oother, .int .i64 opos, .int .i64 oid, .int .i64 okind, .int .i64 odst, .int .i64 oa, .int .i64 ob2, .int .i64 oc, .int .i64 of2, .int .i64 on, .int .i64 ox0, .int .i64 ox1, .int .i64 ox2])); rfl; rfl; rfl; rfl; kernel_rfl; rfl; simp [Value.oneCell']; simp only [Act.put]))
  have HB2 := Lib.hid (HBN.out.alloc HBN.out.size (.cells #[.int .i64 0, .int .i64 of, .int .i64 b, .int .i64 tob, .int .i64 oother, .int .i64 opos, .int .i64 oid, .int .i64 okind, .int .i64 odst, .int .i64 oa, .int .i64 ob2, .int .i64 oc, .int .i64 of2, .int .i64 on, .int .i64 ox0, .int .i64 ox1, .int .i64 ox2] 29))
  have HXX := Lib.hid (show BoxL (wb.alloc (.cells #[.int .i64 0, .int .i64 of, .int .i64 b, .int .i64 tob, .int .i64 oother, .int .i64 opos, .int .i64 oid, .int .i64 okind, .int .i64 odst, .int .i64 oa, .int .i64 ob2, .int .i64 oc, .int .i64 of2, .int .i64 on, .int .i64 ox0, .int .i64 ox1, .int .i64 ox2] 29)) wb.heap.size [.int .i64 0, .int .i64 of, .int .i64 b, .int .i64 tob, .int .i64 oother, .int .i64 opos, .int .i64 oid, .int .i64 okind, .int .i64 odst, .int .i64 oa, .int .i64 ob2, .int .i64 oc, .int .i64 of2, .int .i64 on, .int .i64 ox0, .int .i64 ox1, .int .i64 ox2] from BoxL.new wb _ _)
  clear q0 q2 q3 k0 HBN
  generalize wb.alloc (.cells #[.int .i64 0, .int .i64 of, .int .i64 b, .int .i64 tob, .int .i64 oother, .int .i64 opos, .int .i64 oid, .int .i64 okind, .int .i64 odst, .int .i64 oa, .int .i64 ob2, .int .i64 oc, .int .i64 of2, .int .i64 on, .int .i64 ox0, .int .i64 ox1, .int .i64 ox2] 29) = W2 at *
  obtain ⟨gx, hgx⟩ : ∃ b, wb.heap.size = b := ⟨_, rfl⟩
  rw [hgx] at HXX ⊢
  clear hgx
  have HLX := Lib.hid (HXX.out.lt (Nat.zero_lt_succ _))
  have HF1 := Lib.hid (HBb.out.trans (HB2.out.mono HGL.out))
  have HG2 := Lib.hid (Nat.le_trans HGL.out HB2.out.size)
  have HRD2 := Lib.hid (HRW.out.on HB2.out)
  have HS : Hid (∀ w', Below W2.heap.size W2 w' → w'.cell? ⟨g, 0, none⟩ = some (.slice p.pa PL p.pc) ∧ w'.rangeAt (g + 1) 0 [.int .i64 0, .int .i64 f, .int .i64 b, .int .i64 tob, .int .i64 other, .int .i64 pos, .int .i64 id, .int .i64 kind, .int .i64 dst, .int .i64 a, .int .i64 b2, .int .i64 c, .int .i64 f2, .int .i64 n, .int .i64 x0, .int .i64 x1, .int .i64 x2] ∧ w'.rangeAt gx 0 [.int .i64 0, .int .i64 of, .int .i64 b, .int .i64 tob, .int .i64 oother, .int .i64 opos, .int .i64 oid, .int .i64 okind, .int .i64 odst, .int .i64 oa, .int .i64 ob2, .int .i64 oc, .int .i64 of2, .int .i64 on, .int .i64 ox0, .int .i64 ox1, .int .i64 ox2]) := Lib.hid fun w' hb => ⟨((HX0.out.below (HB2.out.trans (hb.mono HB2.out.size)) HL0.out) 0 _ rfl).1, (HX1.out.below (HB2.out.trans (hb.mono HB2.out.size)) HL1.out).range, (HXX.out.below hb HLX.out).range⟩
  have HBN : Hid (Below W2.heap.size W2 W2.drew) := Lib.hid (Below.refl _ _).drew
  clear HC HX0 HX1 HX2 HXX HFE HAW HN0 HNW
  refine wp_region_late (fun w' => w'.cell? ⟨g, 0, none⟩ = some (.slice p.pa PL p.pc) ∧ w'.rangeAt (g + 1) 0 [.int .i64 0, .int .i64 f, .int .i64 b, .int .i64 tob, .int .i64 other, .int .i64 pos, .int .i64 id, .int .i64 kind, .int .i64 dst, .int .i64 a, .int .i64 b2, .int .i64 c, .int .i64 f2, .int .i64 n, .int .i64 x0, .int .i64 x1, .int .i64 x2] ∧ w'.rangeAt gx 0 [.int .i64 0, .int .i64 of, .int .i64 b, .int .i64 tob, .int .i64 oother, .int .i64 opos, .int .i64 oid, .int .i64 okind, .int .i64 odst, .int .i64 oa, .int .i64 ob2, .int .i64 oc, .int .i64 of2, .int .i64 on, .int .i64 ox0, .int .i64 ox1, .int .i64 ox2]) 11 (by kernel_rfl) (HS.out _ HBN.out) (fun hHeld => ?_)
  refine wpAnyE_take (i := 0) (v := ?v0) rfl (by kernel_rfl) (fun _ _ _ h => h) hHeld (by rfl) ?y0 ?_
  case y0 => (intro w' hSw; (try dsimp only at hSw); go_simp <;> with_reducible rfl)
  refine wpAnyE_take (i := 1) (v := ?v1) rfl (by kernel_rfl) (fun _ _ _ h => h) hHeld (by rfl) ?y1 ?_
  case y1 => (intro w' hSw; (try dsimp only at hSw); go_simp <;> with_reducible rfl)
  refine wpAnyE_take (i := 2) (v := ?v2) rfl (by kernel_rfl) (fun _ _ _ h => h) hHeld (by rfl) ?y2 ?_
  case y2 => (intro w' hSw; (try dsimp only at hSw); go_simp <;> with_reducible rfl)
  refine wpAnyE_takeY (i := 3) rfl (by kernel_rfl) (fun _ _ _ h => h) hHeld (yieldsIf_load_mid (by rfl) 29 _ rfl gx 0 rfl [.int .i64 0, .int .i64 of, .int .i64 b, .int .i64 tob, .int .i64 oother, .int .i64 opos, .int .i64 oid, .int .i64 okind, .int .i64 odst, .int .i64 oa, .int .i64 ob2, .int .i64 oc, .int .i64 of2, .int .i64 on, .int .i64 ox0, .int .i64 ox1, .int .i64 ox2] _ (fun w h => h.2.2) Tryd.underlying29 rfl (by kernel_rfl)) ?_
  refine wpAnyE_take (i := 5) (v := ?v5) rfl (by kernel_rfl) (fun _ _ _ h => h) hHeld (by rfl) ?y5 ?_
  case y5 => (intro w' hSw; (try dsimp only at hSw); go_simp <;> with_reducible rfl)
  refine wpAnyE_takeY (i := 6) rfl (by kernel_rfl) (fun _ _ _ h => h) hHeld (yieldsIf_load_mid (by rfl) 29 _ rfl (g + 1) 0 rfl [.int .i64 0, .int .i64 f, .int .i64 b, .int .i64 tob, .int .i64 other, .int .i64 pos, .int .i64 id, .int .i64 kind, .int .i64 dst, .int .i64 a, .int .i64 b2, .int .i64 c, .int .i64 f2, .int .i64 n, .int .i64 x0, .int .i64 x1, .int .i64 x2] _ (fun w h => h.2.1) Tryd.underlying29 rfl (by kernel_rfl)) ?_
  refine wpAnyE_one (i := 4) (by kernel_rfl) rfl (fun K hK => ?_)
  go_simp
  go_at_call 7
  refine (HCX.out _ (HRD2.out.on HBN.out)).mono ?_
  rintro e wn ⟨rfl, hbn⟩
  have hbx := HBN.out.trans (hbn.mono HBN.out.size)
  clear HBN hbn
  have HBN := Lib.hid hbx
  clear hbx
  refine hK.out _ _ ?_ (fun hHeld => ?_)
  · exact HS.out _ HBN.out
  clear hK K
  refine wpAnyE_one (i := 7) (by kernel_rfl) rfl (fun K hK => ?_)
  go_simp
  go_at_call 7
  refine (HCE.out _ (HRD2.out.on HBN.out)).mono ?_
  rintro e wn ⟨rfl, hbn⟩
  have hbx := HBN.out.trans (hbn.mono HBN.out.size)
  clear HBN hbn
  have HBN := Lib.hid hbx
  clear hbx
  refine hK.out _ _ ?_ (fun hHeld => ?_)
  · exact HS.out _ HBN.out
  clear hK K
  refine wpAnyE_take (i := 8) (v := ?v8) rfl (by kernel_rfl) (fun _ _ _ h => h) hHeld (by rfl) ?y8 ?_
  case y8 => (intro w' hSw; (try dsimp only at hSw); go_simp <;> with_reducible rfl)
  refine wpAnyE_take (i := 9) (v := ?v9) rfl (by kernel_rfl) (fun _ _ _ h => h) hHeld (by rfl) ?y9 ?_
  case y9 => (intro w' hSw; (try dsimp only at hSw); go_simp <;> with_reducible rfl)
  refine wpAnyE_take (i := 10) (v := ?v10) rfl (by kernel_rfl) (fun _ _ _ h => h) hHeld (by rfl) ?y10 ?_
  case y10 => (intro w' hSw; (try dsimp only at hSw); go_simp <;> with_reducible rfl)
  refine wpAnyE_tail 11 (by decide) rfl (by kernel_rfl) ?_
  simp only [List.drop_succ_cons, List.drop_zero]
  go_wp2_with fail
  go_ret
  first
    | exact ⟨rfl, HF1.out.trans (HBN.out.mono HG2.out)⟩
    | exact ⟨ret_bool (by simp), HF1.out.trans (HBN.out.mono HG2.out)⟩

set_option maxRecDepth 100000 in
set_option maxHeartbeats 16000000 in
theorem unread1 (p : Pg) (e o : Ed) (w : World) (h : Rd w p) (hN : NTab w) (hfew : p.few) (hop : e.op = 1) :
    Calls Tryd.prog 3 #[p.val, e.val, o.val] w fun x w' => x = .returned (.bool true) ∧ Below w.heap.size w w' := by
  have HAW := Lib.hid (fun wr (h : Rd wr p) (hN : NTab wr) => awake7_any wr h.2.1 h.2.2 hN)
  have HFE := Lib.hid (fun wr (h : Rd wr p) => Few_any p wr h.1 true (by simp [hfew]))
  obtain ⟨r, hr⟩ : ∃ r, chk p e = r := ⟨_, rfl⟩
  have hrx : chk p ⟨e.op, e.f, o.b, o.tob, o.other, o.pos, o.i⟩ = r := (chk_unread p e ⟨e.op, e.f, o.b, o.tob, o.other, o.pos, o.i⟩ rfl (fun _ => rfl) (fun h => absurd h (by omega)) (fun h => absurd h (by omega)) (fun h => absurd h (by omega)) (fun h => absurd h (by omega)) (fun h => absurd h (by omega))).trans hr
  have HCE := Lib.hid (fun wr (h : Rd wr p) => Check_any p e wr h hfew r hr)
  have HCX := Lib.hid (fun wr (h : Rd wr p) => Check_any p ⟨e.op, e.f, o.b, o.tob, o.other, o.pos, o.i⟩ wr h hfew r hrx)
  clear hr hrx
  have HRD0 := Lib.hid h
  have HN0 := Lib.hid hN
  clear h hN hfew
  obtain ⟨op, f, b, tob, other, pos, ⟨id, kind, dst, a, b2, c, f2, n, x0, x1, x2⟩⟩ := e
  obtain ⟨oop, of, ob, otob, oother, opos, ⟨oid, okind, odst, oa, ob2, oc, of2, on, ox0, ox1, ox2⟩⟩ := o
  unfold Pg.val at HFE HCE HCX
  unfold Ed.val at HCE HCX
  unfold Pg.val Ed.val
  dsimp only at *
  subst hop
  obtain ⟨PL, hPL⟩ : ∃ PL, p.funs.length = PL := ⟨_, rfl⟩
  simp only [hPL] at HFE  HCE HCX ⊢
  clear hPL
  have HBb := Lib.hid (below3 w (.cells #[.slice p.pa PL p.pc] 24) (.cells #[.int .i64 1, .int .i64 f, .int .i64 b, .int .i64 tob, .int .i64 other, .int .i64 pos, .int .i64 id, .int .i64 kind, .int .i64 dst, .int .i64 a, .int .i64 b2, .int .i64 c, .int .i64 f2, .int .i64 n, .int .i64 x0, .int .i64 x1, .int .i64 x2] 29) (.cells #[.int .i64 oop, .int .i64 of, .int .i64 ob, .int .i64 otob, .int .i64 oother, .int .i64 opos, .int .i64 oid, .int .i64 okind, .int .i64 odst, .int .i64 oa, .int .i64 ob2, .int .i64 oc, .int .i64 of2, .int .i64 on, .int .i64 ox0, .int .i64 ox1, .int .i64 ox2] 29))
  have hx0 := BoxL.new w [.slice p.pa PL p.pc] 24
  have HX0 := Lib.hid (show BoxL (((w.alloc (.cells #[.slice p.pa PL p.pc] 24)).alloc (.cells #[.int .i64 1, .int .i64 f, .int .i64 b, .int .i64 tob, .int .i64 other, .int .i64 pos, .int .i64 id, .int .i64 kind, .int .i64 dst, .int .i64 a, .int .i64 b2, .int .i64 c, .int .i64 f2, .int .i64 n, .int .i64 x0, .int .i64 x1, .int .i64 x2] 29)).alloc (.cells #[.int .i64 oop, .int .i64 of, .int .i64 ob, .int .i64 otob, .int .i64 oother, .int .i64 opos, .int .i64 oid, .int .i64 okind, .int .i64 odst, .int .i64 oa, .int .i64 ob2, .int .i64 oc, .int .i64 of2, .int .i64 on, .int .i64 ox0, .int .i64 ox1, .int .i64 ox2] 29)) (w.heap.size) [.slice p.pa PL p.pc] from ((hx0).alloc (Nat.zero_lt_succ _) (.cells #[.int .i64 1, .int .i64 f, .int .i64 b, .int .i64 tob, .int .i64 other, .int .i64 pos, .int .i64 id, .int .i64 kind, .int .i64 dst, .int .i64 a, .int .i64 b2, .int .i64 c, .int .i64 f2, .int .i64 n, .int .i64 x0, .int .i64 x1, .int .i64 x2] 29)).alloc (Nat.zero_lt_succ _) (.cells #[.int .i64 oop, .int .i64 of, .int .i64 ob, .int .i64 otob, .int .i64 oother, .int .i64 opos, .int .i64 oid, .int .i64 okind, .int .i64 odst, .int .i64 oa, .int .i64 ob2, .int .i64 oc, .int .i64 of2, .int .i64 on, .int .i64 ox0, .int .i64 ox1, .int .i64 ox2] 29))
  have hx1 := BoxL.new (w.alloc (.cells #[.slice p.pa PL p.pc] 24)) [.int .i64 1, .int .i64 f, .int .i64 b, .int .i64 tob, .int .i64 other, .int .i64 pos, .int .i64 id, .int .i64 kind, .int .i64 dst, .int .i64 a, .int .i64 b2, .int .i64 c, .int .i64 f2, .int .i64 n, .int .i64 x0, .int .i64 x1, .int .i64 x2] 29
  rw [World.size_alloc] at hx1
  have HX1 := Lib.hid (show BoxL (((w.alloc (.cells #[.slice p.pa PL p.pc] 24)).alloc (.cells #[.int .i64 1, .int .i64 f, .int .i64 b, .int .i64 tob, .int .i64 other, .int .i64 pos, .int .i64 id, .int .i64 kind, .int .i64 dst, .int .i64 a, .int .i64 b2, .int .i64 c, .int .i64 f2, .int .i64 n, .int .i64 x0, .int .i64 x1, .int .i64 x2] 29)).alloc (.cells #[.int .i64 oop, .int .i64 of, .int .i64 ob, .int .i64 otob, .int .i64 oother, .int .i64 opos, .int .i64 oid, .int .i64 okind, .int .i64 odst, .int .i64 oa, .int .i64 ob2, .int .i64 oc, .int .i64 of2, .int .i64 on, .int .i64 ox0, .int .i64 ox1, .int .i64 ox2] 29)) (w.heap.size + 1) [.int .i64 1, .int .i64 f, .int .i64 b, .int .i64 tob, .int .i64 other, .int .i64 pos, .int .i64 id, .int .i64 kind, .int .i64 dst, .int .i64 a, .int .i64 b2, .int .i64 c, .int .i64 f2, .int .i64 n, .int .i64 x0, .int .i64 x1, .int .i64 x2] from (hx1).alloc (Nat.zero_lt_succ _) (.cells #[.int .i64 oop, .int .i64 of, .int .i64 ob, .int .i64 otob, .int .i64 oother, .int .i64 opos, .int .i64 oid, .int .i64 okind, .int .i64 odst, .int .i64 oa, .int .i64 ob2, .int .i64 oc, .int .i64 of2, .int .i64 on, .int .i64 ox0, .int .i64 ox1, .int .i64 ox2] 29))
  have hx2 := BoxL.new ((w.alloc (.cells #[.slice p.pa PL p.pc] 24)).alloc (.cells #[.int .i64 1, .int .i64 f, .int .i64 b, .int .i64 tob, .int .i64 other, .int .i64 pos, .int .i64 id, .int .i64 kind, .int .i64 dst, .int .i64 a, .int .i64 b2, .int .i64 c, .int .i64 f2, .int .i64 n, .int .i64 x0, .int .i64 x1, .int .i64 x2] 29)) [.int .i64 oop, .int .i64 of, .int .i64 ob, .int .i64 otob, .int .i64 oother, .int .i64 opos, .int .i64 oid, .int .i64 okind, .int .i64 odst, .int .i64 oa, .int .i64 ob2, .int .i64 oc, .int .i64 of2, .int .i64 on, .int .i64 ox0, .int .i64 ox1, .int .i64 ox2] 29
  rw [World.size_alloc, World.size_alloc] at hx2
  have HX2 := Lib.hid (show BoxL (((w.alloc (.cells #[.slice p.pa PL p.pc] 24)).alloc (.cells #[.int .i64 1, .int .i64 f, .int .i64 b, .int .i64 tob, .int .i64 other, .int .i64 pos, .int .i64 id, .int .i64 kind, .int .i64 dst, .int .i64 a, .int .i64 b2, .int .i64 c, .int .i64 f2, .int .i64 n, .int .i64 x0, .int .i64 x1, .int .i64 x2] 29)).alloc (.cells #[.int .i64 oop, .int .i64 of, .int .i64 ob, .int .i64 otob, .int .i64 oother, .int .i64 opos, .int .i64 oid, .int .i64 okind, .int .i64 odst, .int .i64 oa, .int .i64 ob2, .int .i64 oc, .int .i64 of2, .int .i64 on, .int .i64 ox0, .int .i64 ox1, .int .i64 ox2] 29)) (w.heap.size + 1 + 1) [.int .i64 oop, .int .i64 of, .int .i64 ob, .int .i64 otob, .int .i64 oother, .int .i64 opos, .int .i64 oid, .int .i64 okind, .int .i64 odst, .int .i64 oa, .int .i64 ob2, .int .i64 oc, .int .i64 of2, .int .i64 on, .int .i64 ox0, .int .i64 ox1, .int .i64 ox2] from hx2)
  clear hx0 hx1 hx2
  have HRW := Lib.hid (HRD0.out.on HBb.out)
  have HNW := Lib.hid (HN0.out.on HBb.out)
  generalize hW : (((w.alloc (.cells #[.slice p.pa PL p.pc] 24)).alloc (.cells #[.int .i64 1, .int .i64 f, .int .i64 b, .int .i64 tob, .int .i64 other, .int .i64 pos, .int .i64 id, .int .i64 kind, .int .i64 dst, .int .i64 a, .int .i64 b2, .int .i64 c, .int .i64 f2, .int .i64 n, .int .i64 x0, .int .i64 x1, .int .i64 x2] 29)).alloc (.cells #[.int .i64 oop, .int .i64 of, .int .i64 ob, .int .i64 otob, .int .i64 oother, .int .i64 opos, .int .i64 oid, .int .i64 okind, .int .i64 odst, .int .i64 oa, .int .i64 ob2, .int .i64 oc, .int .i64 of2, .int .i64 on, .int .i64 ox0, .int .i64 ox1, .int .i64 ox2] 29)) = W at HBb HX0 HX1 HX2 HRW HNW
  obtain ⟨g, hg⟩ : ∃ g, w.heap.size = g := ⟨_, rfl⟩
  have HGL := Lib.hid HBb.out.size
  rw [hg] at HBb HGL HX0 HX1 HX2 ⊢
  have HL0 := Lib.hid (HX0.out.lt (Nat.zero_lt_succ _))
  have HL1 := Lib.hid (HX1.out.lt (Nat.zero_lt_succ _))
  have HL2 := Lib.hid (HX2.out.lt (Nat.zero_lt_succ _))
  have HC : Hid (∀ wr, Below W.heap.size W wr → wr.cell? ⟨g, 0, none⟩ = some (.slice p.pa PL p.pc)) := Lib.hid fun wr hb => ((HX0.out.below hb HL0.out) 0 _ rfl).1
  have HBN : Hid (Below W.heap.size W W) := Lib.hid (Below.refl _ _)
  have k0 := HC.out _ HBN.out
  have HRO : Hid (∀ wr, Below W.heap.size W wr → wr.rangeAt (g + 1 + 1) 0 [.int .i64 oop, .int .i64 of, .int .i64 ob, .int .i64 otob, .int .i64 oother, .int .i64 opos, .int .i64 oid, .int .i64 okind, .int .i64 odst, .int .i64 oa, .int .i64 ob2, .int .i64 oc, .int .i64 of2, .int .i64 on, .int .i64 ox0, .int .i64 ox1, .int .i64 ox2]) := Lib.hid fun wr hb => (HX2.out.below hb HL2.out).range
  go_enter Tryd.func3, Tryd.ntmps3
  go_wp2_with (first
    | (go_at_call 5; refine (HAW.out _ (HRW.out.on HBN.out) (HNW.out.on HBN.out)).mono ?_; rintro e wa ⟨rfl, hbn⟩; have hbx := HBN.out.trans (hbn.mono HBN.out.size); clear HBN hbn k0; have HBN := Lib.hid hbx; clear hbx; have k0 := HC.out _ HBN.out)
    | (go_at_call 6; refine (HFE.out _ (HRW.out.on HBN.out)).mono ?_; rintro e wb ⟨rfl, hbn⟩; have hbx := HBN.out.trans (hbn.mono HBN.out.size); clear HBN hbn k0; have HBN := Lib.hid hbx; clear hbx; have k0 := HC.out _ HBN.out; have q0 : ∀ cs, (wb.alloc (.cells cs 29)).cell? ⟨g + 1, 0, none⟩ = some (.int .i64 1) := fun cs => ((HX1.out.below (HBN.out.alloc HBN.out.size (.cells cs 29)) HL1.out) 0 _ rfl).1; have q1 : ∀ cs, (wb.alloc (.cells cs 29)).cell? ⟨g + 1, 1, none⟩ = some (.int .i64 f) := fun cs => ((HX1.out.below (HBN.out.alloc HBN.out.size (.cells cs 29)) HL1.out) 1 _ rfl).1)
    | ((with_reducible apply wpList_load_w (ty := 29) (b := g + 1 + 1) (o := 0) (cs := [.int .i64 oop, .int .i64 of, .int .i64 ob, .int .i64 otob, .int .i64 oother, .int .i64 opos, .int .i64 oid, .int .i64 okind, .int .i64 odst, .int .i64 oa, .int .i64 ob2, .int .i64 oc, .int .i64 of2, .int .i64 on, .int .i64 ox0, .int .i64 ox1, .int .i64 ox2])); rotate_left; rfl; rfl; exact HRO.out _ HBN.out; exact Tryd.underlying29; rfl; kernel_rfl; rotate_left; rfl; simp only [Act.put, List.setIfInBounds_toArray, List.set_cons_zero, List.set_cons_succ])
    | ((with_reducible apply wpList_store_new (ty := 29) (c := #[.int .i64 0, .int .i64 0, .int .i64 0, .int .i64 0, .int .i64 0, .int .i64 0, .int .i64 0, .int .i64 0, .int .i64 0, .int .i64 0, .int .i64 0, .int .i64 0, .int .i64 0, .int .i64 0, .int .i64 0, .int .i64 0, .int .i64 0]) (c' := #[.int .i64 oop, .int .i64 of, .int .i64 ob, .int .i64 otob, .int .i64 oother, .int .i64 opos, .int .i64 oid, .int .i64 okind, .int .i64 odst, .int .i64 oa, .int .i64 ob2, .int .i64 oc, .int .i64 of2, .int .i64 on, .int .i64 ox0, .int .i64 ox1, .int .i64 ox2])); rfl; rfl; rfl; rfl; kernel_rfl; rfl; simp [Value.oneCell']; simp only [Act.put]))
  have HB2 := Lib.hid (HBN.out.alloc HBN.out.size (.cells #[.int .i64 1, .int .i64 f, .int .i64 ob, .int .i64 otob, .int .i64 oother, .int .i64 opos, .int .i64 oid, .int .i64 okind, .int .i64 odst, .int .i64 oa, .int .i64 ob2, .int .i64 oc, .int .i64 of2, .int .i64 on, .int .i64 ox0, .int .i64 ox1, .int .i64 ox2] 29))
  have HXX := Lib.hid (show BoxL (wb.alloc (.cells #[.int .i64 1, .int .i64 f, .int .i64 ob, .int .i64 otob, .int .i64 oother, .int .i64 opos, .int .i64 oid, .int .i64 okind, .int .i64 odst, .int .i64 oa, .int .i64 ob2, .int .i64 oc, .int .i64 of2, .int .i64 on, .int .i64 ox0, .int .i64 ox1, .int .i64 ox2] 29)) wb.heap.size [.int .i64 1, .int .i64 f, .int .i64 ob, .int .i64 otob, .int .i64 oother, .int .i64 opos, .int .i64 oid, .int .i64 okind, .int .i64 odst, .int .i64 oa, .int .i64 ob2, .int .i64 oc, .int .i64 of2, .int .i64 on, .int .i64 ox0, .int .i64 ox1, .int .i64 ox2] from BoxL.new wb _ _)
  clear q0 q1 k0 HBN
  generalize wb.alloc (.cells #[.int .i64 1, .int .i64 f, .int .i64 ob, .int .i64 otob, .int .i64 oother, .int .i64 opos, .int .i64 oid, .int .i64 okind, .int .i64 odst, .int .i64 oa, .int .i64 ob2, .int .i64 oc, .int .i64 of2, .int .i64 on, .int .i64 ox0, .int .i64 ox1, .int .i64 ox2] 29) = W2 at *
  obtain ⟨gx, hgx⟩ : ∃ b, wb.heap.size = b := ⟨_, rfl⟩
  rw [hgx] at HXX ⊢
  clear hgx
  have HLX := Lib.hid (HXX.out.lt (Nat.zero_lt_succ _))
  have HF1 := Lib.hid (HBb.out.trans (HB2.out.mono HGL.out))
  have HG2 := Lib.hid (Nat.le_trans HGL.out HB2.out.size)
  have HRD2 := Lib.hid (HRW.out.on HB2.out)
  have HS : Hid (∀ w', Below W2.heap.size W2 w' → w'.cell? ⟨g, 0, none⟩ = some (.slice p.pa PL p.pc) ∧ w'.rangeAt (g + 1) 0 [.int .i64 1, .int .i64 f, .int .i64 b, .int .i64 tob, .int .i64 other, .int .i64 pos, .int .i64 id, .int .i64 kind, .int .i64 dst, .int .i64 a, .int .i64 b2, .int .i64 c, .int .i64 f2, .int .i64 n, .int .i64 x0, .int .i64 x1, .int .i64 x2] ∧ w'.rangeAt gx 0 [.int .i64 1, .int .i64 f, .int .i64 ob, .int .i64 otob, .int .i64 oother, .int .i64 opos, .int .i64 oid, .int .i64 okind, .int .i64 odst, .int .i64 oa, .int .i64 ob2, .int .i64 oc, .int .i64 of2, .int .i64 on, .int .i64 ox0, .int .i64 ox1, .int .i64 ox2]) := Lib.hid fun w' hb => ⟨((HX0.out.below (HB2.out.trans (hb.mono HB2.out.size)) HL0.out) 0 _ rfl).1, (HX1.out.below (HB2.out.trans (hb.mono HB2.out.size)) HL1.out).range, (HXX.out.below hb HLX.out).range⟩
  have HBN : Hid (Below W2.heap.size W2 W2.drew) := Lib.hid (Below.refl _ _).drew
  clear HC HX0 HX1 HX2 HXX HFE HAW HN0 HNW
  refine wp_region_late (fun w' => w'.cell? ⟨g, 0, none⟩ = some (.slice p.pa PL p.pc) ∧ w'.rangeAt (g + 1) 0 [.int .i64 1, .int .i64 f, .int .i64 b, .int .i64 tob, .int .i64 other, .int .i64 pos, .int .i64 id, .int .i64 kind, .int .i64 dst, .int .i64 a, .int .i64 b2, .int .i64 c, .int .i64 f2, .int .i64 n, .int .i64 x0, .int .i64 x1, .int .i64 x2] ∧ w'.rangeAt gx 0 [.int .i64 1, .int .i64 f, .int .i64 ob, .int .i64 otob, .int .i64 oother, .int .i64 opos, .int .i64 oid, .int .i64 okind, .int .i64 odst, .int .i64 oa, .int .i64 ob2, .int .i64 oc, .int .i64 of2, .int .i64 on, .int .i64 ox0, .int .i64 ox1, .int .i64 ox2]) 11 (by kernel_rfl) (HS.out _ HBN.out) (fun hHeld => ?_)
  refine wpAnyE_take (i := 0) (v := ?v0) rfl (by kernel_rfl) (fun _ _ _ h => h) hHeld (by rfl) ?y0 ?_
  case y0 => (intro w' hSw; (try dsimp only at hSw); go_simp <;> with_reducible rfl)
  refine wpAnyE_take (i := 1) (v := ?v1) rfl (by kernel_rfl) (fun _ _ _ h => h) hHeld (by rfl) ?y1 ?_
  case y1 => (intro w' hSw; (try dsimp only at hSw); go_simp <;> with_reducible rfl)
  refine wpAnyE_take (i := 2) (v := ?v2) rfl (by kernel_rfl) (fun _ _ _ h => h) hHeld (by rfl) ?y2 ?_
  case y2 => (intro w' hSw; (try dsimp only at hSw); go_simp <;> with_reducible rfl)
  refine wpAnyE_takeY (i := 3) rfl (by kernel_rfl) (fun _ _ _ h => h) hHeld (yieldsIf_load_mid (by rfl) 29 _ rfl gx 0 rfl [.int .i64 1, .int .i64 f, .int .i64 ob, .int .i64 otob, .int .i64 oother, .int .i64 opos, .int .i64 oid, .int .i64 okind, .int .i64 odst, .int .i64 oa, .int .i64 ob2, .int .i64 oc, .int .i64 of2, .int .i64 on, .int .i64 ox0, .int .i64 ox1, .int .i64 ox2] _ (fun w h => h.2.2) Tryd.underlying29 rfl (by kernel_rfl)) ?_
  refine wpAnyE_take (i := 5) (v := ?v5) rfl (by kernel_rfl) (fun _ _ _ h => h) hHeld (by rfl) ?y5 ?_
  case y5 => (intro w' hSw; (try dsimp only at hSw); go_simp <;> with_reducible rfl)
  refine wpAnyE_takeY (i := 6) rfl (by kernel_rfl) (fun _ _ _ h => h) hHeld (yieldsIf_load_mid (by rfl) 29 _ rfl (g + 1) 0 rfl [.int .i64 1, .int .i64 f, .int .i64 b, .int .i64 tob, .int .i64 other, .int .i64 pos, .int .i64 id, .int .i64 kind, .int .i64 dst, .int .i64 a, .int .i64 b2, .int .i64 c, .int .i64 f2, .int .i64 n, .int .i64 x0, .int .i64 x1, .int .i64 x2] _ (fun w h => h.2.1) Tryd.underlying29 rfl (by kernel_rfl)) ?_
  refine wpAnyE_one (i := 4) (by kernel_rfl) rfl (fun K hK => ?_)
  go_simp
  go_at_call 7
  refine (HCX.out _ (HRD2.out.on HBN.out)).mono ?_
  rintro e wn ⟨rfl, hbn⟩
  have hbx := HBN.out.trans (hbn.mono HBN.out.size)
  clear HBN hbn
  have HBN := Lib.hid hbx
  clear hbx
  refine hK.out _ _ ?_ (fun hHeld => ?_)
  · exact HS.out _ HBN.out
  clear hK K
  refine wpAnyE_one (i := 7) (by kernel_rfl) rfl (fun K hK => ?_)
  go_simp
  go_at_call 7
  refine (HCE.out _ (HRD2.out.on HBN.out)).mono ?_
  rintro e wn ⟨rfl, hbn⟩
  have hbx := HBN.out.trans (hbn.mono HBN.out.size)
  clear HBN hbn
  have HBN := Lib.hid hbx
  clear hbx
  refine hK.out _ _ ?_ (fun hHeld => ?_)
  · exact HS.out _ HBN.out
  clear hK K
  refine wpAnyE_take (i := 8) (v := ?v8) rfl (by kernel_rfl) (fun _ _ _ h => h) hHeld (by rfl) ?y8 ?_
  case y8 => (intro w' hSw; (try dsimp only at hSw); go_simp <;> with_reducible rfl)
  refine wpAnyE_take (i := 9) (v := ?v9) rfl (by kernel_rfl) (fun _ _ _ h => h) hHeld (by rfl) ?y9 ?_
  case y9 => (intro w' hSw; (try dsimp only at hSw); go_simp <;> with_reducible rfl)
  refine wpAnyE_take (i := 10) (v := ?v10) rfl (by kernel_rfl) (fun _ _ _ h => h) hHeld (by rfl) ?y10 ?_
  case y10 => (intro w' hSw; (try dsimp only at hSw); go_simp <;> with_reducible rfl)
  refine wpAnyE_tail 11 (by decide) rfl (by kernel_rfl) ?_
  simp only [List.drop_succ_cons, List.drop_zero]
  go_wp2_with fail
  go_ret
  first
    | exact ⟨rfl, HF1.out.trans (HBN.out.mono HG2.out)⟩
    | exact ⟨ret_bool (by simp), HF1.out.trans (HBN.out.mono HG2.out)⟩

set_option maxRecDepth 100000 in
set_option maxHeartbeats 16000000 in
theorem unread2 (p : Pg) (e o : Ed) (w : World) (h : Rd w p) (hN : NTab w) (hfew : p.few) (hop : e.op = 2) :
    Calls Tryd.prog 3 #[p.val, e.val, o.val] w fun x w' => x = .returned (.bool true) ∧ Below w.heap.size w w' := by
  have HAW := Lib.hid (fun wr (h : Rd wr p) (hN : NTab wr) => awake7_any wr h.2.1 h.2.2 hN)
  have HFE := Lib.hid (fun wr (h : Rd wr p) => Few_any p wr h.1 true (by simp [hfew]))
  obtain ⟨r, hr⟩ : ∃ r, chk p e = r := ⟨_, rfl⟩
  have hrx : chk p ⟨e.op, e.f, e.b, o.tob, o.other, o.pos, o.i⟩ = r := (chk_unread p e ⟨e.op, e.f, e.b, o.tob, o.other, o.pos, o.i⟩ rfl (fun _ => rfl) (fun _ => rfl) (fun h => absurd h (by omega)) (fun h => absurd h (by omega)) (fun h => absurd h (by omega)) (fun h => absurd h (by omega))).trans hr
  have HCE := Lib.hid (fun wr (h : Rd wr p) => Check_any p e wr h hfew r hr)
  have HCX := Lib.hid (fun wr (h : Rd wr p) => Check_any p ⟨e.op, e.f, e.b, o.tob, o.other, o.pos, o.i⟩ wr h hfew r hrx)
  clear hr hrx
  have HRD0 := Lib.hid h
  have HN0 := Lib.hid hN
  clear h hN hfew
  obtain ⟨op, f, b, tob, other, pos, ⟨id, kind, dst, a, b2, c, f2, n, x0, x1, x2⟩⟩ := e
  obtain ⟨oop, of, ob, otob, oother, opos, ⟨oid, okind, odst, oa, ob2, oc, of2, on, ox0, ox1, ox2⟩⟩ := o
  unfold Pg.val at HFE HCE HCX
  unfold Ed.val at HCE HCX
  unfold Pg.val Ed.val
  dsimp only at *
  subst hop
  obtain ⟨PL, hPL⟩ : ∃ PL, p.funs.length = PL := ⟨_, rfl⟩
  simp only [hPL] at HFE  HCE HCX ⊢
  clear hPL
  have HBb := Lib.hid (below3 w (.cells #[.slice p.pa PL p.pc] 24) (.cells #[.int .i64 2, .int .i64 f, .int .i64 b, .int .i64 tob, .int .i64 other, .int .i64 pos, .int .i64 id, .int .i64 kind, .int .i64 dst, .int .i64 a, .int .i64 b2, .int .i64 c, .int .i64 f2, .int .i64 n, .int .i64 x0, .int .i64 x1, .int .i64 x2] 29) (.cells #[.int .i64 oop, .int .i64 of, .int .i64 ob, .int .i64 otob, .int .i64 oother, .int .i64 opos, .int .i64 oid, .int .i64 okind, .int .i64 odst, .int .i64 oa, .int .i64 ob2, .int .i64 oc, .int .i64 of2, .int .i64 on, .int .i64 ox0, .int .i64 ox1, .int .i64 ox2] 29))
  have hx0 := BoxL.new w [.slice p.pa PL p.pc] 24
  have HX0 := Lib.hid (show BoxL (((w.alloc (.cells #[.slice p.pa PL p.pc] 24)).alloc (.cells #[.int .i64 2, .int .i64 f, .int .i64 b, .int .i64 tob, .int .i64 other, .int .i64 pos, .int .i64 id, .int .i64 kind, .int .i64 dst, .int .i64 a, .int .i64 b2, .int .i64 c, .int .i64 f2, .int .i64 n, .int .i64 x0, .int .i64 x1, .int .i64 x2] 29)).alloc (.cells #[.int .i64 oop, .int .i64 of, .int .i64 ob, .int .i64 otob, .int .i64 oother, .int .i64 opos, .int .i64 oid, .int .i64 okind, .int .i64 odst, .int .i64 oa, .int .i64 ob2, .int .i64 oc, .int .i64 of2, .int .i64 on, .int .i64 ox0, .int .i64 ox1, .int .i64 ox2] 29)) (w.heap.size) [.slice p.pa PL p.pc] from ((hx0).alloc (Nat.zero_lt_succ _) (.cells #[.int .i64 2, .int .i64 f, .int .i64 b, .int .i64 tob, .int .i64 other, .int .i64 pos, .int .i64 id, .int .i64 kind, .int .i64 dst, .int .i64 a, .int .i64 b2, .int .i64 c, .int .i64 f2, .int .i64 n, .int .i64 x0, .int .i64 x1, .int .i64 x2] 29)).alloc (Nat.zero_lt_succ _) (.cells #[.int .i64 oop, .int .i64 of, .int .i64 ob, .int .i64 otob, .int .i64 oother, .int .i64 opos, .int .i64 oid, .int .i64 okind, .int .i64 odst, .int .i64 oa, .int .i64 ob2, .int .i64 oc, .int .i64 of2, .int .i64 on, .int .i64 ox0, .int .i64 ox1, .int .i64 ox2] 29))
  have hx1 := BoxL.new (w.alloc (.cells #[.slice p.pa PL p.pc] 24)) [.int .i64 2, .int .i64 f, .int .i64 b, .int .i64 tob, .int .i64 other, .int .i64 pos, .int .i64 id, .int .i64 kind, .int .i64 dst, .int .i64 a, .int .i64 b2, .int .i64 c, .int .i64 f2, .int .i64 n, .int .i64 x0, .int .i64 x1, .int .i64 x2] 29
  rw [World.size_alloc] at hx1
  have HX1 := Lib.hid (show BoxL (((w.alloc (.cells #[.slice p.pa PL p.pc] 24)).alloc (.cells #[.int .i64 2, .int .i64 f, .int .i64 b, .int .i64 tob, .int .i64 other, .int .i64 pos, .int .i64 id, .int .i64 kind, .int .i64 dst, .int .i64 a, .int .i64 b2, .int .i64 c, .int .i64 f2, .int .i64 n, .int .i64 x0, .int .i64 x1, .int .i64 x2] 29)).alloc (.cells #[.int .i64 oop, .int .i64 of, .int .i64 ob, .int .i64 otob, .int .i64 oother, .int .i64 opos, .int .i64 oid, .int .i64 okind, .int .i64 odst, .int .i64 oa, .int .i64 ob2, .int .i64 oc, .int .i64 of2, .int .i64 on, .int .i64 ox0, .int .i64 ox1, .int .i64 ox2] 29)) (w.heap.size + 1) [.int .i64 2, .int .i64 f, .int .i64 b, .int .i64 tob, .int .i64 other, .int .i64 pos, .int .i64 id, .int .i64 kind, .int .i64 dst, .int .i64 a, .int .i64 b2, .int .i64 c, .int .i64 f2, .int .i64 n, .int .i64 x0, .int .i64 x1, .int .i64 x2] from (hx1).alloc (Nat.zero_lt_succ _) (.cells #[.int .i64 oop, .int .i64 of, .int .i64 ob, .int .i64 otob, .int .i64 oother, .int .i64 opos, .int .i64 oid, .int .i64 okind, .int .i64 odst, .int .i64 oa, .int .i64 ob2, .int .i64 oc, .int .i64 of2, .int .i64 on, .int .i64 ox0, .int .i64 ox1, .int .i64 ox2] 29))
  have hx2 := BoxL.new ((w.alloc (.cells #[.slice p.pa PL p.pc] 24)).alloc (.cells #[.int .i64 2, .int .i64 f, .int .i64 b, .int .i64 tob, .int .i64 other, .int .i64 pos, .int .i64 id, .int .i64 kind, .int .i64 dst, .int .i64 a, .int .i64 b2, .int .i64 c, .int .i64 f2, .int .i64 n, .int .i64 x0, .int .i64 x1, .int .i64 x2] 29)) [.int .i64 oop, .int .i64 of, .int .i64 ob, .int .i64 otob, .int .i64 oother, .int .i64 opos, .int .i64 oid, .int .i64 okind, .int .i64 odst, .int .i64 oa, .int .i64 ob2, .int .i64 oc, .int .i64 of2, .int .i64 on, .int .i64 ox0, .int .i64 ox1, .int .i64 ox2] 29
  rw [World.size_alloc, World.size_alloc] at hx2
  have HX2 := Lib.hid (show BoxL (((w.alloc (.cells #[.slice p.pa PL p.pc] 24)).alloc (.cells #[.int .i64 2, .int .i64 f, .int .i64 b, .int .i64 tob, .int .i64 other, .int .i64 pos, .int .i64 id, .int .i64 kind, .int .i64 dst, .int .i64 a, .int .i64 b2, .int .i64 c, .int .i64 f2, .int .i64 n, .int .i64 x0, .int .i64 x1, .int .i64 x2] 29)).alloc (.cells #[.int .i64 oop, .int .i64 of, .int .i64 ob, .int .i64 otob, .int .i64 oother, .int .i64 opos, .int .i64 oid, .int .i64 okind, .int .i64 odst, .int .i64 oa, .int .i64 ob2, .int .i64 oc, .int .i64 of2, .int .i64 on, .int .i64 ox0, .int .i64 ox1, .int .i64 ox2] 29)) (w.heap.size + 1 + 1) [.int .i64 oop, .int .i64 of, .int .i64 ob, .int .i64 otob, .int .i64 oother, .int .i64 opos, .int .i64 oid, .int .i64 okind, .int .i64 odst, .int .i64 oa, .int .i64 ob2, .int .i64 oc, .int .i64 of2, .int .i64 on, .int .i64 ox0, .int .i64 ox1, .int .i64 ox2] from hx2)
  clear hx0 hx1 hx2
  have HRW := Lib.hid (HRD0.out.on HBb.out)
  have HNW := Lib.hid (HN0.out.on HBb.out)
  generalize hW : (((w.alloc (.cells #[.slice p.pa PL p.pc] 24)).alloc (.cells #[.int .i64 2, .int .i64 f, .int .i64 b, .int .i64 tob, .int .i64 other, .int .i64 pos, .int .i64 id, .int .i64 kind, .int .i64 dst, .int .i64 a, .int .i64 b2, .int .i64 c, .int .i64 f2, .int .i64 n, .int .i64 x0, .int .i64 x1, .int .i64 x2] 29)).alloc (.cells #[.int .i64 oop, .int .i64 of, .int .i64 ob, .int .i64 otob, .int .i64 oother, .int .i64 opos, .int .i64 oid, .int .i64 okind, .int .i64 odst, .int .i64 oa, .int .i64 ob2, .int .i64 oc, .int .i64 of2, .int .i64 on, .int .i64 ox0, .int .i64 ox1, .int .i64 ox2] 29)) = W at HBb HX0 HX1 HX2 HRW HNW
  obtain ⟨g, hg⟩ : ∃ g, w.heap.size = g := ⟨_, rfl⟩
  have HGL := Lib.hid HBb.out.size
  rw [hg] at HBb HGL HX0 HX1 HX2 ⊢
  have HL0 := Lib.hid (HX0.out.lt (Nat.zero_lt_succ _))
  have HL1 := Lib.hid (HX1.out.lt (Nat.zero_lt_succ _))
  have HL2 := Lib.hid (HX2.out.lt (Nat.zero_lt_succ _))
  have HC : Hid (∀ wr, Below W.heap.size W wr → wr.cell? ⟨g, 0, none⟩ = some (.slice p.pa PL p.pc)) := Lib.hid fun wr hb => ((HX0.out.below hb HL0.out) 0 _ rfl).1
  have HBN : Hid (Below W.heap.size W W) := Lib.hid (Below.refl _ _)
  have k0 := HC.out _ HBN.out
  have HRO : Hid (∀ wr, Below W.heap.size W wr → wr.rangeAt (g + 1 + 1) 0 [.int .i64 oop, .int .i64 of, .int .i64 ob, .int .i64 otob, .int .i64 oother, .int .i64 opos, .int .i64 oid, .int .i64 okind, .int .i64 odst, .int .i64 oa, .int .i64 ob2, .int .i64 oc, .int .i64 of2, .int .i64 on, .int .i64 ox0, .int .i64 ox1, .int .i64 ox2]) := Lib.hid fun wr hb => (HX2.out.below hb HL2.out).range
  go_enter Tryd.func3, Tryd.ntmps3
  go_wp2_with (first
    | (go_at_call 5; refine (HAW.out _ (HRW.out.on HBN.out) (HNW.out.on HBN.out)).mono ?_; rintro e wa ⟨rfl, hbn⟩; have hbx := HBN.out.trans (hbn.mono HBN.out.size); clear HBN hbn k0; have HBN := Lib.hid hbx; clear hbx; have k0 := HC.out _ HBN.out)
    | (go_at_call 6; refine (HFE.out _ (HRW.out.on HBN.out)).mono ?_; rintro e wb ⟨rfl, hbn⟩; have hbx := HBN.out.trans (hbn.mono HBN.out.size); clear HBN hbn k0; have HBN := Lib.hid hbx; clear hbx; have k0 := HC.out _ HBN.out; have q0 : ∀ cs, (wb.alloc (.cells cs 29)).cell? ⟨g + 1, 0, none⟩ = some (.int .i64 2) := fun cs => ((HX1.out.below (HBN.out.alloc HBN.out.size (.cells cs 29)) HL1.out) 0 _ rfl).1; have q1 : ∀ cs, (wb.alloc (.cells cs 29)).cell? ⟨g + 1, 1, none⟩ = some (.int .i64 f) := fun cs => ((HX1.out.below (HBN.out.alloc HBN.out.size (.cells cs 29)) HL1.out) 1 _ rfl).1; have q2 : ∀ cs, (wb.alloc (.cells cs 29)).cell? ⟨g + 1, 2, none⟩ = some (.int .i64 b) := fun cs => ((HX1.out.below (HBN.out.alloc HBN.out.size (.cells cs 29)) HL1.out) 2 _ rfl).1)
    | ((with_reducible apply wpList_load_w (ty := 29) (b := g + 1 + 1) (o := 0) (cs := [.int .i64 oop, .int .i64 of, .int .i64 ob, .int .i64 otob, .int .i64 oother, .int .i64 opos, .int .i64 oid, .int .i64 okind, .int .i64 odst, .int .i64 oa, .int .i64 ob2, .int .i64 oc, .int .i64 of2, .int .i64 on, .int .i64 ox0, .int .i64 ox1, .int .i64 ox2])); rotate_left; rfl; rfl; exact HRO.out _ HBN.out; exact Tryd.underlying29; rfl; kernel_rfl; rotate_left; rfl; simp only [Act.put, List.setIfInBounds_toArray, List.set_cons_zero, List.set_cons_succ])
    | ((with_reducible apply wpList_store_new (ty := 29) (c := #[.int .i64 0, .int .i64 0, .int .i64 0, .int .i64 0, .int .i64 0, .int .i64 0, .int .i64 0, .int .i64 0, .int .i64 0, .int .i64 0, .int .i64 0, .int .i64 0, .int .i64 0, .int .i64 0, .int .i64 0, .int .i64 0, .int .i64 0]) (c' := #[.int .i64 oop, .int .i64 of, .int .i64 ob, .int .i64 otob, .int .i64 oother, .int .i64 opos, .int .i64 oid, .int .i64 okind, .int .i64 odst, .int .i64 oa, .int .i64 ob2, .int .i64 oc, .int .i64 of2, .int .i64 on, .int .i64 ox0, .int .i64 ox1, .int .i64 ox2])); rfl; rfl; rfl; rfl; kernel_rfl; rfl; simp [Value.oneCell']; simp only [Act.put]))
  have HB2 := Lib.hid (HBN.out.alloc HBN.out.size (.cells #[.int .i64 2, .int .i64 f, .int .i64 b, .int .i64 otob, .int .i64 oother, .int .i64 opos, .int .i64 oid, .int .i64 okind, .int .i64 odst, .int .i64 oa, .int .i64 ob2, .int .i64 oc, .int .i64 of2, .int .i64 on, .int .i64 ox0, .int .i64 ox1, .int .i64 ox2] 29))
  have HXX := Lib.hid (show BoxL (wb.alloc (.cells #[.int .i64 2, .int .i64 f, .int .i64 b, .int .i64 otob, .int .i64 oother, .int .i64 opos, .int .i64 oid, .int .i64 okind, .int .i64 odst, .int .i64 oa, .int .i64 ob2, .int .i64 oc, .int .i64 of2, .int .i64 on, .int .i64 ox0, .int .i64 ox1, .int .i64 ox2] 29)) wb.heap.size [.int .i64 2, .int .i64 f, .int .i64 b, .int .i64 otob, .int .i64 oother, .int .i64 opos, .int .i64 oid, .int .i64 okind, .int .i64 odst, .int .i64 oa, .int .i64 ob2, .int .i64 oc, .int .i64 of2, .int .i64 on, .int .i64 ox0, .int .i64 ox1, .int .i64 ox2] from BoxL.new wb _ _)
  clear q0 q1 q2 k0 HBN
  generalize wb.alloc (.cells #[.int .i64 2, .int .i64 f, .int .i64 b, .int .i64 otob, .int .i64 oother, .int .i64 opos, .int .i64 oid, .int .i64 okind, .int .i64 odst, .int .i64 oa, .int .i64 ob2, .int .i64 oc, .int .i64 of2, .int .i64 on, .int .i64 ox0, .int .i64 ox1, .int .i64 ox2] 29) = W2 at *
  obtain ⟨gx, hgx⟩ : ∃ b, wb.heap.size = b := ⟨_, rfl⟩
  rw [hgx] at HXX ⊢
  clear hgx
  have HLX := Lib.hid (HXX.out.lt (Nat.zero_lt_succ _))
  have HF1 := Lib.hid (HBb.out.trans (HB2.out.mono HGL.out))
  have HG2 := Lib.hid (Nat.le_trans HGL.out HB2.out.size)
  have HRD2 := Lib.hid (HRW.out.on HB2.out)
  have HS : Hid (∀ w', Below W2.heap.size W2 w' → w'.cell? ⟨g, 0, none⟩ = some (.slice p.pa PL p.pc) ∧ w'.rangeAt (g + 1) 0 [.int .i64 2, .int .i64 f, .int .i64 b, .int .i64 tob, .int .i64 other, .int .i64 pos, .int .i64 id, .int .i64 kind, .int .i64 dst, .int .i64 a, .int .i64 b2, .int .i64 c, .int .i64 f2, .int .i64 n, .int .i64 x0, .int .i64 x1, .int .i64 x2] ∧ w'.rangeAt gx 0 [.int .i64 2, .int .i64 f, .int .i64 b, .int .i64 otob, .int .i64 oother, .int .i64 opos, .int .i64 oid, .int .i64 okind, .int .i64 odst, .int .i64 oa, .int .i64 ob2, .int .i64 oc, .int .i64 of2, .int .i64 on, .int .i64 ox0, .int .i64 ox1, .int .i64 ox2]) := Lib.hid fun w' hb => ⟨((HX0.out.below (HB2.out.trans (hb.mono HB2.out.size)) HL0.out) 0 _ rfl).1, (HX1.out.below (HB2.out.trans (hb.mono HB2.out.size)) HL1.out).range, (HXX.out.below hb HLX.out).range⟩
  have HBN : Hid (Below W2.heap.size W2 W2.drew) := Lib.hid (Below.refl _ _).drew
  clear HC HX0 HX1 HX2 HXX HFE HAW HN0 HNW
  refine wp_region_late (fun w' => w'.cell? ⟨g, 0, none⟩ = some (.slice p.pa PL p.pc) ∧ w'.rangeAt (g + 1) 0 [.int .i64 2, .int .i64 f, .int .i64 b, .int .i64 tob, .int .i64 other, .int .i64 pos, .int .i64 id, .int .i64 kind, .int .i64 dst, .int .i64 a, .int .i64 b2, .int .i64 c, .int .i64 f2, .int .i64 n, .int .i64 x0, .int .i64 x1, .int .i64 x2] ∧ w'.rangeAt gx 0 [.int .i64 2, .int .i64 f, .int .i64 b, .int .i64 otob, .int .i64 oother, .int .i64 opos, .int .i64 oid, .int .i64 okind, .int .i64 odst, .int .i64 oa, .int .i64 ob2, .int .i64 oc, .int .i64 of2, .int .i64 on, .int .i64 ox0, .int .i64 ox1, .int .i64 ox2]) 11 (by kernel_rfl) (HS.out _ HBN.out) (fun hHeld => ?_)
  refine wpAnyE_take (i := 0) (v := ?v0) rfl (by kernel_rfl) (fun _ _ _ h => h) hHeld (by rfl) ?y0 ?_
  case y0 => (intro w' hSw; (try dsimp only at hSw); go_simp <;> with_reducible rfl)
  refine wpAnyE_take (i := 1) (v := ?v1) rfl (by kernel_rfl) (fun _ _ _ h => h) hHeld (by rfl) ?y1 ?_
  case y1 => (intro w' hSw; (try dsimp only at hSw); go_simp <;> with_reducible rfl)
  refine wpAnyE_take (i := 2) (v := ?v2) rfl (by kernel_rfl) (fun _ _ _ h => h) hHeld (by rfl) ?y2 ?_
  case y2 => (intro w' hSw; (try dsimp only at hSw); go_simp <;> with_reducible rfl)
  refine wpAnyE_takeY (i := 3) rfl (by kernel_rfl) (fun _ _ _ h => h) hHeld (yieldsIf_load_mid (by rfl) 29 _ rfl gx 0 rfl [.int .i64 2, .int .i64 f, .int .i64 b, .int .i64 otob, .int .i64 oother, .int .i64 opos, .int .i64 oid, .int .i64 okind, .int .i64 odst, .int .i64 oa, .int .i64 ob2, .int .i64 oc, .int .i64 of2, .int .i64 on, .int .i64 ox0, .int .i64 ox1, .int .i64 ox2] _ (fun w h => h.2.2) Tryd.underlying29 rfl (by kernel_rfl)) ?_
  refine wpAnyE_take (i := 5) (v := ?v5) rfl (by kernel_rfl) (fun _ _ _ h => h) hHeld (by rfl) ?y5 ?_
  case y5 => (intro w' hSw; (try dsimp only at hSw); go_simp <;> with_reducible rfl)
  refine wpAnyE_takeY (i := 6) rfl (by kernel_rfl) (fun _ _ _ h => h) hHeld (yieldsIf_load_mid (by rfl) 29 _ rfl (g + 1) 0 rfl [.int .i64 2, .int .i64 f, .int .i64 b, .int .i64 tob, .int .i64 other, .int .i64 pos, .int .i64 id, .int .i64 kind, .int .i64 dst, .int .i64 a, .int .i64 b2, .int .i64 c, .int .i64 f2, .int .i64 n, .int .i64 x0, .int .i64 x1, .int .i64 x2] _ (fun w h => h.2.1) Tryd.underlying29 rfl (by kernel_rfl)) ?_
  refine wpAnyE_one (i := 4) (by kernel_rfl) rfl (fun K hK => ?_)
  go_simp
  go_at_call 7
  refine (HCX.out _ (HRD2.out.on HBN.out)).mono ?_
  rintro e wn ⟨rfl, hbn⟩
  have hbx := HBN.out.trans (hbn.mono HBN.out.size)
  clear HBN hbn
  have HBN := Lib.hid hbx
  clear hbx
  refine hK.out _ _ ?_ (fun hHeld => ?_)
  · exact HS.out _ HBN.out
  clear hK K
  refine wpAnyE_one (i := 7) (by kernel_rfl) rfl (fun K hK => ?_)
  go_simp
  go_at_call 7
  refine (HCE.out _ (HRD2.out.on HBN.out)).mono ?_
  rintro e wn ⟨rfl, hbn⟩
  have hbx := HBN.out.trans (hbn.mono HBN.out.size)
  clear HBN hbn
  have HBN := Lib.hid hbx
  clear hbx
  refine hK.out _ _ ?_ (fun hHeld => ?_)
  · exact HS.out _ HBN.out
  clear hK K
  refine wpAnyE_take (i := 8) (v := ?v8) rfl (by kernel_rfl) (fun _ _ _ h => h) hHeld (by rfl) ?y8 ?_
  case y8 => (intro w' hSw; (try dsimp only at hSw); go_simp <;> with_reducible rfl)
  refine wpAnyE_take (i := 9) (v := ?v9) rfl (by kernel_rfl) (fun _ _ _ h => h) hHeld (by rfl) ?y9 ?_
  case y9 => (intro w' hSw; (try dsimp only at hSw); go_simp <;> with_reducible rfl)
  refine wpAnyE_take (i := 10) (v := ?v10) rfl (by kernel_rfl) (fun _ _ _ h => h) hHeld (by rfl) ?y10 ?_
  case y10 => (intro w' hSw; (try dsimp only at hSw); go_simp <;> with_reducible rfl)
  refine wpAnyE_tail 11 (by decide) rfl (by kernel_rfl) ?_
  simp only [List.drop_succ_cons, List.drop_zero]
  go_wp2_with fail
  go_ret
  first
    | exact ⟨rfl, HF1.out.trans (HBN.out.mono HG2.out)⟩
    | exact ⟨ret_bool (by simp), HF1.out.trans (HBN.out.mono HG2.out)⟩

end Go.Proofs.YtpegkllhomjocaaDoor

namespace Go.Proofs.YtpegkllhomjocaaDoor
open Go Go.RowKit Go.Sort

theorem editUnread_any (p : Pg) (e o : Ed) (w : World) (h : Rd w p) (hN : NTab w) :
    Calls Tryd.prog 3 #[p.val, e.val, o.val] w fun x w' => x = .returned (.bool true) ∧ Below w.heap.size w w' := by
  by_cases hfew : p.few
  rotate_left
  · exact unreadN p e o w h hN hfew
  have hc : e.op = 0 ∨ e.op = 1 ∨ e.op = 2 ∨ e.op = 3 ∨ e.op = 4 ∨ e.op = 5 ∨ e.op = 6 ∨ e.op = 7 ∨ ¬ (0 ≤ e.op ∧ e.op ≤ 7) := by omega
  rcases hc with h1 | h1 | h1 | h1 | h1 | h1 | h1 | h1 | h1
  · exact unread0 p e o w h hN hfew h1
  · exact unread1 p e o w h hN hfew h1
  · exact unread2 p e o w h hN hfew h1
  · exact unread3 p e o w h hN hfew h1
  · exact unread4 p e o w h hN hfew h1
  · exact unread5 p e o w h hN hfew h1
  · exact unread6 p e o w h hN hfew h1
  · exact unread7 p e o w h hN hfew h1
  · exact unreadx p e o w h hN hfew h1
end Go.Proofs.YtpegkllhomjocaaDoor

namespace Go.Proofs.YtpegkllhomjocaaDoor.EditUnread
open Go.ChangeShapes Go.WideShapes Go.ChangeAt Go.RowKit

set_option maxRecDepth 100000 in
theorem contract (H : Type) (enc : TypeId × Value → H) (W : World) (base : Nat) (args : Array Value) (ds gs : List (DataW H)) (before : List MemPlace)
    (hval : ∀ (j : Nat) t v, Tryd.f3.params[j]? = some t → args[j]? = some v → Value.okWide Tryd.prog W .any base t v)
    (hW : DataW.Whole enc Tryd.prog Tryd.f3.params.toList Rows.editUnreadSpec.vars false W args.toList ds gs before) (hL : laidMetH Tryd.prog Rows.editUnreadRow.laid W) :
    Calls Tryd.prog 3 args W fun e W' => ∃ v, e = .returned v ∧ Rows.editUnreadSpec.post enc Tryd.prog Tryd.f3 false true false false W args v W' := by
  obtain ⟨hT, hE, hN⟩ := tabs7_of_laid hL
  have hW' := hW
  obtain ⟨p, q, hA0, hV, rfl, hfz, hnd⟩ := hW
  have hA : DataW.TrodAll enc Tryd.prog W 0 (fun _ => true) true Tryd.f3.params.toList args.toList ds p := hA0
  rw [Tryd.params3] at hA hval
  obtain ⟨v0, vs0, d0, ds0, p0, q0, hargs, rfl, rfl, h0, r0⟩ := trodAll_cons hA
  obtain ⟨v1, vs1, d1, ds1, p1, q1, rfl, rfl, rfl, h1, r1⟩ := trodAll_cons r0
  obtain ⟨v2, vs2, d2, ds2, p2, q2, rfl, rfl, rfl, h2, r2⟩ := trodAll_cons r1
  obtain ⟨rfl, rfl, rfl⟩ := trodAll_nil r2
  obtain rfl : args = #[v0, v1, v2] := by cases args; simp_all
  obtain ⟨rfl, rfl⟩ := trodVars_none hV
  clear hA0
  simp only [List.append_nil] at hW'
  have hlt : ∀ x ∈ p0 ++ (p1 ++ p2), x.block < W.heap.size := fun x hx => by simpa using hW'.lt x (by simpa using hx)
  have harg0 : ∀ (W' : World), Below W.heap.size W W' → DataW.Trod enc Tryd.prog W' 0 (fun b => decide (b < W.heap.size)) true 24 v0 d0 p0 :=
    fun W' hn => Below.trod laidOut (by kernel_rfl) (of_decide_eq_true (by kernel_rfl)) h0 hn (fun x hx => hlt x (List.mem_append.2 (.inl hx)))
  have harg1 : ∀ (W' : World), Below W.heap.size W W' → DataW.Trod enc Tryd.prog W' 0 (fun b => decide (b < W.heap.size)) true 29 v1 d1 p1 :=
    fun W' hn => Below.trod laidOut (by kernel_rfl) (of_decide_eq_true (by kernel_rfl)) h1 hn (fun x hx => hlt x (List.mem_append.2 (.inr (List.mem_append.2 (.inl hx)))))
  have harg2 : ∀ (W' : World), Below W.heap.size W W' → DataW.Trod enc Tryd.prog W' 0 (fun b => decide (b < W.heap.size)) true 29 v2 d2 p2 :=
    fun W' hn => Below.trod laidOut (by kernel_rfl) (of_decide_eq_true (by kernel_rfl)) h2 hn (fun x hx => hlt x (List.mem_append.2 (.inr (List.mem_append.2 (.inr hx)))))
  obtain ⟨pg0, rfl, hP0⟩ := open_prog (hval 0 24 v0 rfl rfl) h0
  obtain ⟨e1, rfl⟩ := open_edit (hval 1 29 v1 rfl rfl) h1
  obtain ⟨e2, rfl⟩ := open_edit (hval 2 29 v2 rfl rfl) h2
  refine (editUnread_any pg0 e1 e2 W ⟨hP0, hT, hE⟩ hN).mono fun e W' ⟨he, hb⟩ => ?_
  subst he
  exact ⟨_, rfl, _, _, _, [], p0 ++ (p1 ++ p2), [], hW', trodAll_mk1 (shut_bool Tryd.underlying4 true), trodAll_cons_mk (harg0 _ hb) (trodAll_cons_mk (harg1 _ hb) (trodAll_mk1 (harg2 _ hb))), rfl, hb.frame _, fun h => by cases h⟩

theorem laid_met (os : Os) : laidMetH Tryd.prog Rows.editUnreadRow.laid ((laidWorldQ os).forCall (fun _ _ => 0) ⟨#[], #[.agg #[.slice none 0 0], .agg #[.int .i64 0, .int .i64 0, .int .i64 0, .int .i64 0, .int .i64 0, .int .i64 0, .int .i64 0, .int .i64 0, .int .i64 0, .int .i64 0, .int .i64 0, .int .i64 0, .int .i64 0, .int .i64 0, .int .i64 0, .int .i64 0, .int .i64 0], .agg #[.int .i64 0, .int .i64 0, .int .i64 0, .int .i64 0, .int .i64 0, .int .i64 0, .int .i64 0, .int .i64 0, .int .i64 0, .int .i64 0, .int .i64 0, .int .i64 0, .int .i64 0, .int .i64 0, .int .i64 0, .int .i64 0, .int .i64 0]], []⟩).memory :=
  laidMetH_of_parts (laidMet_of_run' 8 (by kernel_rfl) (by kernel_rfl)) (by kernel_rfl)
theorem reads (os : Os) {H : Type} (enc : TypeId × Value → H) : ∃ places, DataW.whole enc Tryd.prog ((laidWorldQ os).forCall (fun _ _ => 0) ⟨#[], #[.agg #[.slice none 0 0], .agg #[.int .i64 0, .int .i64 0, .int .i64 0, .int .i64 0, .int .i64 0, .int .i64 0, .int .i64 0, .int .i64 0, .int .i64 0, .int .i64 0, .int .i64 0, .int .i64 0, .int .i64 0, .int .i64 0, .int .i64 0, .int .i64 0, .int .i64 0], .agg #[.int .i64 0, .int .i64 0, .int .i64 0, .int .i64 0, .int .i64 0, .int .i64 0, .int .i64 0, .int .i64 0, .int .i64 0, .int .i64 0, .int .i64 0, .int .i64 0, .int .i64 0, .int .i64 0, .int .i64 0, .int .i64 0, .int .i64 0]], []⟩).memory Tryd.f3.params.toList Rows.editUnreadSpec.vars false #[Value.agg #[.slice none 0 0], Value.agg #[.int .i64 0, .int .i64 0, .int .i64 0, .int .i64 0, .int .i64 0, .int .i64 0, .int .i64 0, .int .i64 0, .int .i64 0, .int .i64 0, .int .i64 0, .int .i64 0, .int .i64 0, .int .i64 0, .int .i64 0, .int .i64 0, .int .i64 0], Value.agg #[.int .i64 0, .int .i64 0, .int .i64 0, .int .i64 0, .int .i64 0, .int .i64 0, .int .i64 0, .int .i64 0, .int .i64 0, .int .i64 0, .int .i64 0, .int .i64 0, .int .i64 0, .int .i64 0, .int .i64 0, .int .i64 0, .int .i64 0]].toList 8 = some ([.agg [.nil], .agg [.lit (.int .i64 0), .lit (.int .i64 0), .lit (.int .i64 0), .lit (.int .i64 0), .lit (.int .i64 0), .lit (.int .i64 0), .agg [.lit (.int .i64 0), .lit (.int .i64 0), .lit (.int .i64 0), .lit (.int .i64 0), .lit (.int .i64 0), .lit (.int .i64 0), .lit (.int .i64 0), .lit (.int .i64 0), .agg [.lit (.int .i64 0), .lit (.int .i64 0), .lit (.int .i64 0)]]], .agg [.lit (.int .i64 0), .lit (.int .i64 0), .lit (.int .i64 0), .lit (.int .i64 0), .lit (.int .i64 0), .lit (.int .i64 0), .agg [.lit (.int .i64 0), .lit (.int .i64 0), .lit (.int .i64 0), .lit (.int .i64 0), .lit (.int .i64 0), .lit (.int .i64 0), .lit (.int .i64 0), .lit (.int .i64 0), .agg [.lit (.int .i64 0), .lit (.int .i64 0), .lit (.int .i64 0)]]]], [], places) :=
  ⟨[], by kernel_rfl⟩

set_option maxRecDepth 100000 in
theorem lifted (os : Os) (started : os.Started) (H : Type) (enc : TypeId × Value → H) (F : Stop.Interp) :
    ReturnsInHanded {} Tryd.checked os 3 .any ((OpenSpec.ofChange Rows.editUnreadSpec).preRow enc Tryd.prog Tryd.f3 Rows.editUnreadRow.domain false Rows.editUnreadRow.laid) (((OpenSpec.ofChange Rows.editUnreadSpec).at F).post enc Tryd.prog Tryd.f3 false true false false) := by
  obtain ⟨places, hx⟩ := reads os enc
  refine returnsInHanded_of_row (C := Tryd.checked) (s := OpenSpec.ofChange Rows.editUnreadSpec) own started (by kernel_rfl) Tryd.func3
    (witness_row_at (enc := enc) (C := Tryd.checked) false (laidWorldQ os) #[.agg #[.slice none 0 0], .agg #[.int .i64 0, .int .i64 0, .int .i64 0, .int .i64 0, .int .i64 0, .int .i64 0, .int .i64 0, .int .i64 0, .int .i64 0, .int .i64 0, .int .i64 0, .int .i64 0, .int .i64 0, .int .i64 0, .int .i64 0, .int .i64 0, .int .i64 0], .agg #[.int .i64 0, .int .i64 0, .int .i64 0, .int .i64 0, .int .i64 0, .int .i64 0, .int .i64 0, .int .i64 0, .int .i64 0, .int .i64 0, .int .i64 0, .int .i64 0, .int .i64 0, .int .i64 0, .int .i64 0, .int .i64 0, .int .i64 0]] rfl (by kernel_rfl) (by kernel_rfl) (by kernel_rfl)
      (OpenSpec.preRow_of_cond 8 hx (by kernel_rfl) (fun k hk => by cases hk) (by kernel_rfl) (laid_met os))) ?_
  intro W base args ds gs before hval hW _ _ _ hL _ _
  exact contract H enc W base args ds gs before hval hW hL

theorem said : Rows.EditUnreadSaid :=
  OpenClaim.holds_of_cond 3 Tryd.f3 rfl rfl rfl rfl rfl rfl rfl ⟨rfl, rfl, rfl, rfl, rfl⟩ rfl rfl rfl rfl rfl (by kernel_rfl) Tryd.func3 (by kernel_rfl)
    (of_decide_eq_true (by kernel_rfl)) (by unfold Func.isWrapper; first | (rw [if_pos (by decide +kernel)]; kernel_rfl) | (rw [if_neg (by decide +kernel)]; exact ⟨rfl, rfl⟩))
    (fun os started H enc _ F => by rw [OpenClaim.pre_eq_preRow]; exact lifted os started H enc F)

theorem plain (f : FuncId) (fn : Func) (hf : Tryd.pinned.checked.prog.funcNamed "bywash/bywashlaw07.EditUnread" = some f) (hfn : Tryd.pinned.checked.prog.funcs[f]? = some fn) :
    true = Tryd.pinned.checked.prog.looks [] ∧ ∀ (j : Nat) t, fn.params[j]? = some t → Tryd.pinned.checked.prog.wantsStandIn t = false := by
  obtain rfl : f = 3 := Option.some.inj ((show Tryd.prog.funcNamed "bywash/bywashlaw07.EditUnread" = some 3 by kernel_rfl).symm.trans hf) |>.symm
  obtain rfl : fn = Tryd.f3 := (Option.some.inj (Tryd.func3.symm.trans hfn)).symm
  refine ⟨by kernel_rfl, fun j t ht => ?_⟩
  rw [Tryd.params3] at ht
  have hm : t ∈ [24, 29, 29] := by simpa using Array.mem_of_getElem? ht
  have hall : ([24, 29, 29].all fun u => !Tryd.prog.wantsStandIn u) = true := by kernel_rfl
  exact (show Tryd.prog.wantsStandIn t = false by simpa using List.all_eq_true.1 hall t hm)

/-- THE CARD. -/
theorem card : Rows.EditUnreadCardSaid :=
  Claim7.holds_tied_plain_at .later [] _ _ _ _ said (fun _ h => by cases h) (by kernel_rfl) (fun _ h => by cases h) editUnread_row_tie rfl ⟨rfl, rfl⟩ (by kernel_rfl) rfl plain (by kernel_rfl)
end Go.Proofs.YtpegkllhomjocaaDoor.EditUnread

namespace Go.Proofs.YtpegkllhomjocaaDoor
/-- The law EditUnread: its card holds. -/
theorem editUnread_card : Rows.EditUnreadCardSaid := EditUnread.card
#print axioms editUnread_card
end Go.Proofs.YtpegkllhomjocaaDoor
