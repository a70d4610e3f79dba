/- UndG: several texts in one: UndA UndB UndC UndD UndE. -/
import Derived.Lib.LazyBuf
import Derived.Test.YtbddjneinfkmpaaGreatDoorApQ
import Derived.Test.YtbddjneinfkmpaaGreatDoorAppG

namespace Go.Proofs.YtbddjneinfkmpaaGreatDoor
open Go Go.RowKit Go.Sort

theorem BoxL.there {W : World} {b : Nat} {cs : List Value} (h : BoxL W b cs) : W.there b 0 cs.length := fun j hj => by
  rw [Nat.zero_add]
  have := h j cs[j] (by simp [hj])
  exact ⟨by rw [this.1]; rfl, this.2⟩
theorem BoxL.setAll {W : World} {b : Nat} {cs : List Value} (h : BoxL W b cs) (ds : List Value) (hl : ds.length = cs.length) : BoxL (W.setCells b 0 ds) b ds := fun j v hj => by
  have hr := World.rangeAt_setCells_same W b 0 ds (by rw [hl]; exact h.there) j v hj
  rw [Nat.zero_add] at hr
  have hjl : j < cs.length := by rw [← hl]; exact (List.getElem?_eq_some_iff.1 hj).1
  exact ⟨hr, by rw [World.frozen?_setCells]; exact (h j cs[j] (by simp [hjl])).2⟩
/-- What Undo tells. -/
def UndRes (p : Pg) (e : Ed) (w w' : World) (x : Ending) : Prop := x = .returned (.tuple #[(undoE p e).val, .bool (undoB p e)]) ∧ Below w.heap.size w w'
theorem undoB_no {p : Pg} {e : Ed} (h : ¬ chk p e = 0) : undoB p e = false := by unfold undoB; simp [h]
theorem undoE_no {p : Pg} {e : Ed} (h : undoB p e = false) : undoE p e = ⟨0, 0, 0, 0, 0, 0, Ins.zero⟩ := by unfold undoE; rw [h]; simp
theorem undoB_02 {p : Pg} {e : Ed} (h : e.op = 0 ∨ e.op = 2) : undoB p e = false := by unfold undoB; rcases h with h | h <;> simp [h]
theorem undoB_of {p : Pg} {e : Ed} (hc : chk p e = 0) (h : e.op = 1 ∨ e.op = 3 ∨ e.op = 4 ∨ e.op = 5 ∨ e.op = 6) : undoB p e = true := by unfold undoB; rcases h with h | h | h | h | h <;> simp [h, hc]
theorem undoB_7 {p : Pg} {e : Ed} (hc : chk p e = 0) (h : e.op = 7) : undoB p e = decide ((atR p e.f e.b e.pos).id = newId (appP p e)) := by unfold undoB; simp [h, hc]

set_option maxRecDepth 100000 in
set_option maxHeartbeats 16000000 in
theorem undoX (p : Pg) (e : Ed) (w : World) (h : Rd w p) (hfew : p.few) (hwf : p.wf) (hc : ¬ chk p e = 0) :
    Calls Tryz.prog 51 #[p.val, e.val] w fun x w' => UndRes p e w w' x := by
  have HAP := Lib.hid (fun wr (h : Rd wr p) => Apply_any p e wr h hfew hwf)
  have hub := undoB_no hc
  have hue := undoE_no hub
  obtain ⟨r, hr⟩ : ∃ r, chk p e = r := ⟨_, rfl⟩
  rw [hr] at hc
  have hrb : (r != 0) = true := by simp only [bne, beq_false_of_ne hc, Bool.not_false]
  simp only [AppRes, hr] at HAP
  clear hc hr
  unfold UndRes
  rw [hub, hue]
  clear hub hue
  have HRD0 := Lib.hid h
  have hlen10 := hfew.1
  clear h hfew hwf
  obtain ⟨op, f, b, tob, other, pos, ⟨id, kind, dst, a, b2, c, f2, n, x0, x1, x2⟩⟩ := e
  try dsimp only at *
  skip
  unfold Pg.val Ed.val at HAP
  unfold Pg.val Ed.val
  try dsimp only at *
  try unfold Pg.val at *
  obtain ⟨PL, hPL⟩ : ∃ PL, p.funs.length = PL := ⟨_, rfl⟩
  simp only [hPL] at HAP hlen10 ⊢
  clear hPL
  have HBb := Lib.hid (below3 w (.cells #[.slice p.pa PL p.pc] 24) (.cells #[.int .i64 op, .int .i64 f, .int .i64 b, .int .i64 tob, .int .i64 other, .int .i64 pos, .int .i64 id, .int .i64 kind, .int .i64 dst, .int .i64 a, .int .i64 b2, .int .i64 c, .int .i64 f2, .int .i64 n, .int .i64 x0, .int .i64 x1, .int .i64 x2] 55) (.cells #[.int .i64 0, .int .i64 0, .int .i64 0, .int .i64 0, .int .i64 0, .int .i64 0, .int .i64 0, .int .i64 0, .int .i64 0, .int .i64 0, .int .i64 0, .int .i64 0, .int .i64 0, .int .i64 0, .int .i64 0, .int .i64 0, .int .i64 0] 55))
  have hx0 := BoxL.new w [.slice p.pa PL p.pc] 24
  have HX0 := Lib.hid (show BoxL (((w.alloc (.cells #[.slice p.pa PL p.pc] 24)).alloc (.cells #[.int .i64 op, .int .i64 f, .int .i64 b, .int .i64 tob, .int .i64 other, .int .i64 pos, .int .i64 id, .int .i64 kind, .int .i64 dst, .int .i64 a, .int .i64 b2, .int .i64 c, .int .i64 f2, .int .i64 n, .int .i64 x0, .int .i64 x1, .int .i64 x2] 55)).alloc (.cells #[.int .i64 0, .int .i64 0, .int .i64 0, .int .i64 0, .int .i64 0, .int .i64 0, .int .i64 0, .int .i64 0, .int .i64 0, .int .i64 0, .int .i64 0, .int .i64 0, .int .i64 0, .int .i64 0, .int .i64 0, .int .i64 0, .int .i64 0] 55)) (w.heap.size) [.slice p.pa PL p.pc] from ((hx0).alloc (Nat.zero_lt_succ _) (.cells #[.int .i64 op, .int .i64 f, .int .i64 b, .int .i64 tob, .int .i64 other, .int .i64 pos, .int .i64 id, .int .i64 kind, .int .i64 dst, .int .i64 a, .int .i64 b2, .int .i64 c, .int .i64 f2, .int .i64 n, .int .i64 x0, .int .i64 x1, .int .i64 x2] 55)).alloc (Nat.zero_lt_succ _) (.cells #[.int .i64 0, .int .i64 0, .int .i64 0, .int .i64 0, .int .i64 0, .int .i64 0, .int .i64 0, .int .i64 0, .int .i64 0, .int .i64 0, .int .i64 0, .int .i64 0, .int .i64 0, .int .i64 0, .int .i64 0, .int .i64 0, .int .i64 0] 55))
  have hx1 := BoxL.new (w.alloc (.cells #[.slice p.pa PL p.pc] 24)) [.int .i64 op, .int .i64 f, .int .i64 b, .int .i64 tob, .int .i64 other, .int .i64 pos, .int .i64 id, .int .i64 kind, .int .i64 dst, .int .i64 a, .int .i64 b2, .int .i64 c, .int .i64 f2, .int .i64 n, .int .i64 x0, .int .i64 x1, .int .i64 x2] 55
  rw [World.size_alloc] at hx1
  have HX1 := Lib.hid (show BoxL (((w.alloc (.cells #[.slice p.pa PL p.pc] 24)).alloc (.cells #[.int .i64 op, .int .i64 f, .int .i64 b, .int .i64 tob, .int .i64 other, .int .i64 pos, .int .i64 id, .int .i64 kind, .int .i64 dst, .int .i64 a, .int .i64 b2, .int .i64 c, .int .i64 f2, .int .i64 n, .int .i64 x0, .int .i64 x1, .int .i64 x2] 55)).alloc (.cells #[.int .i64 0, .int .i64 0, .int .i64 0, .int .i64 0, .int .i64 0, .int .i64 0, .int .i64 0, .int .i64 0, .int .i64 0, .int .i64 0, .int .i64 0, .int .i64 0, .int .i64 0, .int .i64 0, .int .i64 0, .int .i64 0, .int .i64 0] 55)) (w.heap.size + 1) [.int .i64 op, .int .i64 f, .int .i64 b, .int .i64 tob, .int .i64 other, .int .i64 pos, .int .i64 id, .int .i64 kind, .int .i64 dst, .int .i64 a, .int .i64 b2, .int .i64 c, .int .i64 f2, .int .i64 n, .int .i64 x0, .int .i64 x1, .int .i64 x2] from (hx1).alloc (Nat.zero_lt_succ _) (.cells #[.int .i64 0, .int .i64 0, .int .i64 0, .int .i64 0, .int .i64 0, .int .i64 0, .int .i64 0, .int .i64 0, .int .i64 0, .int .i64 0, .int .i64 0, .int .i64 0, .int .i64 0, .int .i64 0, .int .i64 0, .int .i64 0, .int .i64 0] 55))
  have hx2 := BoxL.new ((w.alloc (.cells #[.slice p.pa PL p.pc] 24)).alloc (.cells #[.int .i64 op, .int .i64 f, .int .i64 b, .int .i64 tob, .int .i64 other, .int .i64 pos, .int .i64 id, .int .i64 kind, .int .i64 dst, .int .i64 a, .int .i64 b2, .int .i64 c, .int .i64 f2, .int .i64 n, .int .i64 x0, .int .i64 x1, .int .i64 x2] 55)) [.int .i64 0, .int .i64 0, .int .i64 0, .int .i64 0, .int .i64 0, .int .i64 0, .int .i64 0, .int .i64 0, .int .i64 0, .int .i64 0, .int .i64 0, .int .i64 0, .int .i64 0, .int .i64 0, .int .i64 0, .int .i64 0, .int .i64 0] 55
  rw [World.size_alloc, World.size_alloc] at hx2
  have HX2 := Lib.hid (show BoxL (((w.alloc (.cells #[.slice p.pa PL p.pc] 24)).alloc (.cells #[.int .i64 op, .int .i64 f, .int .i64 b, .int .i64 tob, .int .i64 other, .int .i64 pos, .int .i64 id, .int .i64 kind, .int .i64 dst, .int .i64 a, .int .i64 b2, .int .i64 c, .int .i64 f2, .int .i64 n, .int .i64 x0, .int .i64 x1, .int .i64 x2] 55)).alloc (.cells #[.int .i64 0, .int .i64 0, .int .i64 0, .int .i64 0, .int .i64 0, .int .i64 0, .int .i64 0, .int .i64 0, .int .i64 0, .int .i64 0, .int .i64 0, .int .i64 0, .int .i64 0, .int .i64 0, .int .i64 0, .int .i64 0, .int .i64 0] 55)) (w.heap.size + 1 + 1) [.int .i64 0, .int .i64 0, .int .i64 0, .int .i64 0, .int .i64 0, .int .i64 0, .int .i64 0, .int .i64 0, .int .i64 0, .int .i64 0, .int .i64 0, .int .i64 0, .int .i64 0, .int .i64 0, .int .i64 0, .int .i64 0, .int .i64 0] from hx2)
  clear hx0 hx1 hx2
  have HRW := Lib.hid (HRD0.out.on HBb.out)
  generalize hW : (((w.alloc (.cells #[.slice p.pa PL p.pc] 24)).alloc (.cells #[.int .i64 op, .int .i64 f, .int .i64 b, .int .i64 tob, .int .i64 other, .int .i64 pos, .int .i64 id, .int .i64 kind, .int .i64 dst, .int .i64 a, .int .i64 b2, .int .i64 c, .int .i64 f2, .int .i64 n, .int .i64 x0, .int .i64 x1, .int .i64 x2] 55)).alloc (.cells #[.int .i64 0, .int .i64 0, .int .i64 0, .int .i64 0, .int .i64 0, .int .i64 0, .int .i64 0, .int .i64 0, .int .i64 0, .int .i64 0, .int .i64 0, .int .i64 0, .int .i64 0, .int .i64 0, .int .i64 0, .int .i64 0, .int .i64 0] 55)) = W at HBb HX0 HX1 HX2 HRW
  obtain ⟨g, hg⟩ : ∃ g, w.heap.size = g := ⟨_, rfl⟩
  have HGL := Lib.hid HBb.out.size
  rw [hg] at HBb HGL HX0 HX1 HX2
  have HL0 := Lib.hid (HX0.out.lt (Nat.zero_lt_succ _))
  have HL1 := Lib.hid (HX1.out.lt (Nat.zero_lt_succ _))
  have HL2 := Lib.hid (HX2.out.lt (Nat.zero_lt_succ _))
  have HC : Hid (∀ wr, Below W.heap.size W wr → wr.cell? ⟨g, 0, none⟩ = some (.slice p.pa PL p.pc) ∧ wr.cell? ⟨g + 1, 0, none⟩ = some (.int .i64 op) ∧ wr.cell? ⟨g + 1, 1, none⟩ = some (.int .i64 f) ∧ wr.cell? ⟨g + 1, 2, none⟩ = some (.int .i64 b) ∧ wr.cell? ⟨g + 1, 3, none⟩ = some (.int .i64 tob) ∧ wr.cell? ⟨g + 1, 4, none⟩ = some (.int .i64 other) ∧ wr.cell? ⟨g + 1, 5, none⟩ = some (.int .i64 pos) ∧ wr.rangeAt (g + 1) 0 [.int .i64 op, .int .i64 f, .int .i64 b, .int .i64 tob, .int .i64 other, .int .i64 pos, .int .i64 id, .int .i64 kind, .int .i64 dst, .int .i64 a, .int .i64 b2, .int .i64 c, .int .i64 f2, .int .i64 n, .int .i64 x0, .int .i64 x1, .int .i64 x2] ∧ BoxL wr (g + 1 + 1) [.int .i64 0, .int .i64 0, .int .i64 0, .int .i64 0, .int .i64 0, .int .i64 0, .int .i64 0, .int .i64 0, .int .i64 0, .int .i64 0, .int .i64 0, .int .i64 0, .int .i64 0, .int .i64 0, .int .i64 0, .int .i64 0, .int .i64 0]) := Lib.hid fun wr hb => ⟨((HX0.out.below hb HL0.out) 0 _ rfl).1, ((HX1.out.below hb HL1.out) 0 _ rfl).1, ((HX1.out.below hb HL1.out) 1 _ rfl).1, ((HX1.out.below hb HL1.out) 2 _ rfl).1, ((HX1.out.below hb HL1.out) 3 _ rfl).1, ((HX1.out.below hb HL1.out) 4 _ rfl).1, ((HX1.out.below hb HL1.out) 5 _ rfl).1, (HX1.out.below hb HL1.out).range, HX2.out.below hb HL2.out⟩
  have HBN : Hid (Below W.heap.size W W) := Lib.hid (Below.refl _ _)
  obtain ⟨k0, k1, k2, k3, k4, k5, k6, -, -⟩ := HC.out _ HBN.out
  go_enter Tryz.func51, Tryz.ntmps51
  go_upto_region 1 with fail
  go_upto_region 2 with (first
    | (go_at_call 49; refine (HAP.out _ (HRW.out.on HBN.out)).mono ?_; rintro x we ⟨q, rfl, hqi, -, hqd, hbn⟩; have HQI := Lib.hid hqi; have HQD := Lib.hid hqd; clear hqi hqd; have hbx := HBN.out.trans (hbn.mono HBN.out.size); clear HBN hbn k0 k1 k2 k3 k4 k5 k6; have HBN := Lib.hid hbx; clear hbx; obtain ⟨k0, k1, k2, k3, k4, k5, k6, -, -⟩ := HC.out _ HBN.out)
    | ((with_reducible apply wpList_load_w (ty := 55) (b := g + 1) (o := 0) (cs := [.int .i64 op, .int .i64 f, .int .i64 b, .int .i64 tob, .int .i64 other, .int .i64 pos, .int .i64 id, .int .i64 kind, .int .i64 dst, .int .i64 a, .int .i64 b2, .int .i64 c, .int .i64 f2, .int .i64 n, .int .i64 x0, .int .i64 x1, .int .i64 x2])); rotate_left; rfl; rfl; exact (HC.out _ HBN.out).2.2.2.2.2.2.2.1; exact Tryz.underlying55; rfl; kernel_rfl; rotate_left; rfl; simp only [Act.put, List.setIfInBounds_toArray, List.set_cons_zero, List.set_cons_succ]))
  obtain ⟨QL, hQL⟩ : ∃ QL, q.funs.length = QL := ⟨_, rfl⟩
  have HQL := Lib.hid hQL
  simp only [hQL]
  clear hQL
  have hx := BoxL.new we [.slice q.pa QL q.pc] 24
  have hb5 := below1 we (.cells #[.slice q.pa QL q.pc] 24)
  have HXQ : Hid (BoxL (we.alloc (.cells #[.slice q.pa QL q.pc] 24)) we.heap.size [.slice q.pa QL q.pc]) := Lib.hid hx
  have HRQ := Lib.hid (show Rd (we.alloc (.cells #[.slice q.pa QL q.pc] 24)) q from (show Rd we q from ⟨HQI.out, (HRW.out.on HBN.out).2.1, (HRW.out.on HBN.out).2.2⟩).on hb5)
  have HBM := Lib.hid (HBN.out.trans (hb5.mono HBN.out.size))
  have HGE := Lib.hid HBN.out.size
  clear hx hb5 HBN k0 k1 k2 k3 k4 k5 k6
  generalize we.alloc (.cells #[.slice q.pa QL q.pc] 24) = W5 at *
  generalize we.heap.size = gq at *
  have HLQ := Lib.hid (HXQ.out.lt (Nat.zero_lt_succ _))
  have HRP := Lib.hid (HRW.out.on HBM.out)
  have HC5 : Hid (∀ wr, Below W5.heap.size W5 wr → wr.cell? ⟨g, 0, none⟩ = some (.slice p.pa PL p.pc) ∧ wr.cell? ⟨g + 1, 0, none⟩ = some (.int .i64 op) ∧ wr.cell? ⟨g + 1, 1, none⟩ = some (.int .i64 f) ∧ wr.cell? ⟨g + 1, 2, none⟩ = some (.int .i64 b) ∧ wr.cell? ⟨g + 1, 3, none⟩ = some (.int .i64 tob) ∧ wr.cell? ⟨g + 1, 4, none⟩ = some (.int .i64 other) ∧ wr.cell? ⟨g + 1, 5, none⟩ = some (.int .i64 pos) ∧ wr.rangeAt (g + 1) 0 [.int .i64 op, .int .i64 f, .int .i64 b, .int .i64 tob, .int .i64 other, .int .i64 pos, .int .i64 id, .int .i64 kind, .int .i64 dst, .int .i64 a, .int .i64 b2, .int .i64 c, .int .i64 f2, .int .i64 n, .int .i64 x0, .int .i64 x1, .int .i64 x2] ∧ BoxL wr (g + 1 + 1) [.int .i64 0, .int .i64 0, .int .i64 0, .int .i64 0, .int .i64 0, .int .i64 0, .int .i64 0, .int .i64 0, .int .i64 0, .int .i64 0, .int .i64 0, .int .i64 0, .int .i64 0, .int .i64 0, .int .i64 0, .int .i64 0, .int .i64 0]) := Lib.hid fun wr hb => HC.out wr (HBM.out.trans (hb.mono HBM.out.size))
  have HBN : Hid (Below W5.heap.size W5 W5) := Lib.hid (Below.refl _ _)
  obtain ⟨k0, k1, k2, k3, k4, k5, k6, -, -⟩ := HC5.out _ HBN.out
  go_wp2_with ((with_reducible apply wpList_store_mid (ty := 55) (b := g + 1 + 1) (o := 0) (cells := #[.int .i64 0, .int .i64 0, .int .i64 0, .int .i64 0, .int .i64 0, .int .i64 0, .int .i64 0, .int .i64 0, .int .i64 0, .int .i64 0, .int .i64 0, .int .i64 0, .int .i64 0, .int .i64 0, .int .i64 0, .int .i64 0, .int .i64 0])); rotate_left; rfl; rfl; rfl; exact (HC5.out _ HBN.out).2.2.2.2.2.2.2.2.there; kernel_rfl; simp [Value.oneCell']; rotate_left; rfl; simp only [Act.put])
  refine bodyPost_ret (ret_box rfl _ _ (g + 1 + 1) [.int .i64 0, .int .i64 0, .int .i64 0, .int .i64 0, .int .i64 0, .int .i64 0, .int .i64 0, .int .i64 0, .int .i64 0, .int .i64 0, .int .i64 0, .int .i64 0, .int .i64 0, .int .i64 0, .int .i64 0, .int .i64 0, .int .i64 0] _ _ rfl rfl ((HC5.out _ HBN.out).2.2.2.2.2.2.2.2.setAll _ rfl) Tryz.underlying55 rfl (by kernel_rfl)) rfl ⟨rfl, ?_⟩
  rw [hg]
  exact below_setCells (by omega) _ _ _ (HBb.out.trans ((HBM.out.trans (HBN.out.mono HBM.out.size)).mono HGL.out))

set_option maxRecDepth 100000 in
set_option maxHeartbeats 16000000 in
theorem undo0 (p : Pg) (e : Ed) (w : World) (h : Rd w p) (hfew : p.few) (hwf : p.wf) (hc : chk p e = 0) (ho : e.op = 0) :
    Calls Tryz.prog 51 #[p.val, e.val] w fun x w' => UndRes p e w w' x := by
  have HAP := Lib.hid (fun wr (h : Rd wr p) => Apply_any p e wr h hfew hwf)
  have hub := undoB_02 (p := p) (e := e) (by omega)
  have hue := undoE_no hub
  simp only [AppRes, hc] at HAP
  clear hc
  unfold UndRes
  rw [hub, hue]
  clear hub hue
  have HRD0 := Lib.hid h
  have hlen10 := hfew.1
  clear h hfew hwf
  obtain ⟨op, f, b, tob, other, pos, ⟨id, kind, dst, a, b2, c, f2, n, x0, x1, x2⟩⟩ := e
  try dsimp only at *
  subst ho
  unfold Pg.val Ed.val at HAP
  unfold Pg.val Ed.val
  try dsimp only at *
  try unfold Pg.val at *
  obtain ⟨PL, hPL⟩ : ∃ PL, p.funs.length = PL := ⟨_, rfl⟩
  simp only [hPL] at HAP hlen10 ⊢
  clear hPL
  have HBb := Lib.hid (below3 w (.cells #[.slice p.pa PL p.pc] 24) (.cells #[.int .i64 0, .int .i64 f, .int .i64 b, .int .i64 tob, .int .i64 other, .int .i64 pos, .int .i64 id, .int .i64 kind, .int .i64 dst, .int .i64 a, .int .i64 b2, .int .i64 c, .int .i64 f2, .int .i64 n, .int .i64 x0, .int .i64 x1, .int .i64 x2] 55) (.cells #[.int .i64 0, .int .i64 0, .int .i64 0, .int .i64 0, .int .i64 0, .int .i64 0, .int .i64 0, .int .i64 0, .int .i64 0, .int .i64 0, .int .i64 0, .int .i64 0, .int .i64 0, .int .i64 0, .int .i64 0, .int .i64 0, .int .i64 0] 55))
  have hx0 := BoxL.new w [.slice p.pa PL p.pc] 24
  have HX0 := Lib.hid (show BoxL (((w.alloc (.cells #[.slice p.pa PL p.pc] 24)).alloc (.cells #[.int .i64 0, .int .i64 f, .int .i64 b, .int .i64 tob, .int .i64 other, .int .i64 pos, .int .i64 id, .int .i64 kind, .int .i64 dst, .int .i64 a, .int .i64 b2, .int .i64 c, .int .i64 f2, .int .i64 n, .int .i64 x0, .int .i64 x1, .int .i64 x2] 55)).alloc (.cells #[.int .i64 0, .int .i64 0, .int .i64 0, .int .i64 0, .int .i64 0, .int .i64 0, .int .i64 0, .int .i64 0, .int .i64 0, .int .i64 0, .int .i64 0, .int .i64 0, .int .i64 0, .int .i64 0, .int .i64 0, .int .i64 0, .int .i64 0] 55)) (w.heap.size) [.slice p.pa PL p.pc] from ((hx0).alloc (Nat.zero_lt_succ _) (.cells #[.int .i64 0, .int .i64 f, .int .i64 b, .int .i64 tob, .int .i64 other, .int .i64 pos, .int .i64 id, .int .i64 kind, .int .i64 dst, .int .i64 a, .int .i64 b2, .int .i64 c, .int .i64 f2, .int .i64 n, .int .i64 x0, .int .i64 x1, .int .i64 x2] 55)).alloc (Nat.zero_lt_succ _) (.cells #[.int .i64 0, .int .i64 0, .int .i64 0, .int .i64 0, .int .i64 0, .int .i64 0, .int .i64 0, .int .i64 0, .int .i64 0, .int .i64 0, .int .i64 0, .int .i64 0, .int .i64 0, .int .i64 0, .int .i64 0, .int .i64 0, .int .i64 0] 55))
  have hx1 := BoxL.new (w.alloc (.cells #[.slice p.pa PL p.pc] 24)) [.int .i64 0, .int .i64 f, .int .i64 b, .int .i64 tob, .int .i64 other, .int .i64 pos, .int .i64 id, .int .i64 kind, .int .i64 dst, .int .i64 a, .int .i64 b2, .int .i64 c, .int .i64 f2, .int .i64 n, .int .i64 x0, .int .i64 x1, .int .i64 x2] 55
  rw [World.size_alloc] at hx1
  have HX1 := Lib.hid (show BoxL (((w.alloc (.cells #[.slice p.pa PL p.pc] 24)).alloc (.cells #[.int .i64 0, .int .i64 f, .int .i64 b, .int .i64 tob, .int .i64 other, .int .i64 pos, .int .i64 id, .int .i64 kind, .int .i64 dst, .int .i64 a, .int .i64 b2, .int .i64 c, .int .i64 f2, .int .i64 n, .int .i64 x0, .int .i64 x1, .int .i64 x2] 55)).alloc (.cells #[.int .i64 0, .int .i64 0, .int .i64 0, .int .i64 0, .int .i64 0, .int .i64 0, .int .i64 0, .int .i64 0, .int .i64 0, .int .i64 0, .int .i64 0, .int .i64 0, .int .i64 0, .int .i64 0, .int .i64 0, .int .i64 0, .int .i64 0] 55)) (w.heap.size + 1) [.int .i64 0, .int .i64 f, .int .i64 b, .int .i64 tob, .int .i64 other, .int .i64 pos, .int .i64 id, .int .i64 kind, .int .i64 dst, .int .i64 a, .int .i64 b2, .int .i64 c, .int .i64 f2, .int .i64 n, .int .i64 x0, .int .i64 x1, .int .i64 x2] from (hx1).alloc (Nat.zero_lt_succ _) (.cells #[.int .i64 0, .int .i64 0, .int .i64 0, .int .i64 0, .int .i64 0, .int .i64 0, .int .i64 0, .int .i64 0, .int .i64 0, .int .i64 0, .int .i64 0, .int .i64 0, .int .i64 0, .int .i64 0, .int .i64 0, .int .i64 0, .int .i64 0] 55))
  have hx2 := BoxL.new ((w.alloc (.cells #[.slice p.pa PL p.pc] 24)).alloc (.cells #[.int .i64 0, .int .i64 f, .int .i64 b, .int .i64 tob, .int .i64 other, .int .i64 pos, .int .i64 id, .int .i64 kind, .int .i64 dst, .int .i64 a, .int .i64 b2, .int .i64 c, .int .i64 f2, .int .i64 n, .int .i64 x0, .int .i64 x1, .int .i64 x2] 55)) [.int .i64 0, .int .i64 0, .int .i64 0, .int .i64 0, .int .i64 0, .int .i64 0, .int .i64 0, .int .i64 0, .int .i64 0, .int .i64 0, .int .i64 0, .int .i64 0, .int .i64 0, .int .i64 0, .int .i64 0, .int .i64 0, .int .i64 0] 55
  rw [World.size_alloc, World.size_alloc] at hx2
  have HX2 := Lib.hid (show BoxL (((w.alloc (.cells #[.slice p.pa PL p.pc] 24)).alloc (.cells #[.int .i64 0, .int .i64 f, .int .i64 b, .int .i64 tob, .int .i64 other, .int .i64 pos, .int .i64 id, .int .i64 kind, .int .i64 dst, .int .i64 a, .int .i64 b2, .int .i64 c, .int .i64 f2, .int .i64 n, .int .i64 x0, .int .i64 x1, .int .i64 x2] 55)).alloc (.cells #[.int .i64 0, .int .i64 0, .int .i64 0, .int .i64 0, .int .i64 0, .int .i64 0, .int .i64 0, .int .i64 0, .int .i64 0, .int .i64 0, .int .i64 0, .int .i64 0, .int .i64 0, .int .i64 0, .int .i64 0, .int .i64 0, .int .i64 0] 55)) (w.heap.size + 1 + 1) [.int .i64 0, .int .i64 0, .int .i64 0, .int .i64 0, .int .i64 0, .int .i64 0, .int .i64 0, .int .i64 0, .int .i64 0, .int .i64 0, .int .i64 0, .int .i64 0, .int .i64 0, .int .i64 0, .int .i64 0, .int .i64 0, .int .i64 0] from hx2)
  clear hx0 hx1 hx2
  have HRW := Lib.hid (HRD0.out.on HBb.out)
  generalize hW : (((w.alloc (.cells #[.slice p.pa PL p.pc] 24)).alloc (.cells #[.int .i64 0, .int .i64 f, .int .i64 b, .int .i64 tob, .int .i64 other, .int .i64 pos, .int .i64 id, .int .i64 kind, .int .i64 dst, .int .i64 a, .int .i64 b2, .int .i64 c, .int .i64 f2, .int .i64 n, .int .i64 x0, .int .i64 x1, .int .i64 x2] 55)).alloc (.cells #[.int .i64 0, .int .i64 0, .int .i64 0, .int .i64 0, .int .i64 0, .int .i64 0, .int .i64 0, .int .i64 0, .int .i64 0, .int .i64 0, .int .i64 0, .int .i64 0, .int .i64 0, .int .i64 0, .int .i64 0, .int .i64 0, .int .i64 0] 55)) = W at HBb HX0 HX1 HX2 HRW
  obtain ⟨g, hg⟩ : ∃ g, w.heap.size = g := ⟨_, rfl⟩
  have HGL := Lib.hid HBb.out.size
  rw [hg] at HBb HGL HX0 HX1 HX2
  have HL0 := Lib.hid (HX0.out.lt (Nat.zero_lt_succ _))
  have HL1 := Lib.hid (HX1.out.lt (Nat.zero_lt_succ _))
  have HL2 := Lib.hid (HX2.out.lt (Nat.zero_lt_succ _))
  have HC : Hid (∀ wr, Below W.heap.size W wr → wr.cell? ⟨g, 0, none⟩ = some (.slice p.pa PL p.pc) ∧ wr.cell? ⟨g + 1, 0, none⟩ = some (.int .i64 0) ∧ wr.cell? ⟨g + 1, 1, none⟩ = some (.int .i64 f) ∧ wr.cell? ⟨g + 1, 2, none⟩ = some (.int .i64 b) ∧ wr.cell? ⟨g + 1, 3, none⟩ = some (.int .i64 tob) ∧ wr.cell? ⟨g + 1, 4, none⟩ = some (.int .i64 other) ∧ wr.cell? ⟨g + 1, 5, none⟩ = some (.int .i64 pos) ∧ wr.rangeAt (g + 1) 0 [.int .i64 0, .int .i64 f, .int .i64 b, .int .i64 tob, .int .i64 other, .int .i64 pos, .int .i64 id, .int .i64 kind, .int .i64 dst, .int .i64 a, .int .i64 b2, .int .i64 c, .int .i64 f2, .int .i64 n, .int .i64 x0, .int .i64 x1, .int .i64 x2] ∧ BoxL wr (g + 1 + 1) [.int .i64 0, .int .i64 0, .int .i64 0, .int .i64 0, .int .i64 0, .int .i64 0, .int .i64 0, .int .i64 0, .int .i64 0, .int .i64 0, .int .i64 0, .int .i64 0, .int .i64 0, .int .i64 0, .int .i64 0, .int .i64 0, .int .i64 0]) := Lib.hid fun wr hb => ⟨((HX0.out.below hb HL0.out) 0 _ rfl).1, ((HX1.out.below hb HL1.out) 0 _ rfl).1, ((HX1.out.below hb HL1.out) 1 _ rfl).1, ((HX1.out.below hb HL1.out) 2 _ rfl).1, ((HX1.out.below hb HL1.out) 3 _ rfl).1, ((HX1.out.below hb HL1.out) 4 _ rfl).1, ((HX1.out.below hb HL1.out) 5 _ rfl).1, (HX1.out.below hb HL1.out).range, HX2.out.below hb HL2.out⟩
  have HBN : Hid (Below W.heap.size W W) := Lib.hid (Below.refl _ _)
  obtain ⟨k0, k1, k2, k3, k4, k5, k6, -, -⟩ := HC.out _ HBN.out
  go_enter Tryz.func51, Tryz.ntmps51
  go_upto_region 1 with fail
  go_upto_region 2 with (first
    | (go_at_call 49; refine (HAP.out _ (HRW.out.on HBN.out)).mono ?_; rintro x we ⟨q, rfl, hqi, -, hqd, hbn⟩; have HQI := Lib.hid hqi; have HQD := Lib.hid hqd; clear hqi hqd; have hbx := HBN.out.trans (hbn.mono HBN.out.size); clear HBN hbn k0 k1 k2 k3 k4 k5 k6; have HBN := Lib.hid hbx; clear hbx; obtain ⟨k0, k1, k2, k3, k4, k5, k6, -, -⟩ := HC.out _ HBN.out)
    | ((with_reducible apply wpList_load_w (ty := 55) (b := g + 1) (o := 0) (cs := [.int .i64 0, .int .i64 f, .int .i64 b, .int .i64 tob, .int .i64 other, .int .i64 pos, .int .i64 id, .int .i64 kind, .int .i64 dst, .int .i64 a, .int .i64 b2, .int .i64 c, .int .i64 f2, .int .i64 n, .int .i64 x0, .int .i64 x1, .int .i64 x2])); rotate_left; rfl; rfl; exact (HC.out _ HBN.out).2.2.2.2.2.2.2.1; exact Tryz.underlying55; rfl; kernel_rfl; rotate_left; rfl; simp only [Act.put, List.setIfInBounds_toArray, List.set_cons_zero, List.set_cons_succ]))
  obtain ⟨QL, hQL⟩ : ∃ QL, q.funs.length = QL := ⟨_, rfl⟩
  have HQL := Lib.hid hQL
  simp only [hQL]
  clear hQL
  have hx := BoxL.new we [.slice q.pa QL q.pc] 24
  have hb5 := below1 we (.cells #[.slice q.pa QL q.pc] 24)
  have HXQ : Hid (BoxL (we.alloc (.cells #[.slice q.pa QL q.pc] 24)) we.heap.size [.slice q.pa QL q.pc]) := Lib.hid hx
  have HRQ := Lib.hid (show Rd (we.alloc (.cells #[.slice q.pa QL q.pc] 24)) q from (show Rd we q from ⟨HQI.out, (HRW.out.on HBN.out).2.1, (HRW.out.on HBN.out).2.2⟩).on hb5)
  have HBM := Lib.hid (HBN.out.trans (hb5.mono HBN.out.size))
  have HGE := Lib.hid HBN.out.size
  clear hx hb5 HBN k0 k1 k2 k3 k4 k5 k6
  generalize we.alloc (.cells #[.slice q.pa QL q.pc] 24) = W5 at *
  generalize we.heap.size = gq at *
  have HLQ := Lib.hid (HXQ.out.lt (Nat.zero_lt_succ _))
  have HRP := Lib.hid (HRW.out.on HBM.out)
  have HC5 : Hid (∀ wr, Below W5.heap.size W5 wr → wr.cell? ⟨g, 0, none⟩ = some (.slice p.pa PL p.pc) ∧ wr.cell? ⟨g + 1, 0, none⟩ = some (.int .i64 0) ∧ wr.cell? ⟨g + 1, 1, none⟩ = some (.int .i64 f) ∧ wr.cell? ⟨g + 1, 2, none⟩ = some (.int .i64 b) ∧ wr.cell? ⟨g + 1, 3, none⟩ = some (.int .i64 tob) ∧ wr.cell? ⟨g + 1, 4, none⟩ = some (.int .i64 other) ∧ wr.cell? ⟨g + 1, 5, none⟩ = some (.int .i64 pos) ∧ wr.rangeAt (g + 1) 0 [.int .i64 0, .int .i64 f, .int .i64 b, .int .i64 tob, .int .i64 other, .int .i64 pos, .int .i64 id, .int .i64 kind, .int .i64 dst, .int .i64 a, .int .i64 b2, .int .i64 c, .int .i64 f2, .int .i64 n, .int .i64 x0, .int .i64 x1, .int .i64 x2] ∧ BoxL wr (g + 1 + 1) [.int .i64 0, .int .i64 0, .int .i64 0, .int .i64 0, .int .i64 0, .int .i64 0, .int .i64 0, .int .i64 0, .int .i64 0, .int .i64 0, .int .i64 0, .int .i64 0, .int .i64 0, .int .i64 0, .int .i64 0, .int .i64 0, .int .i64 0]) := Lib.hid fun wr hb => HC.out wr (HBM.out.trans (hb.mono HBM.out.size))
  have HBN : Hid (Below W5.heap.size W5 W5) := Lib.hid (Below.refl _ _)
  obtain ⟨k0, k1, k2, k3, k4, k5, k6, -, -⟩ := HC5.out _ HBN.out
  go_upto_region 5 with ((with_reducible apply wpList_store_new (ty := 55) (c := #[.int .i64 0, .int .i64 0, .int .i64 0, .int .i64 0, .int .i64 0, .int .i64 0, .int .i64 0, .int .i64 0, .int .i64 0, .int .i64 0, .int .i64 0, .int .i64 0, .int .i64 0, .int .i64 0, .int .i64 0, .int .i64 0, .int .i64 0]) (c' := #[.int .i64 0, .int .i64 f, .int .i64 b, .int .i64 0, .int .i64 0, .int .i64 0, .int .i64 0, .int .i64 0, .int .i64 0, .int .i64 0, .int .i64 0, .int .i64 0, .int .i64 0, .int .i64 0, .int .i64 0, .int .i64 0, .int .i64 0])); rfl; rfl; rfl; rfl; kernel_rfl; rfl; simp [Value.oneCell']; simp only [Act.put])
  have HXB : Hid (BoxL (W5.alloc (.cells #[.int .i64 0, .int .i64 f, .int .i64 b, .int .i64 0, .int .i64 0, .int .i64 0, .int .i64 0, .int .i64 0, .int .i64 0, .int .i64 0, .int .i64 0, .int .i64 0, .int .i64 0, .int .i64 0, .int .i64 0, .int .i64 0, .int .i64 0] 55)) W5.heap.size [.int .i64 0, .int .i64 f, .int .i64 b, .int .i64 0, .int .i64 0, .int .i64 0, .int .i64 0, .int .i64 0, .int .i64 0, .int .i64 0, .int .i64 0, .int .i64 0, .int .i64 0, .int .i64 0, .int .i64 0, .int .i64 0, .int .i64 0]) := Lib.hid (BoxL.new W5 _ _)
  have HB6 := Lib.hid (below1 W5 (.cells #[.int .i64 0, .int .i64 f, .int .i64 b, .int .i64 0, .int .i64 0, .int .i64 0, .int .i64 0, .int .i64 0, .int .i64 0, .int .i64 0, .int .i64 0, .int .i64 0, .int .i64 0, .int .i64 0, .int .i64 0, .int .i64 0, .int .i64 0] 55))
  clear HBN k0 k1 k2 k3 k4 k5 k6
  generalize W5.alloc (.cells #[.int .i64 0, .int .i64 f, .int .i64 b, .int .i64 0, .int .i64 0, .int .i64 0, .int .i64 0, .int .i64 0, .int .i64 0, .int .i64 0, .int .i64 0, .int .i64 0, .int .i64 0, .int .i64 0, .int .i64 0, .int .i64 0, .int .i64 0] 55) = W6 at *
  have hgb : g + 1 + 1 < W5.heap.size := Nat.lt_of_lt_of_le HL2.out HBM.out.size
  have HGM := Lib.hid (Nat.le_trans HGL.out HBM.out.size)
  obtain ⟨gb, hgbe⟩ : ∃ n, W5.heap.size = n := ⟨_, rfl⟩
  have HB6' := HB6
  rw [hgbe] at HXB hgb HB6' HGM
  have HLB := Lib.hid (HXB.out.lt (Nat.zero_lt_succ _))
  rw [hgbe]
  have HC6 : Hid (∀ wr, Below gb W6 wr → wr.cell? ⟨g, 0, none⟩ = some (.slice p.pa PL p.pc) ∧ wr.cell? ⟨g + 1, 0, none⟩ = some (.int .i64 0) ∧ wr.cell? ⟨g + 1, 1, none⟩ = some (.int .i64 f) ∧ wr.cell? ⟨g + 1, 2, none⟩ = some (.int .i64 b) ∧ wr.cell? ⟨g + 1, 3, none⟩ = some (.int .i64 tob) ∧ wr.cell? ⟨g + 1, 4, none⟩ = some (.int .i64 other) ∧ wr.cell? ⟨g + 1, 5, none⟩ = some (.int .i64 pos) ∧ wr.rangeAt (g + 1) 0 [.int .i64 0, .int .i64 f, .int .i64 b, .int .i64 tob, .int .i64 other, .int .i64 pos, .int .i64 id, .int .i64 kind, .int .i64 dst, .int .i64 a, .int .i64 b2, .int .i64 c, .int .i64 f2, .int .i64 n, .int .i64 x0, .int .i64 x1, .int .i64 x2] ∧ BoxL wr (g + 1 + 1) [.int .i64 0, .int .i64 0, .int .i64 0, .int .i64 0, .int .i64 0, .int .i64 0, .int .i64 0, .int .i64 0, .int .i64 0, .int .i64 0, .int .i64 0, .int .i64 0, .int .i64 0, .int .i64 0, .int .i64 0, .int .i64 0, .int .i64 0]) := Lib.hid fun wr hb => HC5.out wr (HB6.out.trans (by rw [hgbe]; exact hb))
  have HBN : Hid (Below gb W6 W6) := Lib.hid (Below.refl _ _)
  obtain ⟨k0, k1, k2, k3, k4, k5, k6, -, -⟩ := HC6.out _ HBN.out
  clear HC5 HC HXQ
  go_wp2_with ((with_reducible apply wpList_store_mid (ty := 55) (b := g + 1 + 1) (o := 0) (cells := #[.int .i64 0, .int .i64 0, .int .i64 0, .int .i64 0, .int .i64 0, .int .i64 0, .int .i64 0, .int .i64 0, .int .i64 0, .int .i64 0, .int .i64 0, .int .i64 0, .int .i64 0, .int .i64 0, .int .i64 0, .int .i64 0, .int .i64 0])); rotate_left; rfl; rfl; rfl; exact (HC6.out _ HBN.out).2.2.2.2.2.2.2.2.there; kernel_rfl; simp [Value.oneCell']; rotate_left; rfl; simp only [Act.put])
  refine bodyPost_ret (ret_box rfl _ _ (g + 1 + 1) [.int .i64 0, .int .i64 0, .int .i64 0, .int .i64 0, .int .i64 0, .int .i64 0, .int .i64 0, .int .i64 0, .int .i64 0, .int .i64 0, .int .i64 0, .int .i64 0, .int .i64 0, .int .i64 0, .int .i64 0, .int .i64 0, .int .i64 0] _ _ rfl rfl ((HC6.out _ HBN.out).2.2.2.2.2.2.2.2.setAll _ rfl) Tryz.underlying55 rfl (by kernel_rfl)) rfl ⟨rfl, ?_⟩
  rw [hg]
  exact below_setCells (by omega) _ _ _ (HBb.out.trans ((HBM.out.trans ((HB6.out.trans (by rw [hgbe]; exact HBN.out)).mono HBM.out.size)).mono HGL.out))

set_option maxRecDepth 100000 in
set_option maxHeartbeats 16000000 in
theorem undo2 (p : Pg) (e : Ed) (w : World) (h : Rd w p) (hfew : p.few) (hwf : p.wf) (hc : chk p e = 0) (ho : e.op = 2) :
    Calls Tryz.prog 51 #[p.val, e.val] w fun x w' => UndRes p e w w' x := by
  have HAP := Lib.hid (fun wr (h : Rd wr p) => Apply_any p e wr h hfew hwf)
  have hub := undoB_02 (p := p) (e := e) (by omega)
  have hue := undoE_no hub
  simp only [AppRes, hc] at HAP
  clear hc
  unfold UndRes
  rw [hub, hue]
  clear hub hue
  have HRD0 := Lib.hid h
  have hlen10 := hfew.1
  clear h hfew hwf
  obtain ⟨op, f, b, tob, other, pos, ⟨id, kind, dst, a, b2, c, f2, n, x0, x1, x2⟩⟩ := e
  try dsimp only at *
  subst ho
  unfold Pg.val Ed.val at HAP
  unfold Pg.val Ed.val
  try dsimp only at *
  try unfold Pg.val at *
  obtain ⟨PL, hPL⟩ : ∃ PL, p.funs.length = PL := ⟨_, rfl⟩
  simp only [hPL] at HAP hlen10 ⊢
  clear hPL
  have HBb := Lib.hid (below3 w (.cells #[.slice p.pa PL p.pc] 24) (.cells #[.int .i64 2, .int .i64 f, .int .i64 b, .int .i64 tob, .int .i64 other, .int .i64 pos, .int .i64 id, .int .i64 kind, .int .i64 dst, .int .i64 a, .int .i64 b2, .int .i64 c, .int .i64 f2, .int .i64 n, .int .i64 x0, .int .i64 x1, .int .i64 x2] 55) (.cells #[.int .i64 0, .int .i64 0, .int .i64 0, .int .i64 0, .int .i64 0, .int .i64 0, .int .i64 0, .int .i64 0, .int .i64 0, .int .i64 0, .int .i64 0, .int .i64 0, .int .i64 0, .int .i64 0, .int .i64 0, .int .i64 0, .int .i64 0] 55))
  have hx0 := BoxL.new w [.slice p.pa PL p.pc] 24
  have HX0 := Lib.hid (show BoxL (((w.alloc (.cells #[.slice p.pa PL p.pc] 24)).alloc (.cells #[.int .i64 2, .int .i64 f, .int .i64 b, .int .i64 tob, .int .i64 other, .int .i64 pos, .int .i64 id, .int .i64 kind, .int .i64 dst, .int .i64 a, .int .i64 b2, .int .i64 c, .int .i64 f2, .int .i64 n, .int .i64 x0, .int .i64 x1, .int .i64 x2] 55)).alloc (.cells #[.int .i64 0, .int .i64 0, .int .i64 0, .int .i64 0, .int .i64 0, .int .i64 0, .int .i64 0, .int .i64 0, .int .i64 0, .int .i64 0, .int .i64 0, .int .i64 0, .int .i64 0, .int .i64 0, .int .i64 0, .int .i64 0, .int .i64 0] 55)) (w.heap.size) [.slice p.pa PL p.pc] from ((hx0).alloc (Nat.zero_lt_succ _) (.cells #[.int .i64 2, .int .i64 f, .int .i64 b, .int .i64 tob, .int .i64 other, .int .i64 pos, .int .i64 id, .int .i64 kind, .int .i64 dst, .int .i64 a, .int .i64 b2, .int .i64 c, .int .i64 f2, .int .i64 n, .int .i64 x0, .int .i64 x1, .int .i64 x2] 55)).alloc (Nat.zero_lt_succ _) (.cells #[.int .i64 0, .int .i64 0, .int .i64 0, .int .i64 0, .int .i64 0, .int .i64 0, .int .i64 0, .int .i64 0, .int .i64 0, .int .i64 0, .int .i64 0, .int .i64 0, .int .i64 0, .int .i64 0, .int .i64 0, .int .i64 0, .int .i64 0] 55))
  have hx1 := BoxL.new (w.alloc (.cells #[.slice p.pa PL p.pc] 24)) [.int .i64 2, .int .i64 f, .int .i64 b, .int .i64 tob, .int .i64 other, .int .i64 pos, .int .i64 id, .int .i64 kind, .int .i64 dst, .int .i64 a, .int .i64 b2, .int .i64 c, .int .i64 f2, .int .i64 n, .int .i64 x0, .int .i64 x1, .int .i64 x2] 55
  rw [World.size_alloc] at hx1
  have HX1 := Lib.hid (show BoxL (((w.alloc (.cells #[.slice p.pa PL p.pc] 24)).alloc (.cells #[.int .i64 2, .int .i64 f, .int .i64 b, .int .i64 tob, .int .i64 other, .int .i64 pos, .int .i64 id, .int .i64 kind, .int .i64 dst, .int .i64 a, .int .i64 b2, .int .i64 c, .int .i64 f2, .int .i64 n, .int .i64 x0, .int .i64 x1, .int .i64 x2] 55)).alloc (.cells #[.int .i64 0, .int .i64 0, .int .i64 0, .int .i64 0, .int .i64 0, .int .i64 0, .int .i64 0, .int .i64 0, .int .i64 0, .int .i64 0, .int .i64 0, .int .i64 0, .int .i64 0, .int .i64 0, .int .i64 0, .int .i64 0, .int .i64 0] 55)) (w.heap.size + 1) [.int .i64 2, .int .i64 f, .int .i64 b, .int .i64 tob, .int .i64 other, .int .i64 pos, .int .i64 id, .int .i64 kind, .int .i64 dst, .int .i64 a, .int .i64 b2, .int .i64 c, .int .i64 f2, .int .i64 n, .int .i64 x0, .int .i64 x1, .int .i64 x2] from (hx1).alloc (Nat.zero_lt_succ _) (.cells #[.int .i64 0, .int .i64 0, .int .i64 0, .int .i64 0, .int .i64 0, .int .i64 0, .int .i64 0, .int .i64 0, .int .i64 0, .int .i64 0, .int .i64 0, .int .i64 0, .int .i64 0, .int .i64 0, .int .i64 0, .int .i64 0, .int .i64 0] 55))
  have hx2 := BoxL.new ((w.alloc (.cells #[.slice p.pa PL p.pc] 24)).alloc (.cells #[.int .i64 2, .int .i64 f, .int .i64 b, .int .i64 tob, .int .i64 other, .int .i64 pos, .int .i64 id, .int .i64 kind, .int .i64 dst, .int .i64 a, .int .i64 b2, .int .i64 c, .int .i64 f2, .int .i64 n, .int .i64 x0, .int .i64 x1, .int .i64 x2] 55)) [.int .i64 0, .int .i64 0, .int .i64 0, .int .i64 0, .int .i64 0, .int .i64 0, .int .i64 0, .int .i64 0, .int .i64 0, .int .i64 0, .int .i64 0, .int .i64 0, .int .i64 0, .int .i64 0, .int .i64 0, .int .i64 0, .int .i64 0] 55
  rw [World.size_alloc, World.size_alloc] at hx2
  have HX2 := Lib.hid (show BoxL (((w.alloc (.cells #[.slice p.pa PL p.pc] 24)).alloc (.cells #[.int .i64 2, .int .i64 f, .int .i64 b, .int .i64 tob, .int .i64 other, .int .i64 pos, .int .i64 id, .int .i64 kind, .int .i64 dst, .int .i64 a, .int .i64 b2, .int .i64 c, .int .i64 f2, .int .i64 n, .int .i64 x0, .int .i64 x1, .int .i64 x2] 55)).alloc (.cells #[.int .i64 0, .int .i64 0, .int .i64 0, .int .i64 0, .int .i64 0, .int .i64 0, .int .i64 0, .int .i64 0, .int .i64 0, .int .i64 0, .int .i64 0, .int .i64 0, .int .i64 0, .int .i64 0, .int .i64 0, .int .i64 0, .int .i64 0] 55)) (w.heap.size + 1 + 1) [.int .i64 0, .int .i64 0, .int .i64 0, .int .i64 0, .int .i64 0, .int .i64 0, .int .i64 0, .int .i64 0, .int .i64 0, .int .i64 0, .int .i64 0, .int .i64 0, .int .i64 0, .int .i64 0, .int .i64 0, .int .i64 0, .int .i64 0] from hx2)
  clear hx0 hx1 hx2
  have HRW := Lib.hid (HRD0.out.on HBb.out)
  generalize hW : (((w.alloc (.cells #[.slice p.pa PL p.pc] 24)).alloc (.cells #[.int .i64 2, .int .i64 f, .int .i64 b, .int .i64 tob, .int .i64 other, .int .i64 pos, .int .i64 id, .int .i64 kind, .int .i64 dst, .int .i64 a, .int .i64 b2, .int .i64 c, .int .i64 f2, .int .i64 n, .int .i64 x0, .int .i64 x1, .int .i64 x2] 55)).alloc (.cells #[.int .i64 0, .int .i64 0, .int .i64 0, .int .i64 0, .int .i64 0, .int .i64 0, .int .i64 0, .int .i64 0, .int .i64 0, .int .i64 0, .int .i64 0, .int .i64 0, .int .i64 0, .int .i64 0, .int .i64 0, .int .i64 0, .int .i64 0] 55)) = W at HBb HX0 HX1 HX2 HRW
  obtain ⟨g, hg⟩ : ∃ g, w.heap.size = g := ⟨_, rfl⟩
  have HGL := Lib.hid HBb.out.size
  rw [hg] at HBb HGL HX0 HX1 HX2
  have HL0 := Lib.hid (HX0.out.lt (Nat.zero_lt_succ _))
  have HL1 := Lib.hid (HX1.out.lt (Nat.zero_lt_succ _))
  have HL2 := Lib.hid (HX2.out.lt (Nat.zero_lt_succ _))
  have HC : Hid (∀ wr, Below W.heap.size W wr → wr.cell? ⟨g, 0, none⟩ = some (.slice p.pa PL p.pc) ∧ wr.cell? ⟨g + 1, 0, none⟩ = some (.int .i64 2) ∧ wr.cell? ⟨g + 1, 1, none⟩ = some (.int .i64 f) ∧ wr.cell? ⟨g + 1, 2, none⟩ = some (.int .i64 b) ∧ wr.cell? ⟨g + 1, 3, none⟩ = some (.int .i64 tob) ∧ wr.cell? ⟨g + 1, 4, none⟩ = some (.int .i64 other) ∧ wr.cell? ⟨g + 1, 5, none⟩ = some (.int .i64 pos) ∧ wr.rangeAt (g + 1) 0 [.int .i64 2, .int .i64 f, .int .i64 b, .int .i64 tob, .int .i64 other, .int .i64 pos, .int .i64 id, .int .i64 kind, .int .i64 dst, .int .i64 a, .int .i64 b2, .int .i64 c, .int .i64 f2, .int .i64 n, .int .i64 x0, .int .i64 x1, .int .i64 x2] ∧ BoxL wr (g + 1 + 1) [.int .i64 0, .int .i64 0, .int .i64 0, .int .i64 0, .int .i64 0, .int .i64 0, .int .i64 0, .int .i64 0, .int .i64 0, .int .i64 0, .int .i64 0, .int .i64 0, .int .i64 0, .int .i64 0, .int .i64 0, .int .i64 0, .int .i64 0]) := Lib.hid fun wr hb => ⟨((HX0.out.below hb HL0.out) 0 _ rfl).1, ((HX1.out.below hb HL1.out) 0 _ rfl).1, ((HX1.out.below hb HL1.out) 1 _ rfl).1, ((HX1.out.below hb HL1.out) 2 _ rfl).1, ((HX1.out.below hb HL1.out) 3 _ rfl).1, ((HX1.out.below hb HL1.out) 4 _ rfl).1, ((HX1.out.below hb HL1.out) 5 _ rfl).1, (HX1.out.below hb HL1.out).range, HX2.out.below hb HL2.out⟩
  have HBN : Hid (Below W.heap.size W W) := Lib.hid (Below.refl _ _)
  obtain ⟨k0, k1, k2, k3, k4, k5, k6, -, -⟩ := HC.out _ HBN.out
  go_enter Tryz.func51, Tryz.ntmps51
  go_upto_region 1 with fail
  go_upto_region 2 with (first
    | (go_at_call 49; refine (HAP.out _ (HRW.out.on HBN.out)).mono ?_; rintro x we ⟨q, rfl, hqi, -, hqd, hbn⟩; have HQI := Lib.hid hqi; have HQD := Lib.hid hqd; clear hqi hqd; have hbx := HBN.out.trans (hbn.mono HBN.out.size); clear HBN hbn k0 k1 k2 k3 k4 k5 k6; have HBN := Lib.hid hbx; clear hbx; obtain ⟨k0, k1, k2, k3, k4, k5, k6, -, -⟩ := HC.out _ HBN.out)
    | ((with_reducible apply wpList_load_w (ty := 55) (b := g + 1) (o := 0) (cs := [.int .i64 2, .int .i64 f, .int .i64 b, .int .i64 tob, .int .i64 other, .int .i64 pos, .int .i64 id, .int .i64 kind, .int .i64 dst, .int .i64 a, .int .i64 b2, .int .i64 c, .int .i64 f2, .int .i64 n, .int .i64 x0, .int .i64 x1, .int .i64 x2])); rotate_left; rfl; rfl; exact (HC.out _ HBN.out).2.2.2.2.2.2.2.1; exact Tryz.underlying55; rfl; kernel_rfl; rotate_left; rfl; simp only [Act.put, List.setIfInBounds_toArray, List.set_cons_zero, List.set_cons_succ]))
  obtain ⟨QL, hQL⟩ : ∃ QL, q.funs.length = QL := ⟨_, rfl⟩
  have HQL := Lib.hid hQL
  simp only [hQL]
  clear hQL
  have hx := BoxL.new we [.slice q.pa QL q.pc] 24
  have hb5 := below1 we (.cells #[.slice q.pa QL q.pc] 24)
  have HXQ : Hid (BoxL (we.alloc (.cells #[.slice q.pa QL q.pc] 24)) we.heap.size [.slice q.pa QL q.pc]) := Lib.hid hx
  have HRQ := Lib.hid (show Rd (we.alloc (.cells #[.slice q.pa QL q.pc] 24)) q from (show Rd we q from ⟨HQI.out, (HRW.out.on HBN.out).2.1, (HRW.out.on HBN.out).2.2⟩).on hb5)
  have HBM := Lib.hid (HBN.out.trans (hb5.mono HBN.out.size))
  have HGE := Lib.hid HBN.out.size
  clear hx hb5 HBN k0 k1 k2 k3 k4 k5 k6
  generalize we.alloc (.cells #[.slice q.pa QL q.pc] 24) = W5 at *
  generalize we.heap.size = gq at *
  have HLQ := Lib.hid (HXQ.out.lt (Nat.zero_lt_succ _))
  have HRP := Lib.hid (HRW.out.on HBM.out)
  have HC5 : Hid (∀ wr, Below W5.heap.size W5 wr → wr.cell? ⟨g, 0, none⟩ = some (.slice p.pa PL p.pc) ∧ wr.cell? ⟨g + 1, 0, none⟩ = some (.int .i64 2) ∧ wr.cell? ⟨g + 1, 1, none⟩ = some (.int .i64 f) ∧ wr.cell? ⟨g + 1, 2, none⟩ = some (.int .i64 b) ∧ wr.cell? ⟨g + 1, 3, none⟩ = some (.int .i64 tob) ∧ wr.cell? ⟨g + 1, 4, none⟩ = some (.int .i64 other) ∧ wr.cell? ⟨g + 1, 5, none⟩ = some (.int .i64 pos) ∧ wr.rangeAt (g + 1) 0 [.int .i64 2, .int .i64 f, .int .i64 b, .int .i64 tob, .int .i64 other, .int .i64 pos, .int .i64 id, .int .i64 kind, .int .i64 dst, .int .i64 a, .int .i64 b2, .int .i64 c, .int .i64 f2, .int .i64 n, .int .i64 x0, .int .i64 x1, .int .i64 x2] ∧ BoxL wr (g + 1 + 1) [.int .i64 0, .int .i64 0, .int .i64 0, .int .i64 0, .int .i64 0, .int .i64 0, .int .i64 0, .int .i64 0, .int .i64 0, .int .i64 0, .int .i64 0, .int .i64 0, .int .i64 0, .int .i64 0, .int .i64 0, .int .i64 0, .int .i64 0]) := Lib.hid fun wr hb => HC.out wr (HBM.out.trans (hb.mono HBM.out.size))
  have HBN : Hid (Below W5.heap.size W5 W5) := Lib.hid (Below.refl _ _)
  obtain ⟨k0, k1, k2, k3, k4, k5, k6, -, -⟩ := HC5.out _ HBN.out
  go_upto_region 5 with ((with_reducible apply wpList_store_new (ty := 55) (c := #[.int .i64 0, .int .i64 0, .int .i64 0, .int .i64 0, .int .i64 0, .int .i64 0, .int .i64 0, .int .i64 0, .int .i64 0, .int .i64 0, .int .i64 0, .int .i64 0, .int .i64 0, .int .i64 0, .int .i64 0, .int .i64 0, .int .i64 0]) (c' := #[.int .i64 0, .int .i64 f, .int .i64 b, .int .i64 0, .int .i64 0, .int .i64 0, .int .i64 0, .int .i64 0, .int .i64 0, .int .i64 0, .int .i64 0, .int .i64 0, .int .i64 0, .int .i64 0, .int .i64 0, .int .i64 0, .int .i64 0])); rfl; rfl; rfl; rfl; kernel_rfl; rfl; simp [Value.oneCell']; simp only [Act.put])
  have HXB : Hid (BoxL (W5.alloc (.cells #[.int .i64 0, .int .i64 f, .int .i64 b, .int .i64 0, .int .i64 0, .int .i64 0, .int .i64 0, .int .i64 0, .int .i64 0, .int .i64 0, .int .i64 0, .int .i64 0, .int .i64 0, .int .i64 0, .int .i64 0, .int .i64 0, .int .i64 0] 55)) W5.heap.size [.int .i64 0, .int .i64 f, .int .i64 b, .int .i64 0, .int .i64 0, .int .i64 0, .int .i64 0, .int .i64 0, .int .i64 0, .int .i64 0, .int .i64 0, .int .i64 0, .int .i64 0, .int .i64 0, .int .i64 0, .int .i64 0, .int .i64 0]) := Lib.hid (BoxL.new W5 _ _)
  have HB6 := Lib.hid (below1 W5 (.cells #[.int .i64 0, .int .i64 f, .int .i64 b, .int .i64 0, .int .i64 0, .int .i64 0, .int .i64 0, .int .i64 0, .int .i64 0, .int .i64 0, .int .i64 0, .int .i64 0, .int .i64 0, .int .i64 0, .int .i64 0, .int .i64 0, .int .i64 0] 55))
  clear HBN k0 k1 k2 k3 k4 k5 k6
  generalize W5.alloc (.cells #[.int .i64 0, .int .i64 f, .int .i64 b, .int .i64 0, .int .i64 0, .int .i64 0, .int .i64 0, .int .i64 0, .int .i64 0, .int .i64 0, .int .i64 0, .int .i64 0, .int .i64 0, .int .i64 0, .int .i64 0, .int .i64 0, .int .i64 0] 55) = W6 at *
  have hgb : g + 1 + 1 < W5.heap.size := Nat.lt_of_lt_of_le HL2.out HBM.out.size
  have HGM := Lib.hid (Nat.le_trans HGL.out HBM.out.size)
  obtain ⟨gb, hgbe⟩ : ∃ n, W5.heap.size = n := ⟨_, rfl⟩
  have HB6' := HB6
  rw [hgbe] at HXB hgb HB6' HGM
  have HLB := Lib.hid (HXB.out.lt (Nat.zero_lt_succ _))
  rw [hgbe]
  have HC6 : Hid (∀ wr, Below gb W6 wr → wr.cell? ⟨g, 0, none⟩ = some (.slice p.pa PL p.pc) ∧ wr.cell? ⟨g + 1, 0, none⟩ = some (.int .i64 2) ∧ wr.cell? ⟨g + 1, 1, none⟩ = some (.int .i64 f) ∧ wr.cell? ⟨g + 1, 2, none⟩ = some (.int .i64 b) ∧ wr.cell? ⟨g + 1, 3, none⟩ = some (.int .i64 tob) ∧ wr.cell? ⟨g + 1, 4, none⟩ = some (.int .i64 other) ∧ wr.cell? ⟨g + 1, 5, none⟩ = some (.int .i64 pos) ∧ wr.rangeAt (g + 1) 0 [.int .i64 2, .int .i64 f, .int .i64 b, .int .i64 tob, .int .i64 other, .int .i64 pos, .int .i64 id, .int .i64 kind, .int .i64 dst, .int .i64 a, .int .i64 b2, .int .i64 c, .int .i64 f2, .int .i64 n, .int .i64 x0, .int .i64 x1, .int .i64 x2] ∧ BoxL wr (g + 1 + 1) [.int .i64 0, .int .i64 0, .int .i64 0, .int .i64 0, .int .i64 0, .int .i64 0, .int .i64 0, .int .i64 0, .int .i64 0, .int .i64 0, .int .i64 0, .int .i64 0, .int .i64 0, .int .i64 0, .int .i64 0, .int .i64 0, .int .i64 0]) := Lib.hid fun wr hb => HC5.out wr (HB6.out.trans (by rw [hgbe]; exact hb))
  have HBN : Hid (Below gb W6 W6) := Lib.hid (Below.refl _ _)
  obtain ⟨k0, k1, k2, k3, k4, k5, k6, -, -⟩ := HC6.out _ HBN.out
  clear HC5 HC HXQ
  go_wp2_with ((with_reducible apply wpList_store_mid (ty := 55) (b := g + 1 + 1) (o := 0) (cells := #[.int .i64 0, .int .i64 0, .int .i64 0, .int .i64 0, .int .i64 0, .int .i64 0, .int .i64 0, .int .i64 0, .int .i64 0, .int .i64 0, .int .i64 0, .int .i64 0, .int .i64 0, .int .i64 0, .int .i64 0, .int .i64 0, .int .i64 0])); rotate_left; rfl; rfl; rfl; exact (HC6.out _ HBN.out).2.2.2.2.2.2.2.2.there; kernel_rfl; simp [Value.oneCell']; rotate_left; rfl; simp only [Act.put])
  refine bodyPost_ret (ret_box rfl _ _ (g + 1 + 1) [.int .i64 0, .int .i64 0, .int .i64 0, .int .i64 0, .int .i64 0, .int .i64 0, .int .i64 0, .int .i64 0, .int .i64 0, .int .i64 0, .int .i64 0, .int .i64 0, .int .i64 0, .int .i64 0, .int .i64 0, .int .i64 0, .int .i64 0] _ _ rfl rfl ((HC6.out _ HBN.out).2.2.2.2.2.2.2.2.setAll _ rfl) Tryz.underlying55 rfl (by kernel_rfl)) rfl ⟨rfl, ?_⟩
  rw [hg]
  exact below_setCells (by omega) _ _ _ (HBb.out.trans ((HBM.out.trans ((HB6.out.trans (by rw [hgbe]; exact HBN.out)).mono HBM.out.size)).mono HGL.out))
end Go.Proofs.YtbddjneinfkmpaaGreatDoor

namespace Go.Proofs.YtbddjneinfkmpaaGreatDoor
open Go Go.RowKit Go.Sort

set_option maxRecDepth 100000 in
set_option maxHeartbeats 16000000 in
theorem undo3 (p : Pg) (e : Ed) (w : World) (h : Rd w p) (hfew : p.few) (hwf : p.wf) (hc : chk p e = 0) (ho : e.op = 3) :
    Calls Tryz.prog 51 #[p.val, e.val] w fun x w' => UndRes p e w w' x := by
  have HAP := Lib.hid (fun wr (h : Rd wr p) => Apply_any p e wr h hfew hwf)
  have hub := undoB_of hc (by omega)
  have hue : undoE p e = ⟨4, e.f, e.b, e.tob, 0, 0, Ins.zero⟩ := by unfold undoE; rw [if_pos hub]; simp [ho]
  simp only [AppRes, hc] at HAP
  clear hc
  unfold UndRes
  rw [hub, hue]
  clear hub hue
  have HRD0 := Lib.hid h
  have hlen10 := hfew.1
  clear h hfew hwf
  obtain ⟨op, f, b, tob, other, pos, ⟨id, kind, dst, a, b2, c, f2, n, x0, x1, x2⟩⟩ := e
  try dsimp only at *
  subst ho
  unfold Pg.val Ed.val at HAP
  unfold Pg.val Ed.val
  try dsimp only at *
  try unfold Pg.val at *
  obtain ⟨PL, hPL⟩ : ∃ PL, p.funs.length = PL := ⟨_, rfl⟩
  simp only [hPL] at HAP hlen10 ⊢
  clear hPL
  have HBb := Lib.hid (below3 w (.cells #[.slice p.pa PL p.pc] 24) (.cells #[.int .i64 3, .int .i64 f, .int .i64 b, .int .i64 tob, .int .i64 other, .int .i64 pos, .int .i64 id, .int .i64 kind, .int .i64 dst, .int .i64 a, .int .i64 b2, .int .i64 c, .int .i64 f2, .int .i64 n, .int .i64 x0, .int .i64 x1, .int .i64 x2] 55) (.cells #[.int .i64 0, .int .i64 0, .int .i64 0, .int .i64 0, .int .i64 0, .int .i64 0, .int .i64 0, .int .i64 0, .int .i64 0, .int .i64 0, .int .i64 0, .int .i64 0, .int .i64 0, .int .i64 0, .int .i64 0, .int .i64 0, .int .i64 0] 55))
  have hx0 := BoxL.new w [.slice p.pa PL p.pc] 24
  have HX0 := Lib.hid (show BoxL (((w.alloc (.cells #[.slice p.pa PL p.pc] 24)).alloc (.cells #[.int .i64 3, .int .i64 f, .int .i64 b, .int .i64 tob, .int .i64 other, .int .i64 pos, .int .i64 id, .int .i64 kind, .int .i64 dst, .int .i64 a, .int .i64 b2, .int .i64 c, .int .i64 f2, .int .i64 n, .int .i64 x0, .int .i64 x1, .int .i64 x2] 55)).alloc (.cells #[.int .i64 0, .int .i64 0, .int .i64 0, .int .i64 0, .int .i64 0, .int .i64 0, .int .i64 0, .int .i64 0, .int .i64 0, .int .i64 0, .int .i64 0, .int .i64 0, .int .i64 0, .int .i64 0, .int .i64 0, .int .i64 0, .int .i64 0] 55)) (w.heap.size) [.slice p.pa PL p.pc] from ((hx0).alloc (Nat.zero_lt_succ _) (.cells #[.int .i64 3, .int .i64 f, .int .i64 b, .int .i64 tob, .int .i64 other, .int .i64 pos, .int .i64 id, .int .i64 kind, .int .i64 dst, .int .i64 a, .int .i64 b2, .int .i64 c, .int .i64 f2, .int .i64 n, .int .i64 x0, .int .i64 x1, .int .i64 x2] 55)).alloc (Nat.zero_lt_succ _) (.cells #[.int .i64 0, .int .i64 0, .int .i64 0, .int .i64 0, .int .i64 0, .int .i64 0, .int .i64 0, .int .i64 0, .int .i64 0, .int .i64 0, .int .i64 0, .int .i64 0, .int .i64 0, .int .i64 0, .int .i64 0, .int .i64 0, .int .i64 0] 55))
  have hx1 := BoxL.new (w.alloc (.cells #[.slice p.pa PL p.pc] 24)) [.int .i64 3, .int .i64 f, .int .i64 b, .int .i64 tob, .int .i64 other, .int .i64 pos, .int .i64 id, .int .i64 kind, .int .i64 dst, .int .i64 a, .int .i64 b2, .int .i64 c, .int .i64 f2, .int .i64 n, .int .i64 x0, .int .i64 x1, .int .i64 x2] 55
  rw [World.size_alloc] at hx1
  have HX1 := Lib.hid (show BoxL (((w.alloc (.cells #[.slice p.pa PL p.pc] 24)).alloc (.cells #[.int .i64 3, .int .i64 f, .int .i64 b, .int .i64 tob, .int .i64 other, .int .i64 pos, .int .i64 id, .int .i64 kind, .int .i64 dst, .int .i64 a, .int .i64 b2, .int .i64 c, .int .i64 f2, .int .i64 n, .int .i64 x0, .int .i64 x1, .int .i64 x2] 55)).alloc (.cells #[.int .i64 0, .int .i64 0, .int .i64 0, .int .i64 0, .int .i64 0, .int .i64 0, .int .i64 0, .int .i64 0, .int .i64 0, .int .i64 0, .int .i64 0, .int .i64 0, .int .i64 0, .int .i64 0, .int .i64 0, .int .i64 0, .int .i64 0] 55)) (w.heap.size + 1) [.int .i64 3, .int .i64 f, .int .i64 b, .int .i64 tob, .int .i64 other, .int .i64 pos, .int .i64 id, .int .i64 kind, .int .i64 dst, .int .i64 a, .int .i64 b2, .int .i64 c, .int .i64 f2, .int .i64 n, .int .i64 x0, .int .i64 x1, .int .i64 x2] from (hx1).alloc (Nat.zero_lt_succ _) (.cells #[.int .i64 0, .int .i64 0, .int .i64 0, .int .i64 0, .int .i64 0, .int .i64 0, .int .i64 0, .int .i64 0, .int .i64 0, .int .i64 0, .int .i64 0, .int .i64 0, .int .i64 0, .int .i64 0, .int .i64 0, .int .i64 0, .int .i64 0] 55))
  have hx2 := BoxL.new ((w.alloc (.cells #[.slice p.pa PL p.pc] 24)).alloc (.cells #[.int .i64 3, .int .i64 f, .int .i64 b, .int .i64 tob, .int .i64 other, .int .i64 pos, .int .i64 id, .int .i64 kind, .int .i64 dst, .int .i64 a, .int .i64 b2, .int .i64 c, .int .i64 f2, .int .i64 n, .int .i64 x0, .int .i64 x1, .int .i64 x2] 55)) [.int .i64 0, .int .i64 0, .int .i64 0, .int .i64 0, .int .i64 0, .int .i64 0, .int .i64 0, .int .i64 0, .int .i64 0, .int .i64 0, .int .i64 0, .int .i64 0, .int .i64 0, .int .i64 0, .int .i64 0, .int .i64 0, .int .i64 0] 55
  rw [World.size_alloc, World.size_alloc] at hx2
  have HX2 := Lib.hid (show BoxL (((w.alloc (.cells #[.slice p.pa PL p.pc] 24)).alloc (.cells #[.int .i64 3, .int .i64 f, .int .i64 b, .int .i64 tob, .int .i64 other, .int .i64 pos, .int .i64 id, .int .i64 kind, .int .i64 dst, .int .i64 a, .int .i64 b2, .int .i64 c, .int .i64 f2, .int .i64 n, .int .i64 x0, .int .i64 x1, .int .i64 x2] 55)).alloc (.cells #[.int .i64 0, .int .i64 0, .int .i64 0, .int .i64 0, .int .i64 0, .int .i64 0, .int .i64 0, .int .i64 0, .int .i64 0, .int .i64 0, .int .i64 0, .int .i64 0, .int .i64 0, .int .i64 0, .int .i64 0, .int .i64 0, .int .i64 0] 55)) (w.heap.size + 1 + 1) [.int .i64 0, .int .i64 0, .int .i64 0, .int .i64 0, .int .i64 0, .int .i64 0, .int .i64 0, .int .i64 0, .int .i64 0, .int .i64 0, .int .i64 0, .int .i64 0, .int .i64 0, .int .i64 0, .int .i64 0, .int .i64 0, .int .i64 0] from hx2)
  clear hx0 hx1 hx2
  have HRW := Lib.hid (HRD0.out.on HBb.out)
  generalize hW : (((w.alloc (.cells #[.slice p.pa PL p.pc] 24)).alloc (.cells #[.int .i64 3, .int .i64 f, .int .i64 b, .int .i64 tob, .int .i64 other, .int .i64 pos, .int .i64 id, .int .i64 kind, .int .i64 dst, .int .i64 a, .int .i64 b2, .int .i64 c, .int .i64 f2, .int .i64 n, .int .i64 x0, .int .i64 x1, .int .i64 x2] 55)).alloc (.cells #[.int .i64 0, .int .i64 0, .int .i64 0, .int .i64 0, .int .i64 0, .int .i64 0, .int .i64 0, .int .i64 0, .int .i64 0, .int .i64 0, .int .i64 0, .int .i64 0, .int .i64 0, .int .i64 0, .int .i64 0, .int .i64 0, .int .i64 0] 55)) = W at HBb HX0 HX1 HX2 HRW
  obtain ⟨g, hg⟩ : ∃ g, w.heap.size = g := ⟨_, rfl⟩
  have HGL := Lib.hid HBb.out.size
  rw [hg] at HBb HGL HX0 HX1 HX2
  have HL0 := Lib.hid (HX0.out.lt (Nat.zero_lt_succ _))
  have HL1 := Lib.hid (HX1.out.lt (Nat.zero_lt_succ _))
  have HL2 := Lib.hid (HX2.out.lt (Nat.zero_lt_succ _))
  have HC : Hid (∀ wr, Below W.heap.size W wr → wr.cell? ⟨g, 0, none⟩ = some (.slice p.pa PL p.pc) ∧ wr.cell? ⟨g + 1, 0, none⟩ = some (.int .i64 3) ∧ wr.cell? ⟨g + 1, 1, none⟩ = some (.int .i64 f) ∧ wr.cell? ⟨g + 1, 2, none⟩ = some (.int .i64 b) ∧ wr.cell? ⟨g + 1, 3, none⟩ = some (.int .i64 tob) ∧ wr.cell? ⟨g + 1, 4, none⟩ = some (.int .i64 other) ∧ wr.cell? ⟨g + 1, 5, none⟩ = some (.int .i64 pos) ∧ wr.rangeAt (g + 1) 0 [.int .i64 3, .int .i64 f, .int .i64 b, .int .i64 tob, .int .i64 other, .int .i64 pos, .int .i64 id, .int .i64 kind, .int .i64 dst, .int .i64 a, .int .i64 b2, .int .i64 c, .int .i64 f2, .int .i64 n, .int .i64 x0, .int .i64 x1, .int .i64 x2] ∧ BoxL wr (g + 1 + 1) [.int .i64 0, .int .i64 0, .int .i64 0, .int .i64 0, .int .i64 0, .int .i64 0, .int .i64 0, .int .i64 0, .int .i64 0, .int .i64 0, .int .i64 0, .int .i64 0, .int .i64 0, .int .i64 0, .int .i64 0, .int .i64 0, .int .i64 0]) := Lib.hid fun wr hb => ⟨((HX0.out.below hb HL0.out) 0 _ rfl).1, ((HX1.out.below hb HL1.out) 0 _ rfl).1, ((HX1.out.below hb HL1.out) 1 _ rfl).1, ((HX1.out.below hb HL1.out) 2 _ rfl).1, ((HX1.out.below hb HL1.out) 3 _ rfl).1, ((HX1.out.below hb HL1.out) 4 _ rfl).1, ((HX1.out.below hb HL1.out) 5 _ rfl).1, (HX1.out.below hb HL1.out).range, HX2.out.below hb HL2.out⟩
  have HBN : Hid (Below W.heap.size W W) := Lib.hid (Below.refl _ _)
  obtain ⟨k0, k1, k2, k3, k4, k5, k6, -, -⟩ := HC.out _ HBN.out
  go_enter Tryz.func51, Tryz.ntmps51
  go_upto_region 1 with fail
  go_upto_region 2 with (first
    | (go_at_call 49; refine (HAP.out _ (HRW.out.on HBN.out)).mono ?_; rintro x we ⟨q, rfl, hqi, -, hqd, hbn⟩; have HQI := Lib.hid hqi; have HQD := Lib.hid hqd; clear hqi hqd; have hbx := HBN.out.trans (hbn.mono HBN.out.size); clear HBN hbn k0 k1 k2 k3 k4 k5 k6; have HBN := Lib.hid hbx; clear hbx; obtain ⟨k0, k1, k2, k3, k4, k5, k6, -, -⟩ := HC.out _ HBN.out)
    | ((with_reducible apply wpList_load_w (ty := 55) (b := g + 1) (o := 0) (cs := [.int .i64 3, .int .i64 f, .int .i64 b, .int .i64 tob, .int .i64 other, .int .i64 pos, .int .i64 id, .int .i64 kind, .int .i64 dst, .int .i64 a, .int .i64 b2, .int .i64 c, .int .i64 f2, .int .i64 n, .int .i64 x0, .int .i64 x1, .int .i64 x2])); rotate_left; rfl; rfl; exact (HC.out _ HBN.out).2.2.2.2.2.2.2.1; exact Tryz.underlying55; rfl; kernel_rfl; rotate_left; rfl; simp only [Act.put, List.setIfInBounds_toArray, List.set_cons_zero, List.set_cons_succ]))
  obtain ⟨QL, hQL⟩ : ∃ QL, q.funs.length = QL := ⟨_, rfl⟩
  have HQL := Lib.hid hQL
  simp only [hQL]
  clear hQL
  have hx := BoxL.new we [.slice q.pa QL q.pc] 24
  have hb5 := below1 we (.cells #[.slice q.pa QL q.pc] 24)
  have HXQ : Hid (BoxL (we.alloc (.cells #[.slice q.pa QL q.pc] 24)) we.heap.size [.slice q.pa QL q.pc]) := Lib.hid hx
  have HRQ := Lib.hid (show Rd (we.alloc (.cells #[.slice q.pa QL q.pc] 24)) q from (show Rd we q from ⟨HQI.out, (HRW.out.on HBN.out).2.1, (HRW.out.on HBN.out).2.2⟩).on hb5)
  have HBM := Lib.hid (HBN.out.trans (hb5.mono HBN.out.size))
  have HGE := Lib.hid HBN.out.size
  clear hx hb5 HBN k0 k1 k2 k3 k4 k5 k6
  generalize we.alloc (.cells #[.slice q.pa QL q.pc] 24) = W5 at *
  generalize we.heap.size = gq at *
  have HLQ := Lib.hid (HXQ.out.lt (Nat.zero_lt_succ _))
  have HRP := Lib.hid (HRW.out.on HBM.out)
  have HC5 : Hid (∀ wr, Below W5.heap.size W5 wr → wr.cell? ⟨g, 0, none⟩ = some (.slice p.pa PL p.pc) ∧ wr.cell? ⟨g + 1, 0, none⟩ = some (.int .i64 3) ∧ wr.cell? ⟨g + 1, 1, none⟩ = some (.int .i64 f) ∧ wr.cell? ⟨g + 1, 2, none⟩ = some (.int .i64 b) ∧ wr.cell? ⟨g + 1, 3, none⟩ = some (.int .i64 tob) ∧ wr.cell? ⟨g + 1, 4, none⟩ = some (.int .i64 other) ∧ wr.cell? ⟨g + 1, 5, none⟩ = some (.int .i64 pos) ∧ wr.rangeAt (g + 1) 0 [.int .i64 3, .int .i64 f, .int .i64 b, .int .i64 tob, .int .i64 other, .int .i64 pos, .int .i64 id, .int .i64 kind, .int .i64 dst, .int .i64 a, .int .i64 b2, .int .i64 c, .int .i64 f2, .int .i64 n, .int .i64 x0, .int .i64 x1, .int .i64 x2] ∧ BoxL wr (g + 1 + 1) [.int .i64 0, .int .i64 0, .int .i64 0, .int .i64 0, .int .i64 0, .int .i64 0, .int .i64 0, .int .i64 0, .int .i64 0, .int .i64 0, .int .i64 0, .int .i64 0, .int .i64 0, .int .i64 0, .int .i64 0, .int .i64 0, .int .i64 0]) := Lib.hid fun wr hb => HC.out wr (HBM.out.trans (hb.mono HBM.out.size))
  have HBN : Hid (Below W5.heap.size W5 W5) := Lib.hid (Below.refl _ _)
  obtain ⟨k0, k1, k2, k3, k4, k5, k6, -, -⟩ := HC5.out _ HBN.out
  go_upto_region 5 with ((with_reducible apply wpList_store_new (ty := 55) (c := #[.int .i64 0, .int .i64 0, .int .i64 0, .int .i64 0, .int .i64 0, .int .i64 0, .int .i64 0, .int .i64 0, .int .i64 0, .int .i64 0, .int .i64 0, .int .i64 0, .int .i64 0, .int .i64 0, .int .i64 0, .int .i64 0, .int .i64 0]) (c' := #[.int .i64 0, .int .i64 f, .int .i64 b, .int .i64 0, .int .i64 0, .int .i64 0, .int .i64 0, .int .i64 0, .int .i64 0, .int .i64 0, .int .i64 0, .int .i64 0, .int .i64 0, .int .i64 0, .int .i64 0, .int .i64 0, .int .i64 0])); rfl; rfl; rfl; rfl; kernel_rfl; rfl; simp [Value.oneCell']; simp only [Act.put])
  have HXB : Hid (BoxL (W5.alloc (.cells #[.int .i64 0, .int .i64 f, .int .i64 b, .int .i64 0, .int .i64 0, .int .i64 0, .int .i64 0, .int .i64 0, .int .i64 0, .int .i64 0, .int .i64 0, .int .i64 0, .int .i64 0, .int .i64 0, .int .i64 0, .int .i64 0, .int .i64 0] 55)) W5.heap.size [.int .i64 0, .int .i64 f, .int .i64 b, .int .i64 0, .int .i64 0, .int .i64 0, .int .i64 0, .int .i64 0, .int .i64 0, .int .i64 0, .int .i64 0, .int .i64 0, .int .i64 0, .int .i64 0, .int .i64 0, .int .i64 0, .int .i64 0]) := Lib.hid (BoxL.new W5 _ _)
  have HB6 := Lib.hid (below1 W5 (.cells #[.int .i64 0, .int .i64 f, .int .i64 b, .int .i64 0, .int .i64 0, .int .i64 0, .int .i64 0, .int .i64 0, .int .i64 0, .int .i64 0, .int .i64 0, .int .i64 0, .int .i64 0, .int .i64 0, .int .i64 0, .int .i64 0, .int .i64 0] 55))
  clear HBN k0 k1 k2 k3 k4 k5 k6
  generalize W5.alloc (.cells #[.int .i64 0, .int .i64 f, .int .i64 b, .int .i64 0, .int .i64 0, .int .i64 0, .int .i64 0, .int .i64 0, .int .i64 0, .int .i64 0, .int .i64 0, .int .i64 0, .int .i64 0, .int .i64 0, .int .i64 0, .int .i64 0, .int .i64 0] 55) = W6 at *
  have hgb : g + 1 + 1 < W5.heap.size := Nat.lt_of_lt_of_le HL2.out HBM.out.size
  have HGM := Lib.hid (Nat.le_trans HGL.out HBM.out.size)
  obtain ⟨gb, hgbe⟩ : ∃ n, W5.heap.size = n := ⟨_, rfl⟩
  have HB6' := HB6
  rw [hgbe] at HXB hgb HB6' HGM
  have HLB := Lib.hid (HXB.out.lt (Nat.zero_lt_succ _))
  rw [hgbe]
  have HC6 : Hid (∀ wr, Below gb W6 wr → wr.cell? ⟨g, 0, none⟩ = some (.slice p.pa PL p.pc) ∧ wr.cell? ⟨g + 1, 0, none⟩ = some (.int .i64 3) ∧ wr.cell? ⟨g + 1, 1, none⟩ = some (.int .i64 f) ∧ wr.cell? ⟨g + 1, 2, none⟩ = some (.int .i64 b) ∧ wr.cell? ⟨g + 1, 3, none⟩ = some (.int .i64 tob) ∧ wr.cell? ⟨g + 1, 4, none⟩ = some (.int .i64 other) ∧ wr.cell? ⟨g + 1, 5, none⟩ = some (.int .i64 pos) ∧ wr.rangeAt (g + 1) 0 [.int .i64 3, .int .i64 f, .int .i64 b, .int .i64 tob, .int .i64 other, .int .i64 pos, .int .i64 id, .int .i64 kind, .int .i64 dst, .int .i64 a, .int .i64 b2, .int .i64 c, .int .i64 f2, .int .i64 n, .int .i64 x0, .int .i64 x1, .int .i64 x2] ∧ BoxL wr (g + 1 + 1) [.int .i64 0, .int .i64 0, .int .i64 0, .int .i64 0, .int .i64 0, .int .i64 0, .int .i64 0, .int .i64 0, .int .i64 0, .int .i64 0, .int .i64 0, .int .i64 0, .int .i64 0, .int .i64 0, .int .i64 0, .int .i64 0, .int .i64 0]) := Lib.hid fun wr hb => HC5.out wr (HB6.out.trans (by rw [hgbe]; exact hb))
  have HBN : Hid (Below gb W6 W6) := Lib.hid (Below.refl _ _)
  obtain ⟨k0, k1, k2, k3, k4, k5, k6, -, -⟩ := HC6.out _ HBN.out
  clear HC5 HC HXQ
  have s0 := HXB.out
  obtain ⟨c0, f0⟩ := HXB.out 0 _ rfl
  obtain ⟨c3, f3⟩ := HXB.out 3 _ rfl
  clear s0
  go_wp2_with fail
  go_region
  have HXF : Hid (BoxL ((W6.setCell ⟨gb, 0, none⟩ (.int .i64 4)).setCell ⟨gb, 3, none⟩ (.int .i64 tob)).drew gb [.int .i64 4, .int .i64 f, .int .i64 b, .int .i64 tob, .int .i64 0, .int .i64 0, .int .i64 0, .int .i64 0, .int .i64 0, .int .i64 0, .int .i64 0, .int .i64 0, .int .i64 0, .int .i64 0, .int .i64 0, .int .i64 0, .int .i64 0]) := Lib.hid ((HXB.out.put 0 (.int .i64 4) (by simp)).put 3 (.int .i64 tob) (by simp)).drew
  have hbx : Below gb W6 ((W6.setCell ⟨gb, 0, none⟩ (.int .i64 4)).setCell ⟨gb, 3, none⟩ (.int .i64 tob)).drew := ((HBN.out.setCell (p := ⟨gb, 0, none⟩) (Nat.le_refl _) (.int .i64 4)).setCell (p := ⟨gb, 3, none⟩) (Nat.le_refl _) (.int .i64 tob)).drew
  clear HBN HXB k0 k1 k2 k3 k4 k5 k6 c0 f0 c3 f3
  have HBN := Lib.hid hbx
  clear hbx
  generalize ((W6.setCell ⟨gb, 0, none⟩ (.int .i64 4)).setCell ⟨gb, 3, none⟩ (.int .i64 tob)).drew = W7 at *
  obtain ⟨k0, k1, k2, k3, k4, k5, k6, -, -⟩ := HC6.out _ HBN.out
  go_wp2_with (first | ((with_reducible apply wpList_load_w (ty := 55) (b := gb) (o := 0) (cs := [.int .i64 4, .int .i64 f, .int .i64 b, .int .i64 tob, .int .i64 0, .int .i64 0, .int .i64 0, .int .i64 0, .int .i64 0, .int .i64 0, .int .i64 0, .int .i64 0, .int .i64 0, .int .i64 0, .int .i64 0, .int .i64 0, .int .i64 0])); rotate_left; rfl; rfl; exact HXF.out.range; exact Tryz.underlying55; rfl; kernel_rfl; rotate_left; rfl; simp only [Act.put, List.setIfInBounds_toArray, List.set_cons_zero, List.set_cons_succ]) | ((with_reducible apply wpList_store_mid (ty := 55) (b := g + 1 + 1) (o := 0) (cells := #[.int .i64 4, .int .i64 f, .int .i64 b, .int .i64 tob, .int .i64 0, .int .i64 0, .int .i64 0, .int .i64 0, .int .i64 0, .int .i64 0, .int .i64 0, .int .i64 0, .int .i64 0, .int .i64 0, .int .i64 0, .int .i64 0, .int .i64 0])); rotate_left; rfl; rfl; rfl; exact (HC6.out _ HBN.out).2.2.2.2.2.2.2.2.there; kernel_rfl; simp [Value.oneCell']; rotate_left; rfl; simp only [Act.put]))
  refine bodyPost_ret (ret_box rfl _ _ (g + 1 + 1) [.int .i64 4, .int .i64 f, .int .i64 b, .int .i64 tob, .int .i64 0, .int .i64 0, .int .i64 0, .int .i64 0, .int .i64 0, .int .i64 0, .int .i64 0, .int .i64 0, .int .i64 0, .int .i64 0, .int .i64 0, .int .i64 0, .int .i64 0] _ _ rfl rfl ((HC6.out _ HBN.out).2.2.2.2.2.2.2.2.setAll _ rfl) Tryz.underlying55 rfl (by kernel_rfl)) rfl ⟨rfl, ?_⟩
  rw [hg]
  exact below_setCells (by omega) _ _ _ (HBb.out.trans ((HBM.out.trans ((HB6.out.trans (by rw [hgbe]; exact HBN.out)).mono HBM.out.size)).mono HGL.out))

set_option maxRecDepth 100000 in
set_option maxHeartbeats 16000000 in
theorem undo4 (p : Pg) (e : Ed) (w : World) (h : Rd w p) (hfew : p.few) (hwf : p.wf) (hc : chk p e = 0) (ho : e.op = 4) :
    Calls Tryz.prog 51 #[p.val, e.val] w fun x w' => UndRes p e w w' x := by
  have HAP := Lib.hid (fun wr (h : Rd wr p) => Apply_any p e wr h hfew hwf)
  have hub := undoB_of hc (by omega)
  have hue : undoE p e = ⟨3, e.f, e.b, e.tob, 0, 0, Ins.zero⟩ := by unfold undoE; rw [if_pos hub]; simp [ho]
  simp only [AppRes, hc] at HAP
  clear hc
  unfold UndRes
  rw [hub, hue]
  clear hub hue
  have HRD0 := Lib.hid h
  have hlen10 := hfew.1
  clear h hfew hwf
  obtain ⟨op, f, b, tob, other, pos, ⟨id, kind, dst, a, b2, c, f2, n, x0, x1, x2⟩⟩ := e
  try dsimp only at *
  subst ho
  unfold Pg.val Ed.val at HAP
  unfold Pg.val Ed.val
  try dsimp only at *
  try unfold Pg.val at *
  obtain ⟨PL, hPL⟩ : ∃ PL, p.funs.length = PL := ⟨_, rfl⟩
  simp only [hPL] at HAP hlen10 ⊢
  clear hPL
  have HBb := Lib.hid (below3 w (.cells #[.slice p.pa PL p.pc] 24) (.cells #[.int .i64 4, .int .i64 f, .int .i64 b, .int .i64 tob, .int .i64 other, .int .i64 pos, .int .i64 id, .int .i64 kind, .int .i64 dst, .int .i64 a, .int .i64 b2, .int .i64 c, .int .i64 f2, .int .i64 n, .int .i64 x0, .int .i64 x1, .int .i64 x2] 55) (.cells #[.int .i64 0, .int .i64 0, .int .i64 0, .int .i64 0, .int .i64 0, .int .i64 0, .int .i64 0, .int .i64 0, .int .i64 0, .int .i64 0, .int .i64 0, .int .i64 0, .int .i64 0, .int .i64 0, .int .i64 0, .int .i64 0, .int .i64 0] 55))
  have hx0 := BoxL.new w [.slice p.pa PL p.pc] 24
  have HX0 := Lib.hid (show BoxL (((w.alloc (.cells #[.slice p.pa PL p.pc] 24)).alloc (.cells #[.int .i64 4, .int .i64 f, .int .i64 b, .int .i64 tob, .int .i64 other, .int .i64 pos, .int .i64 id, .int .i64 kind, .int .i64 dst, .int .i64 a, .int .i64 b2, .int .i64 c, .int .i64 f2, .int .i64 n, .int .i64 x0, .int .i64 x1, .int .i64 x2] 55)).alloc (.cells #[.int .i64 0, .int .i64 0, .int .i64 0, .int .i64 0, .int .i64 0, .int .i64 0, .int .i64 0, .int .i64 0, .int .i64 0, .int .i64 0, .int .i64 0, .int .i64 0, .int .i64 0, .int .i64 0, .int .i64 0, .int .i64 0, .int .i64 0] 55)) (w.heap.size) [.slice p.pa PL p.pc] from ((hx0).alloc (Nat.zero_lt_succ _) (.cells #[.int .i64 4, .int .i64 f, .int .i64 b, .int .i64 tob, .int .i64 other, .int .i64 pos, .int .i64 id, .int .i64 kind, .int .i64 dst, .int .i64 a, .int .i64 b2, .int .i64 c, .int .i64 f2, .int .i64 n, .int .i64 x0, .int .i64 x1, .int .i64 x2] 55)).alloc (Nat.zero_lt_succ _) (.cells #[.int .i64 0, .int .i64 0, .int .i64 0, .int .i64 0, .int .i64 0, .int .i64 0, .int .i64 0, .int .i64 0, .int .i64 0, .int .i64 0, .int .i64 0, .int .i64 0, .int .i64 0, .int .i64 0, .int .i64 0, .int .i64 0, .int .i64 0] 55))
  have hx1 := BoxL.new (w.alloc (.cells #[.slice p.pa PL p.pc] 24)) [.int .i64 4, .int .i64 f, .int .i64 b, .int .i64 tob, .int .i64 other, .int .i64 pos, .int .i64 id, .int .i64 kind, .int .i64 dst, .int .i64 a, .int .i64 b2, .int .i64 c, .int .i64 f2, .int .i64 n, .int .i64 x0, .int .i64 x1, .int .i64 x2] 55
  rw [World.size_alloc] at hx1
  have HX1 := Lib.hid (show BoxL (((w.alloc (.cells #[.slice p.pa PL p.pc] 24)).alloc (.cells #[.int .i64 4, .int .i64 f, .int .i64 b, .int .i64 tob, .int .i64 other, .int .i64 pos, .int .i64 id, .int .i64 kind, .int .i64 dst, .int .i64 a, .int .i64 b2, .int .i64 c, .int .i64 f2, .int .i64 n, .int .i64 x0, .int .i64 x1, .int .i64 x2] 55)).alloc (.cells #[.int .i64 0, .int .i64 0, .int .i64 0, .int .i64 0, .int .i64 0, .int .i64 0, .int .i64 0, .int .i64 0, .int .i64 0, .int .i64 0, .int .i64 0, .int .i64 0, .int .i64 0, .int .i64 0, .int .i64 0, .int .i64 0, .int .i64 0] 55)) (w.heap.size + 1) [.int .i64 4, .int .i64 f, .int .i64 b, .int .i64 tob, .int .i64 other, .int .i64 pos, .int .i64 id, .int .i64 kind, .int .i64 dst, .int .i64 a, .int .i64 b2, .int .i64 c, .int .i64 f2, .int .i64 n, .int .i64 x0, .int .i64 x1, .int .i64 x2] from (hx1).alloc (Nat.zero_lt_succ _) (.cells #[.int .i64 0, .int .i64 0, .int .i64 0, .int .i64 0, .int .i64 0, .int .i64 0, .int .i64 0, .int .i64 0, .int .i64 0, .int .i64 0, .int .i64 0, .int .i64 0, .int .i64 0, .int .i64 0, .int .i64 0, .int .i64 0, .int .i64 0] 55))
  have hx2 := BoxL.new ((w.alloc (.cells #[.slice p.pa PL p.pc] 24)).alloc (.cells #[.int .i64 4, .int .i64 f, .int .i64 b, .int .i64 tob, .int .i64 other, .int .i64 pos, .int .i64 id, .int .i64 kind, .int .i64 dst, .int .i64 a, .int .i64 b2, .int .i64 c, .int .i64 f2, .int .i64 n, .int .i64 x0, .int .i64 x1, .int .i64 x2] 55)) [.int .i64 0, .int .i64 0, .int .i64 0, .int .i64 0, .int .i64 0, .int .i64 0, .int .i64 0, .int .i64 0, .int .i64 0, .int .i64 0, .int .i64 0, .int .i64 0, .int .i64 0, .int .i64 0, .int .i64 0, .int .i64 0, .int .i64 0] 55
  rw [World.size_alloc, World.size_alloc] at hx2
  have HX2 := Lib.hid (show BoxL (((w.alloc (.cells #[.slice p.pa PL p.pc] 24)).alloc (.cells #[.int .i64 4, .int .i64 f, .int .i64 b, .int .i64 tob, .int .i64 other, .int .i64 pos, .int .i64 id, .int .i64 kind, .int .i64 dst, .int .i64 a, .int .i64 b2, .int .i64 c, .int .i64 f2, .int .i64 n, .int .i64 x0, .int .i64 x1, .int .i64 x2] 55)).alloc (.cells #[.int .i64 0, .int .i64 0, .int .i64 0, .int .i64 0, .int .i64 0, .int .i64 0, .int .i64 0, .int .i64 0, .int .i64 0, .int .i64 0, .int .i64 0, .int .i64 0, .int .i64 0, .int .i64 0, .int .i64 0, .int .i64 0, .int .i64 0] 55)) (w.heap.size + 1 + 1) [.int .i64 0, .int .i64 0, .int .i64 0, .int .i64 0, .int .i64 0, .int .i64 0, .int .i64 0, .int .i64 0, .int .i64 0, .int .i64 0, .int .i64 0, .int .i64 0, .int .i64 0, .int .i64 0, .int .i64 0, .int .i64 0, .int .i64 0] from hx2)
  clear hx0 hx1 hx2
  have HRW := Lib.hid (HRD0.out.on HBb.out)
  generalize hW : (((w.alloc (.cells #[.slice p.pa PL p.pc] 24)).alloc (.cells #[.int .i64 4, .int .i64 f, .int .i64 b, .int .i64 tob, .int .i64 other, .int .i64 pos, .int .i64 id, .int .i64 kind, .int .i64 dst, .int .i64 a, .int .i64 b2, .int .i64 c, .int .i64 f2, .int .i64 n, .int .i64 x0, .int .i64 x1, .int .i64 x2] 55)).alloc (.cells #[.int .i64 0, .int .i64 0, .int .i64 0, .int .i64 0, .int .i64 0, .int .i64 0, .int .i64 0, .int .i64 0, .int .i64 0, .int .i64 0, .int .i64 0, .int .i64 0, .int .i64 0, .int .i64 0, .int .i64 0, .int .i64 0, .int .i64 0] 55)) = W at HBb HX0 HX1 HX2 HRW
  obtain ⟨g, hg⟩ : ∃ g, w.heap.size = g := ⟨_, rfl⟩
  have HGL := Lib.hid HBb.out.size
  rw [hg] at HBb HGL HX0 HX1 HX2
  have HL0 := Lib.hid (HX0.out.lt (Nat.zero_lt_succ _))
  have HL1 := Lib.hid (HX1.out.lt (Nat.zero_lt_succ _))
  have HL2 := Lib.hid (HX2.out.lt (Nat.zero_lt_succ _))
  have HC : Hid (∀ wr, Below W.heap.size W wr → wr.cell? ⟨g, 0, none⟩ = some (.slice p.pa PL p.pc) ∧ wr.cell? ⟨g + 1, 0, none⟩ = some (.int .i64 4) ∧ wr.cell? ⟨g + 1, 1, none⟩ = some (.int .i64 f) ∧ wr.cell? ⟨g + 1, 2, none⟩ = some (.int .i64 b) ∧ wr.cell? ⟨g + 1, 3, none⟩ = some (.int .i64 tob) ∧ wr.cell? ⟨g + 1, 4, none⟩ = some (.int .i64 other) ∧ wr.cell? ⟨g + 1, 5, none⟩ = some (.int .i64 pos) ∧ wr.rangeAt (g + 1) 0 [.int .i64 4, .int .i64 f, .int .i64 b, .int .i64 tob, .int .i64 other, .int .i64 pos, .int .i64 id, .int .i64 kind, .int .i64 dst, .int .i64 a, .int .i64 b2, .int .i64 c, .int .i64 f2, .int .i64 n, .int .i64 x0, .int .i64 x1, .int .i64 x2] ∧ BoxL wr (g + 1 + 1) [.int .i64 0, .int .i64 0, .int .i64 0, .int .i64 0, .int .i64 0, .int .i64 0, .int .i64 0, .int .i64 0, .int .i64 0, .int .i64 0, .int .i64 0, .int .i64 0, .int .i64 0, .int .i64 0, .int .i64 0, .int .i64 0, .int .i64 0]) := Lib.hid fun wr hb => ⟨((HX0.out.below hb HL0.out) 0 _ rfl).1, ((HX1.out.below hb HL1.out) 0 _ rfl).1, ((HX1.out.below hb HL1.out) 1 _ rfl).1, ((HX1.out.below hb HL1.out) 2 _ rfl).1, ((HX1.out.below hb HL1.out) 3 _ rfl).1, ((HX1.out.below hb HL1.out) 4 _ rfl).1, ((HX1.out.below hb HL1.out) 5 _ rfl).1, (HX1.out.below hb HL1.out).range, HX2.out.below hb HL2.out⟩
  have HBN : Hid (Below W.heap.size W W) := Lib.hid (Below.refl _ _)
  obtain ⟨k0, k1, k2, k3, k4, k5, k6, -, -⟩ := HC.out _ HBN.out
  go_enter Tryz.func51, Tryz.ntmps51
  go_upto_region 1 with fail
  go_upto_region 2 with (first
    | (go_at_call 49; refine (HAP.out _ (HRW.out.on HBN.out)).mono ?_; rintro x we ⟨q, rfl, hqi, -, hqd, hbn⟩; have HQI := Lib.hid hqi; have HQD := Lib.hid hqd; clear hqi hqd; have hbx := HBN.out.trans (hbn.mono HBN.out.size); clear HBN hbn k0 k1 k2 k3 k4 k5 k6; have HBN := Lib.hid hbx; clear hbx; obtain ⟨k0, k1, k2, k3, k4, k5, k6, -, -⟩ := HC.out _ HBN.out)
    | ((with_reducible apply wpList_load_w (ty := 55) (b := g + 1) (o := 0) (cs := [.int .i64 4, .int .i64 f, .int .i64 b, .int .i64 tob, .int .i64 other, .int .i64 pos, .int .i64 id, .int .i64 kind, .int .i64 dst, .int .i64 a, .int .i64 b2, .int .i64 c, .int .i64 f2, .int .i64 n, .int .i64 x0, .int .i64 x1, .int .i64 x2])); rotate_left; rfl; rfl; exact (HC.out _ HBN.out).2.2.2.2.2.2.2.1; exact Tryz.underlying55; rfl; kernel_rfl; rotate_left; rfl; simp only [Act.put, List.setIfInBounds_toArray, List.set_cons_zero, List.set_cons_succ]))
  obtain ⟨QL, hQL⟩ : ∃ QL, q.funs.length = QL := ⟨_, rfl⟩
  have HQL := Lib.hid hQL
  simp only [hQL]
  clear hQL
  have hx := BoxL.new we [.slice q.pa QL q.pc] 24
  have hb5 := below1 we (.cells #[.slice q.pa QL q.pc] 24)
  have HXQ : Hid (BoxL (we.alloc (.cells #[.slice q.pa QL q.pc] 24)) we.heap.size [.slice q.pa QL q.pc]) := Lib.hid hx
  have HRQ := Lib.hid (show Rd (we.alloc (.cells #[.slice q.pa QL q.pc] 24)) q from (show Rd we q from ⟨HQI.out, (HRW.out.on HBN.out).2.1, (HRW.out.on HBN.out).2.2⟩).on hb5)
  have HBM := Lib.hid (HBN.out.trans (hb5.mono HBN.out.size))
  have HGE := Lib.hid HBN.out.size
  clear hx hb5 HBN k0 k1 k2 k3 k4 k5 k6
  generalize we.alloc (.cells #[.slice q.pa QL q.pc] 24) = W5 at *
  generalize we.heap.size = gq at *
  have HLQ := Lib.hid (HXQ.out.lt (Nat.zero_lt_succ _))
  have HRP := Lib.hid (HRW.out.on HBM.out)
  have HC5 : Hid (∀ wr, Below W5.heap.size W5 wr → wr.cell? ⟨g, 0, none⟩ = some (.slice p.pa PL p.pc) ∧ wr.cell? ⟨g + 1, 0, none⟩ = some (.int .i64 4) ∧ wr.cell? ⟨g + 1, 1, none⟩ = some (.int .i64 f) ∧ wr.cell? ⟨g + 1, 2, none⟩ = some (.int .i64 b) ∧ wr.cell? ⟨g + 1, 3, none⟩ = some (.int .i64 tob) ∧ wr.cell? ⟨g + 1, 4, none⟩ = some (.int .i64 other) ∧ wr.cell? ⟨g + 1, 5, none⟩ = some (.int .i64 pos) ∧ wr.rangeAt (g + 1) 0 [.int .i64 4, .int .i64 f, .int .i64 b, .int .i64 tob, .int .i64 other, .int .i64 pos, .int .i64 id, .int .i64 kind, .int .i64 dst, .int .i64 a, .int .i64 b2, .int .i64 c, .int .i64 f2, .int .i64 n, .int .i64 x0, .int .i64 x1, .int .i64 x2] ∧ BoxL wr (g + 1 + 1) [.int .i64 0, .int .i64 0, .int .i64 0, .int .i64 0, .int .i64 0, .int .i64 0, .int .i64 0, .int .i64 0, .int .i64 0, .int .i64 0, .int .i64 0, .int .i64 0, .int .i64 0, .int .i64 0, .int .i64 0, .int .i64 0, .int .i64 0]) := Lib.hid fun wr hb => HC.out wr (HBM.out.trans (hb.mono HBM.out.size))
  have HBN : Hid (Below W5.heap.size W5 W5) := Lib.hid (Below.refl _ _)
  obtain ⟨k0, k1, k2, k3, k4, k5, k6, -, -⟩ := HC5.out _ HBN.out
  go_upto_region 5 with ((with_reducible apply wpList_store_new (ty := 55) (c := #[.int .i64 0, .int .i64 0, .int .i64 0, .int .i64 0, .int .i64 0, .int .i64 0, .int .i64 0, .int .i64 0, .int .i64 0, .int .i64 0, .int .i64 0, .int .i64 0, .int .i64 0, .int .i64 0, .int .i64 0, .int .i64 0, .int .i64 0]) (c' := #[.int .i64 0, .int .i64 f, .int .i64 b, .int .i64 0, .int .i64 0, .int .i64 0, .int .i64 0, .int .i64 0, .int .i64 0, .int .i64 0, .int .i64 0, .int .i64 0, .int .i64 0, .int .i64 0, .int .i64 0, .int .i64 0, .int .i64 0])); rfl; rfl; rfl; rfl; kernel_rfl; rfl; simp [Value.oneCell']; simp only [Act.put])
  have HXB : Hid (BoxL (W5.alloc (.cells #[.int .i64 0, .int .i64 f, .int .i64 b, .int .i64 0, .int .i64 0, .int .i64 0, .int .i64 0, .int .i64 0, .int .i64 0, .int .i64 0, .int .i64 0, .int .i64 0, .int .i64 0, .int .i64 0, .int .i64 0, .int .i64 0, .int .i64 0] 55)) W5.heap.size [.int .i64 0, .int .i64 f, .int .i64 b, .int .i64 0, .int .i64 0, .int .i64 0, .int .i64 0, .int .i64 0, .int .i64 0, .int .i64 0, .int .i64 0, .int .i64 0, .int .i64 0, .int .i64 0, .int .i64 0, .int .i64 0, .int .i64 0]) := Lib.hid (BoxL.new W5 _ _)
  have HB6 := Lib.hid (below1 W5 (.cells #[.int .i64 0, .int .i64 f, .int .i64 b, .int .i64 0, .int .i64 0, .int .i64 0, .int .i64 0, .int .i64 0, .int .i64 0, .int .i64 0, .int .i64 0, .int .i64 0, .int .i64 0, .int .i64 0, .int .i64 0, .int .i64 0, .int .i64 0] 55))
  clear HBN k0 k1 k2 k3 k4 k5 k6
  generalize W5.alloc (.cells #[.int .i64 0, .int .i64 f, .int .i64 b, .int .i64 0, .int .i64 0, .int .i64 0, .int .i64 0, .int .i64 0, .int .i64 0, .int .i64 0, .int .i64 0, .int .i64 0, .int .i64 0, .int .i64 0, .int .i64 0, .int .i64 0, .int .i64 0] 55) = W6 at *
  have hgb : g + 1 + 1 < W5.heap.size := Nat.lt_of_lt_of_le HL2.out HBM.out.size
  have HGM := Lib.hid (Nat.le_trans HGL.out HBM.out.size)
  obtain ⟨gb, hgbe⟩ : ∃ n, W5.heap.size = n := ⟨_, rfl⟩
  have HB6' := HB6
  rw [hgbe] at HXB hgb HB6' HGM
  have HLB := Lib.hid (HXB.out.lt (Nat.zero_lt_succ _))
  rw [hgbe]
  have HC6 : Hid (∀ wr, Below gb W6 wr → wr.cell? ⟨g, 0, none⟩ = some (.slice p.pa PL p.pc) ∧ wr.cell? ⟨g + 1, 0, none⟩ = some (.int .i64 4) ∧ wr.cell? ⟨g + 1, 1, none⟩ = some (.int .i64 f) ∧ wr.cell? ⟨g + 1, 2, none⟩ = some (.int .i64 b) ∧ wr.cell? ⟨g + 1, 3, none⟩ = some (.int .i64 tob) ∧ wr.cell? ⟨g + 1, 4, none⟩ = some (.int .i64 other) ∧ wr.cell? ⟨g + 1, 5, none⟩ = some (.int .i64 pos) ∧ wr.rangeAt (g + 1) 0 [.int .i64 4, .int .i64 f, .int .i64 b, .int .i64 tob, .int .i64 other, .int .i64 pos, .int .i64 id, .int .i64 kind, .int .i64 dst, .int .i64 a, .int .i64 b2, .int .i64 c, .int .i64 f2, .int .i64 n, .int .i64 x0, .int .i64 x1, .int .i64 x2] ∧ BoxL wr (g + 1 + 1) [.int .i64 0, .int .i64 0, .int .i64 0, .int .i64 0, .int .i64 0, .int .i64 0, .int .i64 0, .int .i64 0, .int .i64 0, .int .i64 0, .int .i64 0, .int .i64 0, .int .i64 0, .int .i64 0, .int .i64 0, .int .i64 0, .int .i64 0]) := Lib.hid fun wr hb => HC5.out wr (HB6.out.trans (by rw [hgbe]; exact hb))
  have HBN : Hid (Below gb W6 W6) := Lib.hid (Below.refl _ _)
  obtain ⟨k0, k1, k2, k3, k4, k5, k6, -, -⟩ := HC6.out _ HBN.out
  clear HC5 HC HXQ
  have s0 := HXB.out
  obtain ⟨c0, f0⟩ := HXB.out 0 _ rfl
  obtain ⟨c3, f3⟩ := HXB.out 3 _ rfl
  clear s0
  go_wp2_with fail
  go_region
  have HXF : Hid (BoxL ((W6.setCell ⟨gb, 0, none⟩ (.int .i64 3)).setCell ⟨gb, 3, none⟩ (.int .i64 tob)).drew gb [.int .i64 3, .int .i64 f, .int .i64 b, .int .i64 tob, .int .i64 0, .int .i64 0, .int .i64 0, .int .i64 0, .int .i64 0, .int .i64 0, .int .i64 0, .int .i64 0, .int .i64 0, .int .i64 0, .int .i64 0, .int .i64 0, .int .i64 0]) := Lib.hid ((HXB.out.put 0 (.int .i64 3) (by simp)).put 3 (.int .i64 tob) (by simp)).drew
  have hbx : Below gb W6 ((W6.setCell ⟨gb, 0, none⟩ (.int .i64 3)).setCell ⟨gb, 3, none⟩ (.int .i64 tob)).drew := ((HBN.out.setCell (p := ⟨gb, 0, none⟩) (Nat.le_refl _) (.int .i64 3)).setCell (p := ⟨gb, 3, none⟩) (Nat.le_refl _) (.int .i64 tob)).drew
  clear HBN HXB k0 k1 k2 k3 k4 k5 k6 c0 f0 c3 f3
  have HBN := Lib.hid hbx
  clear hbx
  generalize ((W6.setCell ⟨gb, 0, none⟩ (.int .i64 3)).setCell ⟨gb, 3, none⟩ (.int .i64 tob)).drew = W7 at *
  obtain ⟨k0, k1, k2, k3, k4, k5, k6, -, -⟩ := HC6.out _ HBN.out
  go_wp2_with (first | ((with_reducible apply wpList_load_w (ty := 55) (b := gb) (o := 0) (cs := [.int .i64 3, .int .i64 f, .int .i64 b, .int .i64 tob, .int .i64 0, .int .i64 0, .int .i64 0, .int .i64 0, .int .i64 0, .int .i64 0, .int .i64 0, .int .i64 0, .int .i64 0, .int .i64 0, .int .i64 0, .int .i64 0, .int .i64 0])); rotate_left; rfl; rfl; exact HXF.out.range; exact Tryz.underlying55; rfl; kernel_rfl; rotate_left; rfl; simp only [Act.put, List.setIfInBounds_toArray, List.set_cons_zero, List.set_cons_succ]) | ((with_reducible apply wpList_store_mid (ty := 55) (b := g + 1 + 1) (o := 0) (cells := #[.int .i64 3, .int .i64 f, .int .i64 b, .int .i64 tob, .int .i64 0, .int .i64 0, .int .i64 0, .int .i64 0, .int .i64 0, .int .i64 0, .int .i64 0, .int .i64 0, .int .i64 0, .int .i64 0, .int .i64 0, .int .i64 0, .int .i64 0])); rotate_left; rfl; rfl; rfl; exact (HC6.out _ HBN.out).2.2.2.2.2.2.2.2.there; kernel_rfl; simp [Value.oneCell']; rotate_left; rfl; simp only [Act.put]))
  refine bodyPost_ret (ret_box rfl _ _ (g + 1 + 1) [.int .i64 3, .int .i64 f, .int .i64 b, .int .i64 tob, .int .i64 0, .int .i64 0, .int .i64 0, .int .i64 0, .int .i64 0, .int .i64 0, .int .i64 0, .int .i64 0, .int .i64 0, .int .i64 0, .int .i64 0, .int .i64 0, .int .i64 0] _ _ rfl rfl ((HC6.out _ HBN.out).2.2.2.2.2.2.2.2.setAll _ rfl) Tryz.underlying55 rfl (by kernel_rfl)) rfl ⟨rfl, ?_⟩
  rw [hg]
  exact below_setCells (by omega) _ _ _ (HBb.out.trans ((HBM.out.trans ((HB6.out.trans (by rw [hgbe]; exact HBN.out)).mono HBM.out.size)).mono HGL.out))

set_option maxRecDepth 100000 in
set_option maxHeartbeats 16000000 in
theorem undo5 (p : Pg) (e : Ed) (w : World) (h : Rd w p) (hfew : p.few) (hwf : p.wf) (hc : chk p e = 0) (ho : e.op = 5) :
    Calls Tryz.prog 51 #[p.val, e.val] w fun x w' => UndRes p e w w' x := by
  have HAP := Lib.hid (fun wr (h : Rd wr p) => Apply_any p e wr h hfew hwf)
  have hub := undoB_of hc (by omega)
  have hue : undoE p e = ⟨5, e.f, e.b, e.other, e.tob, 0, Ins.zero⟩ := by unfold undoE; rw [if_pos hub]; simp [ho]
  simp only [AppRes, hc] at HAP
  clear hc
  unfold UndRes
  rw [hub, hue]
  clear hub hue
  have HRD0 := Lib.hid h
  have hlen10 := hfew.1
  clear h hfew hwf
  obtain ⟨op, f, b, tob, other, pos, ⟨id, kind, dst, a, b2, c, f2, n, x0, x1, x2⟩⟩ := e
  try dsimp only at *
  subst ho
  unfold Pg.val Ed.val at HAP
  unfold Pg.val Ed.val
  try dsimp only at *
  try unfold Pg.val at *
  obtain ⟨PL, hPL⟩ : ∃ PL, p.funs.length = PL := ⟨_, rfl⟩
  simp only [hPL] at HAP hlen10 ⊢
  clear hPL
  have HBb := Lib.hid (below3 w (.cells #[.slice p.pa PL p.pc] 24) (.cells #[.int .i64 5, .int .i64 f, .int .i64 b, .int .i64 tob, .int .i64 other, .int .i64 pos, .int .i64 id, .int .i64 kind, .int .i64 dst, .int .i64 a, .int .i64 b2, .int .i64 c, .int .i64 f2, .int .i64 n, .int .i64 x0, .int .i64 x1, .int .i64 x2] 55) (.cells #[.int .i64 0, .int .i64 0, .int .i64 0, .int .i64 0, .int .i64 0, .int .i64 0, .int .i64 0, .int .i64 0, .int .i64 0, .int .i64 0, .int .i64 0, .int .i64 0, .int .i64 0, .int .i64 0, .int .i64 0, .int .i64 0, .int .i64 0] 55))
  have hx0 := BoxL.new w [.slice p.pa PL p.pc] 24
  have HX0 := Lib.hid (show BoxL (((w.alloc (.cells #[.slice p.pa PL p.pc] 24)).alloc (.cells #[.int .i64 5, .int .i64 f, .int .i64 b, .int .i64 tob, .int .i64 other, .int .i64 pos, .int .i64 id, .int .i64 kind, .int .i64 dst, .int .i64 a, .int .i64 b2, .int .i64 c, .int .i64 f2, .int .i64 n, .int .i64 x0, .int .i64 x1, .int .i64 x2] 55)).alloc (.cells #[.int .i64 0, .int .i64 0, .int .i64 0, .int .i64 0, .int .i64 0, .int .i64 0, .int .i64 0, .int .i64 0, .int .i64 0, .int .i64 0, .int .i64 0, .int .i64 0, .int .i64 0, .int .i64 0, .int .i64 0, .int .i64 0, .int .i64 0] 55)) (w.heap.size) [.slice p.pa PL p.pc] from ((hx0).alloc (Nat.zero_lt_succ _) (.cells #[.int .i64 5, .int .i64 f, .int .i64 b, .int .i64 tob, .int .i64 other, .int .i64 pos, .int .i64 id, .int .i64 kind, .int .i64 dst, .int .i64 a, .int .i64 b2, .int .i64 c, .int .i64 f2, .int .i64 n, .int .i64 x0, .int .i64 x1, .int .i64 x2] 55)).alloc (Nat.zero_lt_succ _) (.cells #[.int .i64 0, .int .i64 0, .int .i64 0, .int .i64 0, .int .i64 0, .int .i64 0, .int .i64 0, .int .i64 0, .int .i64 0, .int .i64 0, .int .i64 0, .int .i64 0, .int .i64 0, .int .i64 0, .int .i64 0, .int .i64 0, .int .i64 0] 55))
  have hx1 := BoxL.new (w.alloc (.cells #[.slice p.pa PL p.pc] 24)) [.int .i64 5, .int .i64 f, .int .i64 b, .int .i64 tob, .int .i64 other, .int .i64 pos, .int .i64 id, .int .i64 kind, .int .i64 dst, .int .i64 a, .int .i64 b2, .int .i64 c, .int .i64 f2, .int .i64 n, .int .i64 x0, .int .i64 x1, .int .i64 x2] 55
  rw [World.size_alloc] at hx1
  have HX1 := Lib.hid (show BoxL (((w.alloc (.cells #[.slice p.pa PL p.pc] 24)).alloc (.cells #[.int .i64 5, .int .i64 f, .int .i64 b, .int .i64 tob, .int .i64 other, .int .i64 pos, .int .i64 id, .int .i64 kind, .int .i64 dst, .int .i64 a, .int .i64 b2, .int .i64 c, .int .i64 f2, .int .i64 n, .int .i64 x0, .int .i64 x1, .int .i64 x2] 55)).alloc (.cells #[.int .i64 0, .int .i64 0, .int .i64 0, .int .i64 0, .int .i64 0, .int .i64 0, .int .i64 0, .int .i64 0, .int .i64 0, .int .i64 0, .int .i64 0, .int .i64 0, .int .i64 0, .int .i64 0, .int .i64 0, .int .i64 0, .int .i64 0] 55)) (w.heap.size + 1) [.int .i64 5, .int .i64 f, .int .i64 b, .int .i64 tob, .int .i64 other, .int .i64 pos, .int .i64 id, .int .i64 kind, .int .i64 dst, .int .i64 a, .int .i64 b2, .int .i64 c, .int .i64 f2, .int .i64 n, .int .i64 x0, .int .i64 x1, .int .i64 x2] from (hx1).alloc (Nat.zero_lt_succ _) (.cells #[.int .i64 0, .int .i64 0, .int .i64 0, .int .i64 0, .int .i64 0, .int .i64 0, .int .i64 0, .int .i64 0, .int .i64 0, .int .i64 0, .int .i64 0, .int .i64 0, .int .i64 0, .int .i64 0, .int .i64 0, .int .i64 0, .int .i64 0] 55))
  have hx2 := BoxL.new ((w.alloc (.cells #[.slice p.pa PL p.pc] 24)).alloc (.cells #[.int .i64 5, .int .i64 f, .int .i64 b, .int .i64 tob, .int .i64 other, .int .i64 pos, .int .i64 id, .int .i64 kind, .int .i64 dst, .int .i64 a, .int .i64 b2, .int .i64 c, .int .i64 f2, .int .i64 n, .int .i64 x0, .int .i64 x1, .int .i64 x2] 55)) [.int .i64 0, .int .i64 0, .int .i64 0, .int .i64 0, .int .i64 0, .int .i64 0, .int .i64 0, .int .i64 0, .int .i64 0, .int .i64 0, .int .i64 0, .int .i64 0, .int .i64 0, .int .i64 0, .int .i64 0, .int .i64 0, .int .i64 0] 55
  rw [World.size_alloc, World.size_alloc] at hx2
  have HX2 := Lib.hid (show BoxL (((w.alloc (.cells #[.slice p.pa PL p.pc] 24)).alloc (.cells #[.int .i64 5, .int .i64 f, .int .i64 b, .int .i64 tob, .int .i64 other, .int .i64 pos, .int .i64 id, .int .i64 kind, .int .i64 dst, .int .i64 a, .int .i64 b2, .int .i64 c, .int .i64 f2, .int .i64 n, .int .i64 x0, .int .i64 x1, .int .i64 x2] 55)).alloc (.cells #[.int .i64 0, .int .i64 0, .int .i64 0, .int .i64 0, .int .i64 0, .int .i64 0, .int .i64 0, .int .i64 0, .int .i64 0, .int .i64 0, .int .i64 0, .int .i64 0, .int .i64 0, .int .i64 0, .int .i64 0, .int .i64 0, .int .i64 0] 55)) (w.heap.size + 1 + 1) [.int .i64 0, .int .i64 0, .int .i64 0, .int .i64 0, .int .i64 0, .int .i64 0, .int .i64 0, .int .i64 0, .int .i64 0, .int .i64 0, .int .i64 0, .int .i64 0, .int .i64 0, .int .i64 0, .int .i64 0, .int .i64 0, .int .i64 0] from hx2)
  clear hx0 hx1 hx2
  have HRW := Lib.hid (HRD0.out.on HBb.out)
  generalize hW : (((w.alloc (.cells #[.slice p.pa PL p.pc] 24)).alloc (.cells #[.int .i64 5, .int .i64 f, .int .i64 b, .int .i64 tob, .int .i64 other, .int .i64 pos, .int .i64 id, .int .i64 kind, .int .i64 dst, .int .i64 a, .int .i64 b2, .int .i64 c, .int .i64 f2, .int .i64 n, .int .i64 x0, .int .i64 x1, .int .i64 x2] 55)).alloc (.cells #[.int .i64 0, .int .i64 0, .int .i64 0, .int .i64 0, .int .i64 0, .int .i64 0, .int .i64 0, .int .i64 0, .int .i64 0, .int .i64 0, .int .i64 0, .int .i64 0, .int .i64 0, .int .i64 0, .int .i64 0, .int .i64 0, .int .i64 0] 55)) = W at HBb HX0 HX1 HX2 HRW
  obtain ⟨g, hg⟩ : ∃ g, w.heap.size = g := ⟨_, rfl⟩
  have HGL := Lib.hid HBb.out.size
  rw [hg] at HBb HGL HX0 HX1 HX2
  have HL0 := Lib.hid (HX0.out.lt (Nat.zero_lt_succ _))
  have HL1 := Lib.hid (HX1.out.lt (Nat.zero_lt_succ _))
  have HL2 := Lib.hid (HX2.out.lt (Nat.zero_lt_succ _))
  have HC : Hid (∀ wr, Below W.heap.size W wr → wr.cell? ⟨g, 0, none⟩ = some (.slice p.pa PL p.pc) ∧ wr.cell? ⟨g + 1, 0, none⟩ = some (.int .i64 5) ∧ wr.cell? ⟨g + 1, 1, none⟩ = some (.int .i64 f) ∧ wr.cell? ⟨g + 1, 2, none⟩ = some (.int .i64 b) ∧ wr.cell? ⟨g + 1, 3, none⟩ = some (.int .i64 tob) ∧ wr.cell? ⟨g + 1, 4, none⟩ = some (.int .i64 other) ∧ wr.cell? ⟨g + 1, 5, none⟩ = some (.int .i64 pos) ∧ wr.rangeAt (g + 1) 0 [.int .i64 5, .int .i64 f, .int .i64 b, .int .i64 tob, .int .i64 other, .int .i64 pos, .int .i64 id, .int .i64 kind, .int .i64 dst, .int .i64 a, .int .i64 b2, .int .i64 c, .int .i64 f2, .int .i64 n, .int .i64 x0, .int .i64 x1, .int .i64 x2] ∧ BoxL wr (g + 1 + 1) [.int .i64 0, .int .i64 0, .int .i64 0, .int .i64 0, .int .i64 0, .int .i64 0, .int .i64 0, .int .i64 0, .int .i64 0, .int .i64 0, .int .i64 0, .int .i64 0, .int .i64 0, .int .i64 0, .int .i64 0, .int .i64 0, .int .i64 0]) := Lib.hid fun wr hb => ⟨((HX0.out.below hb HL0.out) 0 _ rfl).1, ((HX1.out.below hb HL1.out) 0 _ rfl).1, ((HX1.out.below hb HL1.out) 1 _ rfl).1, ((HX1.out.below hb HL1.out) 2 _ rfl).1, ((HX1.out.below hb HL1.out) 3 _ rfl).1, ((HX1.out.below hb HL1.out) 4 _ rfl).1, ((HX1.out.below hb HL1.out) 5 _ rfl).1, (HX1.out.below hb HL1.out).range, HX2.out.below hb HL2.out⟩
  have HBN : Hid (Below W.heap.size W W) := Lib.hid (Below.refl _ _)
  obtain ⟨k0, k1, k2, k3, k4, k5, k6, -, -⟩ := HC.out _ HBN.out
  go_enter Tryz.func51, Tryz.ntmps51
  go_upto_region 1 with fail
  go_upto_region 2 with (first
    | (go_at_call 49; refine (HAP.out _ (HRW.out.on HBN.out)).mono ?_; rintro x we ⟨q, rfl, hqi, -, hqd, hbn⟩; have HQI := Lib.hid hqi; have HQD := Lib.hid hqd; clear hqi hqd; have hbx := HBN.out.trans (hbn.mono HBN.out.size); clear HBN hbn k0 k1 k2 k3 k4 k5 k6; have HBN := Lib.hid hbx; clear hbx; obtain ⟨k0, k1, k2, k3, k4, k5, k6, -, -⟩ := HC.out _ HBN.out)
    | ((with_reducible apply wpList_load_w (ty := 55) (b := g + 1) (o := 0) (cs := [.int .i64 5, .int .i64 f, .int .i64 b, .int .i64 tob, .int .i64 other, .int .i64 pos, .int .i64 id, .int .i64 kind, .int .i64 dst, .int .i64 a, .int .i64 b2, .int .i64 c, .int .i64 f2, .int .i64 n, .int .i64 x0, .int .i64 x1, .int .i64 x2])); rotate_left; rfl; rfl; exact (HC.out _ HBN.out).2.2.2.2.2.2.2.1; exact Tryz.underlying55; rfl; kernel_rfl; rotate_left; rfl; simp only [Act.put, List.setIfInBounds_toArray, List.set_cons_zero, List.set_cons_succ]))
  obtain ⟨QL, hQL⟩ : ∃ QL, q.funs.length = QL := ⟨_, rfl⟩
  have HQL := Lib.hid hQL
  simp only [hQL]
  clear hQL
  have hx := BoxL.new we [.slice q.pa QL q.pc] 24
  have hb5 := below1 we (.cells #[.slice q.pa QL q.pc] 24)
  have HXQ : Hid (BoxL (we.alloc (.cells #[.slice q.pa QL q.pc] 24)) we.heap.size [.slice q.pa QL q.pc]) := Lib.hid hx
  have HRQ := Lib.hid (show Rd (we.alloc (.cells #[.slice q.pa QL q.pc] 24)) q from (show Rd we q from ⟨HQI.out, (HRW.out.on HBN.out).2.1, (HRW.out.on HBN.out).2.2⟩).on hb5)
  have HBM := Lib.hid (HBN.out.trans (hb5.mono HBN.out.size))
  have HGE := Lib.hid HBN.out.size
  clear hx hb5 HBN k0 k1 k2 k3 k4 k5 k6
  generalize we.alloc (.cells #[.slice q.pa QL q.pc] 24) = W5 at *
  generalize we.heap.size = gq at *
  have HLQ := Lib.hid (HXQ.out.lt (Nat.zero_lt_succ _))
  have HRP := Lib.hid (HRW.out.on HBM.out)
  have HC5 : Hid (∀ wr, Below W5.heap.size W5 wr → wr.cell? ⟨g, 0, none⟩ = some (.slice p.pa PL p.pc) ∧ wr.cell? ⟨g + 1, 0, none⟩ = some (.int .i64 5) ∧ wr.cell? ⟨g + 1, 1, none⟩ = some (.int .i64 f) ∧ wr.cell? ⟨g + 1, 2, none⟩ = some (.int .i64 b) ∧ wr.cell? ⟨g + 1, 3, none⟩ = some (.int .i64 tob) ∧ wr.cell? ⟨g + 1, 4, none⟩ = some (.int .i64 other) ∧ wr.cell? ⟨g + 1, 5, none⟩ = some (.int .i64 pos) ∧ wr.rangeAt (g + 1) 0 [.int .i64 5, .int .i64 f, .int .i64 b, .int .i64 tob, .int .i64 other, .int .i64 pos, .int .i64 id, .int .i64 kind, .int .i64 dst, .int .i64 a, .int .i64 b2, .int .i64 c, .int .i64 f2, .int .i64 n, .int .i64 x0, .int .i64 x1, .int .i64 x2] ∧ BoxL wr (g + 1 + 1) [.int .i64 0, .int .i64 0, .int .i64 0, .int .i64 0, .int .i64 0, .int .i64 0, .int .i64 0, .int .i64 0, .int .i64 0, .int .i64 0, .int .i64 0, .int .i64 0, .int .i64 0, .int .i64 0, .int .i64 0, .int .i64 0, .int .i64 0]) := Lib.hid fun wr hb => HC.out wr (HBM.out.trans (hb.mono HBM.out.size))
  have HBN : Hid (Below W5.heap.size W5 W5) := Lib.hid (Below.refl _ _)
  obtain ⟨k0, k1, k2, k3, k4, k5, k6, -, -⟩ := HC5.out _ HBN.out
  go_upto_region 5 with ((with_reducible apply wpList_store_new (ty := 55) (c := #[.int .i64 0, .int .i64 0, .int .i64 0, .int .i64 0, .int .i64 0, .int .i64 0, .int .i64 0, .int .i64 0, .int .i64 0, .int .i64 0, .int .i64 0, .int .i64 0, .int .i64 0, .int .i64 0, .int .i64 0, .int .i64 0, .int .i64 0]) (c' := #[.int .i64 0, .int .i64 f, .int .i64 b, .int .i64 0, .int .i64 0, .int .i64 0, .int .i64 0, .int .i64 0, .int .i64 0, .int .i64 0, .int .i64 0, .int .i64 0, .int .i64 0, .int .i64 0, .int .i64 0, .int .i64 0, .int .i64 0])); rfl; rfl; rfl; rfl; kernel_rfl; rfl; simp [Value.oneCell']; simp only [Act.put])
  have HXB : Hid (BoxL (W5.alloc (.cells #[.int .i64 0, .int .i64 f, .int .i64 b, .int .i64 0, .int .i64 0, .int .i64 0, .int .i64 0, .int .i64 0, .int .i64 0, .int .i64 0, .int .i64 0, .int .i64 0, .int .i64 0, .int .i64 0, .int .i64 0, .int .i64 0, .int .i64 0] 55)) W5.heap.size [.int .i64 0, .int .i64 f, .int .i64 b, .int .i64 0, .int .i64 0, .int .i64 0, .int .i64 0, .int .i64 0, .int .i64 0, .int .i64 0, .int .i64 0, .int .i64 0, .int .i64 0, .int .i64 0, .int .i64 0, .int .i64 0, .int .i64 0]) := Lib.hid (BoxL.new W5 _ _)
  have HB6 := Lib.hid (below1 W5 (.cells #[.int .i64 0, .int .i64 f, .int .i64 b, .int .i64 0, .int .i64 0, .int .i64 0, .int .i64 0, .int .i64 0, .int .i64 0, .int .i64 0, .int .i64 0, .int .i64 0, .int .i64 0, .int .i64 0, .int .i64 0, .int .i64 0, .int .i64 0] 55))
  clear HBN k0 k1 k2 k3 k4 k5 k6
  generalize W5.alloc (.cells #[.int .i64 0, .int .i64 f, .int .i64 b, .int .i64 0, .int .i64 0, .int .i64 0, .int .i64 0, .int .i64 0, .int .i64 0, .int .i64 0, .int .i64 0, .int .i64 0, .int .i64 0, .int .i64 0, .int .i64 0, .int .i64 0, .int .i64 0] 55) = W6 at *
  have hgb : g + 1 + 1 < W5.heap.size := Nat.lt_of_lt_of_le HL2.out HBM.out.size
  have HGM := Lib.hid (Nat.le_trans HGL.out HBM.out.size)
  obtain ⟨gb, hgbe⟩ : ∃ n, W5.heap.size = n := ⟨_, rfl⟩
  have HB6' := HB6
  rw [hgbe] at HXB hgb HB6' HGM
  have HLB := Lib.hid (HXB.out.lt (Nat.zero_lt_succ _))
  rw [hgbe]
  have HC6 : Hid (∀ wr, Below gb W6 wr → wr.cell? ⟨g, 0, none⟩ = some (.slice p.pa PL p.pc) ∧ wr.cell? ⟨g + 1, 0, none⟩ = some (.int .i64 5) ∧ wr.cell? ⟨g + 1, 1, none⟩ = some (.int .i64 f) ∧ wr.cell? ⟨g + 1, 2, none⟩ = some (.int .i64 b) ∧ wr.cell? ⟨g + 1, 3, none⟩ = some (.int .i64 tob) ∧ wr.cell? ⟨g + 1, 4, none⟩ = some (.int .i64 other) ∧ wr.cell? ⟨g + 1, 5, none⟩ = some (.int .i64 pos) ∧ wr.rangeAt (g + 1) 0 [.int .i64 5, .int .i64 f, .int .i64 b, .int .i64 tob, .int .i64 other, .int .i64 pos, .int .i64 id, .int .i64 kind, .int .i64 dst, .int .i64 a, .int .i64 b2, .int .i64 c, .int .i64 f2, .int .i64 n, .int .i64 x0, .int .i64 x1, .int .i64 x2] ∧ BoxL wr (g + 1 + 1) [.int .i64 0, .int .i64 0, .int .i64 0, .int .i64 0, .int .i64 0, .int .i64 0, .int .i64 0, .int .i64 0, .int .i64 0, .int .i64 0, .int .i64 0, .int .i64 0, .int .i64 0, .int .i64 0, .int .i64 0, .int .i64 0, .int .i64 0]) := Lib.hid fun wr hb => HC5.out wr (HB6.out.trans (by rw [hgbe]; exact hb))
  have HBN : Hid (Below gb W6 W6) := Lib.hid (Below.refl _ _)
  obtain ⟨k0, k1, k2, k3, k4, k5, k6, -, -⟩ := HC6.out _ HBN.out
  clear HC5 HC HXQ
  have s0 := HXB.out
  obtain ⟨c0, f0⟩ := HXB.out 0 _ rfl
  obtain ⟨c3, f3⟩ := HXB.out 3 _ rfl
  obtain ⟨c4, f4⟩ := HXB.out 4 _ rfl
  clear s0
  go_wp2_with fail
  go_region
  have HXF : Hid (BoxL (((W6.setCell ⟨gb, 0, none⟩ (.int .i64 5)).setCell ⟨gb, 3, none⟩ (.int .i64 other)).setCell ⟨gb, 4, none⟩ (.int .i64 tob)).drew gb [.int .i64 5, .int .i64 f, .int .i64 b, .int .i64 other, .int .i64 tob, .int .i64 0, .int .i64 0, .int .i64 0, .int .i64 0, .int .i64 0, .int .i64 0, .int .i64 0, .int .i64 0, .int .i64 0, .int .i64 0, .int .i64 0, .int .i64 0]) := Lib.hid (((HXB.out.put 0 (.int .i64 5) (by simp)).put 3 (.int .i64 other) (by simp)).put 4 (.int .i64 tob) (by simp)).drew
  have hbx : Below gb W6 (((W6.setCell ⟨gb, 0, none⟩ (.int .i64 5)).setCell ⟨gb, 3, none⟩ (.int .i64 other)).setCell ⟨gb, 4, none⟩ (.int .i64 tob)).drew := (((HBN.out.setCell (p := ⟨gb, 0, none⟩) (Nat.le_refl _) (.int .i64 5)).setCell (p := ⟨gb, 3, none⟩) (Nat.le_refl _) (.int .i64 other)).setCell (p := ⟨gb, 4, none⟩) (Nat.le_refl _) (.int .i64 tob)).drew
  clear HBN HXB k0 k1 k2 k3 k4 k5 k6 c0 f0 c3 f3 c4 f4
  have HBN := Lib.hid hbx
  clear hbx
  generalize (((W6.setCell ⟨gb, 0, none⟩ (.int .i64 5)).setCell ⟨gb, 3, none⟩ (.int .i64 other)).setCell ⟨gb, 4, none⟩ (.int .i64 tob)).drew = W7 at *
  obtain ⟨k0, k1, k2, k3, k4, k5, k6, -, -⟩ := HC6.out _ HBN.out
  go_wp2_with (first | ((with_reducible apply wpList_load_w (ty := 55) (b := gb) (o := 0) (cs := [.int .i64 5, .int .i64 f, .int .i64 b, .int .i64 other, .int .i64 tob, .int .i64 0, .int .i64 0, .int .i64 0, .int .i64 0, .int .i64 0, .int .i64 0, .int .i64 0, .int .i64 0, .int .i64 0, .int .i64 0, .int .i64 0, .int .i64 0])); rotate_left; rfl; rfl; exact HXF.out.range; exact Tryz.underlying55; rfl; kernel_rfl; rotate_left; rfl; simp only [Act.put, List.setIfInBounds_toArray, List.set_cons_zero, List.set_cons_succ]) | ((with_reducible apply wpList_store_mid (ty := 55) (b := g + 1 + 1) (o := 0) (cells := #[.int .i64 5, .int .i64 f, .int .i64 b, .int .i64 other, .int .i64 tob, .int .i64 0, .int .i64 0, .int .i64 0, .int .i64 0, .int .i64 0, .int .i64 0, .int .i64 0, .int .i64 0, .int .i64 0, .int .i64 0, .int .i64 0, .int .i64 0])); rotate_left; rfl; rfl; rfl; exact (HC6.out _ HBN.out).2.2.2.2.2.2.2.2.there; kernel_rfl; simp [Value.oneCell']; rotate_left; rfl; simp only [Act.put]))
  refine bodyPost_ret (ret_box rfl _ _ (g + 1 + 1) [.int .i64 5, .int .i64 f, .int .i64 b, .int .i64 other, .int .i64 tob, .int .i64 0, .int .i64 0, .int .i64 0, .int .i64 0, .int .i64 0, .int .i64 0, .int .i64 0, .int .i64 0, .int .i64 0, .int .i64 0, .int .i64 0, .int .i64 0] _ _ rfl rfl ((HC6.out _ HBN.out).2.2.2.2.2.2.2.2.setAll _ rfl) Tryz.underlying55 rfl (by kernel_rfl)) rfl ⟨rfl, ?_⟩
  rw [hg]
  exact below_setCells (by omega) _ _ _ (HBb.out.trans ((HBM.out.trans ((HB6.out.trans (by rw [hgbe]; exact HBN.out)).mono HBM.out.size)).mono HGL.out))

set_option maxRecDepth 100000 in
set_option maxHeartbeats 16000000 in
theorem undo6 (p : Pg) (e : Ed) (w : World) (h : Rd w p) (hfew : p.few) (hwf : p.wf) (hc : chk p e = 0) (ho : e.op = 6) :
    Calls Tryz.prog 51 #[p.val, e.val] w fun x w' => UndRes p e w w' x := by
  have HAP := Lib.hid (fun wr (h : Rd wr p) => Apply_any p e wr h hfew hwf)
  have hub := undoB_of hc (by omega)
  have hue : undoE p e = ⟨7, e.f, e.b, 0, 0, e.pos, Ins.zero⟩ := by unfold undoE; rw [if_pos hub]; simp [ho]
  simp only [AppRes, hc] at HAP
  clear hc
  unfold UndRes
  rw [hub, hue]
  clear hub hue
  have HRD0 := Lib.hid h
  have hlen10 := hfew.1
  clear h hfew hwf
  obtain ⟨op, f, b, tob, other, pos, ⟨id, kind, dst, a, b2, c, f2, n, x0, x1, x2⟩⟩ := e
  try dsimp only at *
  subst ho
  unfold Pg.val Ed.val at HAP
  unfold Pg.val Ed.val
  try dsimp only at *
  try unfold Pg.val at *
  obtain ⟨PL, hPL⟩ : ∃ PL, p.funs.length = PL := ⟨_, rfl⟩
  simp only [hPL] at HAP hlen10 ⊢
  clear hPL
  have HBb := Lib.hid (below3 w (.cells #[.slice p.pa PL p.pc] 24) (.cells #[.int .i64 6, .int .i64 f, .int .i64 b, .int .i64 tob, .int .i64 other, .int .i64 pos, .int .i64 id, .int .i64 kind, .int .i64 dst, .int .i64 a, .int .i64 b2, .int .i64 c, .int .i64 f2, .int .i64 n, .int .i64 x0, .int .i64 x1, .int .i64 x2] 55) (.cells #[.int .i64 0, .int .i64 0, .int .i64 0, .int .i64 0, .int .i64 0, .int .i64 0, .int .i64 0, .int .i64 0, .int .i64 0, .int .i64 0, .int .i64 0, .int .i64 0, .int .i64 0, .int .i64 0, .int .i64 0, .int .i64 0, .int .i64 0] 55))
  have hx0 := BoxL.new w [.slice p.pa PL p.pc] 24
  have HX0 := Lib.hid (show BoxL (((w.alloc (.cells #[.slice p.pa PL p.pc] 24)).alloc (.cells #[.int .i64 6, .int .i64 f, .int .i64 b, .int .i64 tob, .int .i64 other, .int .i64 pos, .int .i64 id, .int .i64 kind, .int .i64 dst, .int .i64 a, .int .i64 b2, .int .i64 c, .int .i64 f2, .int .i64 n, .int .i64 x0, .int .i64 x1, .int .i64 x2] 55)).alloc (.cells #[.int .i64 0, .int .i64 0, .int .i64 0, .int .i64 0, .int .i64 0, .int .i64 0, .int .i64 0, .int .i64 0, .int .i64 0, .int .i64 0, .int .i64 0, .int .i64 0, .int .i64 0, .int .i64 0, .int .i64 0, .int .i64 0, .int .i64 0] 55)) (w.heap.size) [.slice p.pa PL p.pc] from ((hx0).alloc (Nat.zero_lt_succ _) (.cells #[.int .i64 6, .int .i64 f, .int .i64 b, .int .i64 tob, .int .i64 other, .int .i64 pos, .int .i64 id, .int .i64 kind, .int .i64 dst, .int .i64 a, .int .i64 b2, .int .i64 c, .int .i64 f2, .int .i64 n, .int .i64 x0, .int .i64 x1, .int .i64 x2] 55)).alloc (Nat.zero_lt_succ _) (.cells #[.int .i64 0, .int .i64 0, .int .i64 0, .int .i64 0, .int .i64 0, .int .i64 0, .int .i64 0, .int .i64 0, .int .i64 0, .int .i64 0, .int .i64 0, .int .i64 0, .int .i64 0, .int .i64 0, .int .i64 0, .int .i64 0, .int .i64 0] 55))
  have hx1 := BoxL.new (w.alloc (.cells #[.slice p.pa PL p.pc] 24)) [.int .i64 6, .int .i64 f, .int .i64 b, .int .i64 tob, .int .i64 other, .int .i64 pos, .int .i64 id, .int .i64 kind, .int .i64 dst, .int .i64 a, .int .i64 b2, .int .i64 c, .int .i64 f2, .int .i64 n, .int .i64 x0, .int .i64 x1, .int .i64 x2] 55
  rw [World.size_alloc] at hx1
  have HX1 := Lib.hid (show BoxL (((w.alloc (.cells #[.slice p.pa PL p.pc] 24)).alloc (.cells #[.int .i64 6, .int .i64 f, .int .i64 b, .int .i64 tob, .int .i64 other, .int .i64 pos, .int .i64 id, .int .i64 kind, .int .i64 dst, .int .i64 a, .int .i64 b2, .int .i64 c, .int .i64 f2, .int .i64 n, .int .i64 x0, .int .i64 x1, .int .i64 x2] 55)).alloc (.cells #[.int .i64 0, .int .i64 0, .int .i64 0, .int .i64 0, .int .i64 0, .int .i64 0, .int .i64 0, .int .i64 0, .int .i64 0, .int .i64 0, .int .i64 0, .int .i64 0, .int .i64 0, .int .i64 0, .int .i64 0, .int .i64 0, .int .i64 0] 55)) (w.heap.size + 1) [.int .i64 6, .int .i64 f, .int .i64 b, .int .i64 tob, .int .i64 other, .int .i64 pos, .int .i64 id, .int .i64 kind, .int .i64 dst, .int .i64 a, .int .i64 b2, .int .i64 c, .int .i64 f2, .int .i64 n, .int .i64 x0, .int .i64 x1, .int .i64 x2] from (hx1).alloc (Nat.zero_lt_succ _) (.cells #[.int .i64 0, .int .i64 0, .int .i64 0, .int .i64 0, .int .i64 0, .int .i64 0, .int .i64 0, .int .i64 0, .int .i64 0, .int .i64 0, .int .i64 0, .int .i64 0, .int .i64 0, .int .i64 0, .int .i64 0, .int .i64 0, .int .i64 0] 55))
  have hx2 := BoxL.new ((w.alloc (.cells #[.slice p.pa PL p.pc] 24)).alloc (.cells #[.int .i64 6, .int .i64 f, .int .i64 b, .int .i64 tob, .int .i64 other, .int .i64 pos, .int .i64 id, .int .i64 kind, .int .i64 dst, .int .i64 a, .int .i64 b2, .int .i64 c, .int .i64 f2, .int .i64 n, .int .i64 x0, .int .i64 x1, .int .i64 x2] 55)) [.int .i64 0, .int .i64 0, .int .i64 0, .int .i64 0, .int .i64 0, .int .i64 0, .int .i64 0, .int .i64 0, .int .i64 0, .int .i64 0, .int .i64 0, .int .i64 0, .int .i64 0, .int .i64 0, .int .i64 0, .int .i64 0, .int .i64 0] 55
  rw [World.size_alloc, World.size_alloc] at hx2
  have HX2 := Lib.hid (show BoxL (((w.alloc (.cells #[.slice p.pa PL p.pc] 24)).alloc (.cells #[.int .i64 6, .int .i64 f, .int .i64 b, .int .i64 tob, .int .i64 other, .int .i64 pos, .int .i64 id, .int .i64 kind, .int .i64 dst, .int .i64 a, .int .i64 b2, .int .i64 c, .int .i64 f2, .int .i64 n, .int .i64 x0, .int .i64 x1, .int .i64 x2] 55)).alloc (.cells #[.int .i64 0, .int .i64 0, .int .i64 0, .int .i64 0, .int .i64 0, .int .i64 0, .int .i64 0, .int .i64 0, .int .i64 0, .int .i64 0, .int .i64 0, .int .i64 0, .int .i64 0, .int .i64 0, .int .i64 0, .int .i64 0, .int .i64 0] 55)) (w.heap.size + 1 + 1) [.int .i64 0, .int .i64 0, .int .i64 0, .int .i64 0, .int .i64 0, .int .i64 0, .int .i64 0, .int .i64 0, .int .i64 0, .int .i64 0, .int .i64 0, .int .i64 0, .int .i64 0, .int .i64 0, .int .i64 0, .int .i64 0, .int .i64 0] from hx2)
  clear hx0 hx1 hx2
  have HRW := Lib.hid (HRD0.out.on HBb.out)
  generalize hW : (((w.alloc (.cells #[.slice p.pa PL p.pc] 24)).alloc (.cells #[.int .i64 6, .int .i64 f, .int .i64 b, .int .i64 tob, .int .i64 other, .int .i64 pos, .int .i64 id, .int .i64 kind, .int .i64 dst, .int .i64 a, .int .i64 b2, .int .i64 c, .int .i64 f2, .int .i64 n, .int .i64 x0, .int .i64 x1, .int .i64 x2] 55)).alloc (.cells #[.int .i64 0, .int .i64 0, .int .i64 0, .int .i64 0, .int .i64 0, .int .i64 0, .int .i64 0, .int .i64 0, .int .i64 0, .int .i64 0, .int .i64 0, .int .i64 0, .int .i64 0, .int .i64 0, .int .i64 0, .int .i64 0, .int .i64 0] 55)) = W at HBb HX0 HX1 HX2 HRW
  obtain ⟨g, hg⟩ : ∃ g, w.heap.size = g := ⟨_, rfl⟩
  have HGL := Lib.hid HBb.out.size
  rw [hg] at HBb HGL HX0 HX1 HX2
  have HL0 := Lib.hid (HX0.out.lt (Nat.zero_lt_succ _))
  have HL1 := Lib.hid (HX1.out.lt (Nat.zero_lt_succ _))
  have HL2 := Lib.hid (HX2.out.lt (Nat.zero_lt_succ _))
  have HC : Hid (∀ wr, Below W.heap.size W wr → wr.cell? ⟨g, 0, none⟩ = some (.slice p.pa PL p.pc) ∧ wr.cell? ⟨g + 1, 0, none⟩ = some (.int .i64 6) ∧ wr.cell? ⟨g + 1, 1, none⟩ = some (.int .i64 f) ∧ wr.cell? ⟨g + 1, 2, none⟩ = some (.int .i64 b) ∧ wr.cell? ⟨g + 1, 3, none⟩ = some (.int .i64 tob) ∧ wr.cell? ⟨g + 1, 4, none⟩ = some (.int .i64 other) ∧ wr.cell? ⟨g + 1, 5, none⟩ = some (.int .i64 pos) ∧ wr.rangeAt (g + 1) 0 [.int .i64 6, .int .i64 f, .int .i64 b, .int .i64 tob, .int .i64 other, .int .i64 pos, .int .i64 id, .int .i64 kind, .int .i64 dst, .int .i64 a, .int .i64 b2, .int .i64 c, .int .i64 f2, .int .i64 n, .int .i64 x0, .int .i64 x1, .int .i64 x2] ∧ BoxL wr (g + 1 + 1) [.int .i64 0, .int .i64 0, .int .i64 0, .int .i64 0, .int .i64 0, .int .i64 0, .int .i64 0, .int .i64 0, .int .i64 0, .int .i64 0, .int .i64 0, .int .i64 0, .int .i64 0, .int .i64 0, .int .i64 0, .int .i64 0, .int .i64 0]) := Lib.hid fun wr hb => ⟨((HX0.out.below hb HL0.out) 0 _ rfl).1, ((HX1.out.below hb HL1.out) 0 _ rfl).1, ((HX1.out.below hb HL1.out) 1 _ rfl).1, ((HX1.out.below hb HL1.out) 2 _ rfl).1, ((HX1.out.below hb HL1.out) 3 _ rfl).1, ((HX1.out.below hb HL1.out) 4 _ rfl).1, ((HX1.out.below hb HL1.out) 5 _ rfl).1, (HX1.out.below hb HL1.out).range, HX2.out.below hb HL2.out⟩
  have HBN : Hid (Below W.heap.size W W) := Lib.hid (Below.refl _ _)
  obtain ⟨k0, k1, k2, k3, k4, k5, k6, -, -⟩ := HC.out _ HBN.out
  go_enter Tryz.func51, Tryz.ntmps51
  go_upto_region 1 with fail
  go_upto_region 2 with (first
    | (go_at_call 49; refine (HAP.out _ (HRW.out.on HBN.out)).mono ?_; rintro x we ⟨q, rfl, hqi, -, hqd, hbn⟩; have HQI := Lib.hid hqi; have HQD := Lib.hid hqd; clear hqi hqd; have hbx := HBN.out.trans (hbn.mono HBN.out.size); clear HBN hbn k0 k1 k2 k3 k4 k5 k6; have HBN := Lib.hid hbx; clear hbx; obtain ⟨k0, k1, k2, k3, k4, k5, k6, -, -⟩ := HC.out _ HBN.out)
    | ((with_reducible apply wpList_load_w (ty := 55) (b := g + 1) (o := 0) (cs := [.int .i64 6, .int .i64 f, .int .i64 b, .int .i64 tob, .int .i64 other, .int .i64 pos, .int .i64 id, .int .i64 kind, .int .i64 dst, .int .i64 a, .int .i64 b2, .int .i64 c, .int .i64 f2, .int .i64 n, .int .i64 x0, .int .i64 x1, .int .i64 x2])); rotate_left; rfl; rfl; exact (HC.out _ HBN.out).2.2.2.2.2.2.2.1; exact Tryz.underlying55; rfl; kernel_rfl; rotate_left; rfl; simp only [Act.put, List.setIfInBounds_toArray, List.set_cons_zero, List.set_cons_succ]))
  obtain ⟨QL, hQL⟩ : ∃ QL, q.funs.length = QL := ⟨_, rfl⟩
  have HQL := Lib.hid hQL
  simp only [hQL]
  clear hQL
  have hx := BoxL.new we [.slice q.pa QL q.pc] 24
  have hb5 := below1 we (.cells #[.slice q.pa QL q.pc] 24)
  have HXQ : Hid (BoxL (we.alloc (.cells #[.slice q.pa QL q.pc] 24)) we.heap.size [.slice q.pa QL q.pc]) := Lib.hid hx
  have HRQ := Lib.hid (show Rd (we.alloc (.cells #[.slice q.pa QL q.pc] 24)) q from (show Rd we q from ⟨HQI.out, (HRW.out.on HBN.out).2.1, (HRW.out.on HBN.out).2.2⟩).on hb5)
  have HBM := Lib.hid (HBN.out.trans (hb5.mono HBN.out.size))
  have HGE := Lib.hid HBN.out.size
  clear hx hb5 HBN k0 k1 k2 k3 k4 k5 k6
  generalize we.alloc (.cells #[.slice q.pa QL q.pc] 24) = W5 at *
  generalize we.heap.size = gq at *
  have HLQ := Lib.hid (HXQ.out.lt (Nat.zero_lt_succ _))
  have HRP := Lib.hid (HRW.out.on HBM.out)
  have HC5 : Hid (∀ wr, Below W5.heap.size W5 wr → wr.cell? ⟨g, 0, none⟩ = some (.slice p.pa PL p.pc) ∧ wr.cell? ⟨g + 1, 0, none⟩ = some (.int .i64 6) ∧ wr.cell? ⟨g + 1, 1, none⟩ = some (.int .i64 f) ∧ wr.cell? ⟨g + 1, 2, none⟩ = some (.int .i64 b) ∧ wr.cell? ⟨g + 1, 3, none⟩ = some (.int .i64 tob) ∧ wr.cell? ⟨g + 1, 4, none⟩ = some (.int .i64 other) ∧ wr.cell? ⟨g + 1, 5, none⟩ = some (.int .i64 pos) ∧ wr.rangeAt (g + 1) 0 [.int .i64 6, .int .i64 f, .int .i64 b, .int .i64 tob, .int .i64 other, .int .i64 pos, .int .i64 id, .int .i64 kind, .int .i64 dst, .int .i64 a, .int .i64 b2, .int .i64 c, .int .i64 f2, .int .i64 n, .int .i64 x0, .int .i64 x1, .int .i64 x2] ∧ BoxL wr (g + 1 + 1) [.int .i64 0, .int .i64 0, .int .i64 0, .int .i64 0, .int .i64 0, .int .i64 0, .int .i64 0, .int .i64 0, .int .i64 0, .int .i64 0, .int .i64 0, .int .i64 0, .int .i64 0, .int .i64 0, .int .i64 0, .int .i64 0, .int .i64 0]) := Lib.hid fun wr hb => HC.out wr (HBM.out.trans (hb.mono HBM.out.size))
  have HBN : Hid (Below W5.heap.size W5 W5) := Lib.hid (Below.refl _ _)
  obtain ⟨k0, k1, k2, k3, k4, k5, k6, -, -⟩ := HC5.out _ HBN.out
  go_upto_region 5 with ((with_reducible apply wpList_store_new (ty := 55) (c := #[.int .i64 0, .int .i64 0, .int .i64 0, .int .i64 0, .int .i64 0, .int .i64 0, .int .i64 0, .int .i64 0, .int .i64 0, .int .i64 0, .int .i64 0, .int .i64 0, .int .i64 0, .int .i64 0, .int .i64 0, .int .i64 0, .int .i64 0]) (c' := #[.int .i64 0, .int .i64 f, .int .i64 b, .int .i64 0, .int .i64 0, .int .i64 0, .int .i64 0, .int .i64 0, .int .i64 0, .int .i64 0, .int .i64 0, .int .i64 0, .int .i64 0, .int .i64 0, .int .i64 0, .int .i64 0, .int .i64 0])); rfl; rfl; rfl; rfl; kernel_rfl; rfl; simp [Value.oneCell']; simp only [Act.put])
  have HXB : Hid (BoxL (W5.alloc (.cells #[.int .i64 0, .int .i64 f, .int .i64 b, .int .i64 0, .int .i64 0, .int .i64 0, .int .i64 0, .int .i64 0, .int .i64 0, .int .i64 0, .int .i64 0, .int .i64 0, .int .i64 0, .int .i64 0, .int .i64 0, .int .i64 0, .int .i64 0] 55)) W5.heap.size [.int .i64 0, .int .i64 f, .int .i64 b, .int .i64 0, .int .i64 0, .int .i64 0, .int .i64 0, .int .i64 0, .int .i64 0, .int .i64 0, .int .i64 0, .int .i64 0, .int .i64 0, .int .i64 0, .int .i64 0, .int .i64 0, .int .i64 0]) := Lib.hid (BoxL.new W5 _ _)
  have HB6 := Lib.hid (below1 W5 (.cells #[.int .i64 0, .int .i64 f, .int .i64 b, .int .i64 0, .int .i64 0, .int .i64 0, .int .i64 0, .int .i64 0, .int .i64 0, .int .i64 0, .int .i64 0, .int .i64 0, .int .i64 0, .int .i64 0, .int .i64 0, .int .i64 0, .int .i64 0] 55))
  clear HBN k0 k1 k2 k3 k4 k5 k6
  generalize W5.alloc (.cells #[.int .i64 0, .int .i64 f, .int .i64 b, .int .i64 0, .int .i64 0, .int .i64 0, .int .i64 0, .int .i64 0, .int .i64 0, .int .i64 0, .int .i64 0, .int .i64 0, .int .i64 0, .int .i64 0, .int .i64 0, .int .i64 0, .int .i64 0] 55) = W6 at *
  have hgb : g + 1 + 1 < W5.heap.size := Nat.lt_of_lt_of_le HL2.out HBM.out.size
  have HGM := Lib.hid (Nat.le_trans HGL.out HBM.out.size)
  obtain ⟨gb, hgbe⟩ : ∃ n, W5.heap.size = n := ⟨_, rfl⟩
  have HB6' := HB6
  rw [hgbe] at HXB hgb HB6' HGM
  have HLB := Lib.hid (HXB.out.lt (Nat.zero_lt_succ _))
  rw [hgbe]
  have HC6 : Hid (∀ wr, Below gb W6 wr → wr.cell? ⟨g, 0, none⟩ = some (.slice p.pa PL p.pc) ∧ wr.cell? ⟨g + 1, 0, none⟩ = some (.int .i64 6) ∧ wr.cell? ⟨g + 1, 1, none⟩ = some (.int .i64 f) ∧ wr.cell? ⟨g + 1, 2, none⟩ = some (.int .i64 b) ∧ wr.cell? ⟨g + 1, 3, none⟩ = some (.int .i64 tob) ∧ wr.cell? ⟨g + 1, 4, none⟩ = some (.int .i64 other) ∧ wr.cell? ⟨g + 1, 5, none⟩ = some (.int .i64 pos) ∧ wr.rangeAt (g + 1) 0 [.int .i64 6, .int .i64 f, .int .i64 b, .int .i64 tob, .int .i64 other, .int .i64 pos, .int .i64 id, .int .i64 kind, .int .i64 dst, .int .i64 a, .int .i64 b2, .int .i64 c, .int .i64 f2, .int .i64 n, .int .i64 x0, .int .i64 x1, .int .i64 x2] ∧ BoxL wr (g + 1 + 1) [.int .i64 0, .int .i64 0, .int .i64 0, .int .i64 0, .int .i64 0, .int .i64 0, .int .i64 0, .int .i64 0, .int .i64 0, .int .i64 0, .int .i64 0, .int .i64 0, .int .i64 0, .int .i64 0, .int .i64 0, .int .i64 0, .int .i64 0]) := Lib.hid fun wr hb => HC5.out wr (HB6.out.trans (by rw [hgbe]; exact hb))
  have HBN : Hid (Below gb W6 W6) := Lib.hid (Below.refl _ _)
  obtain ⟨k0, k1, k2, k3, k4, k5, k6, -, -⟩ := HC6.out _ HBN.out
  clear HC5 HC HXQ
  have s0 := HXB.out
  obtain ⟨c0, f0⟩ := HXB.out 0 _ rfl
  obtain ⟨c5, f5⟩ := HXB.out 5 _ rfl
  clear s0
  go_wp2_with fail
  go_region
  have HXF : Hid (BoxL ((W6.setCell ⟨gb, 0, none⟩ (.int .i64 7)).setCell ⟨gb, 5, none⟩ (.int .i64 pos)).drew gb [.int .i64 7, .int .i64 f, .int .i64 b, .int .i64 0, .int .i64 0, .int .i64 pos, .int .i64 0, .int .i64 0, .int .i64 0, .int .i64 0, .int .i64 0, .int .i64 0, .int .i64 0, .int .i64 0, .int .i64 0, .int .i64 0, .int .i64 0]) := Lib.hid ((HXB.out.put 0 (.int .i64 7) (by simp)).put 5 (.int .i64 pos) (by simp)).drew
  have hbx : Below gb W6 ((W6.setCell ⟨gb, 0, none⟩ (.int .i64 7)).setCell ⟨gb, 5, none⟩ (.int .i64 pos)).drew := ((HBN.out.setCell (p := ⟨gb, 0, none⟩) (Nat.le_refl _) (.int .i64 7)).setCell (p := ⟨gb, 5, none⟩) (Nat.le_refl _) (.int .i64 pos)).drew
  clear HBN HXB k0 k1 k2 k3 k4 k5 k6 c0 f0 c5 f5
  have HBN := Lib.hid hbx
  clear hbx
  generalize ((W6.setCell ⟨gb, 0, none⟩ (.int .i64 7)).setCell ⟨gb, 5, none⟩ (.int .i64 pos)).drew = W7 at *
  obtain ⟨k0, k1, k2, k3, k4, k5, k6, -, -⟩ := HC6.out _ HBN.out
  go_wp2_with (first | ((with_reducible apply wpList_load_w (ty := 55) (b := gb) (o := 0) (cs := [.int .i64 7, .int .i64 f, .int .i64 b, .int .i64 0, .int .i64 0, .int .i64 pos, .int .i64 0, .int .i64 0, .int .i64 0, .int .i64 0, .int .i64 0, .int .i64 0, .int .i64 0, .int .i64 0, .int .i64 0, .int .i64 0, .int .i64 0])); rotate_left; rfl; rfl; exact HXF.out.range; exact Tryz.underlying55; rfl; kernel_rfl; rotate_left; rfl; simp only [Act.put, List.setIfInBounds_toArray, List.set_cons_zero, List.set_cons_succ]) | ((with_reducible apply wpList_store_mid (ty := 55) (b := g + 1 + 1) (o := 0) (cells := #[.int .i64 7, .int .i64 f, .int .i64 b, .int .i64 0, .int .i64 0, .int .i64 pos, .int .i64 0, .int .i64 0, .int .i64 0, .int .i64 0, .int .i64 0, .int .i64 0, .int .i64 0, .int .i64 0, .int .i64 0, .int .i64 0, .int .i64 0])); rotate_left; rfl; rfl; rfl; exact (HC6.out _ HBN.out).2.2.2.2.2.2.2.2.there; kernel_rfl; simp [Value.oneCell']; rotate_left; rfl; simp only [Act.put]))
  refine bodyPost_ret (ret_box rfl _ _ (g + 1 + 1) [.int .i64 7, .int .i64 f, .int .i64 b, .int .i64 0, .int .i64 0, .int .i64 pos, .int .i64 0, .int .i64 0, .int .i64 0, .int .i64 0, .int .i64 0, .int .i64 0, .int .i64 0, .int .i64 0, .int .i64 0, .int .i64 0, .int .i64 0] _ _ rfl rfl ((HC6.out _ HBN.out).2.2.2.2.2.2.2.2.setAll _ rfl) Tryz.underlying55 rfl (by kernel_rfl)) rfl ⟨rfl, ?_⟩
  rw [hg]
  exact below_setCells (by omega) _ _ _ (HBb.out.trans ((HBM.out.trans ((HB6.out.trans (by rw [hgbe]; exact HBN.out)).mono HBM.out.size)).mono HGL.out))
end Go.Proofs.YtbddjneinfkmpaaGreatDoor

namespace Go.Proofs.YtbddjneinfkmpaaGreatDoor
open Go Go.RowKit Go.Sort

set_option maxRecDepth 100000 in
set_option maxHeartbeats 16000000 in
theorem undo1 (p : Pg) (e : Ed) (w : World) (h : Rd w p) (hfew : p.few) (hwf : p.wf) (hc : chk p e = 0) (ho : e.op = 1) :
    Calls Tryz.prog 51 #[p.val, e.val] w fun x w' => UndRes p e w w' x := by
  have HAP := Lib.hid (fun wr (h : Rd wr p) => Apply_any p e wr h hfew hwf)
  have hub := undoB_of hc (by omega)
  obtain ⟨nb, hnb⟩ : ∃ z, newBlk p e.f = z := ⟨_, rfl⟩
  have hue : undoE p e = ⟨2, e.f, nb, 0, 0, 0, Ins.zero⟩ := by unfold undoE; rw [if_pos hub]; simp [ho, hnb]
  have HNB := Lib.hid (fun wr (h : Rd wr p) => (NewBlock_any p e.f wr h.1 h.2.1 h.2.2 hfew).mono (R' := fun x w' => x = .returned (.int .i64 nb) ∧ Below wr.heap.size wr w') fun x w' ⟨⟨z, hx, hz⟩, hb⟩ => ⟨by rw [hx, newBlk_eq hz, hnb], hb⟩)
  simp only [AppRes, hc] at HAP
  clear hc hnb
  unfold UndRes
  rw [hub, hue]
  clear hub hue
  have HRD0 := Lib.hid h
  have hlen10 := hfew.1
  clear h hfew hwf
  obtain ⟨op, f, b, tob, other, pos, ⟨id, kind, dst, a, b2, c, f2, n, x0, x1, x2⟩⟩ := e
  try dsimp only at *
  subst ho
  unfold Pg.val Ed.val at HAP
  unfold Pg.val at HNB
  unfold Pg.val Ed.val
  try dsimp only at *
  try unfold Pg.val at *
  obtain ⟨PL, hPL⟩ : ∃ PL, p.funs.length = PL := ⟨_, rfl⟩
  simp only [hPL] at HAP HNB hlen10 ⊢
  clear hPL
  have HBb := Lib.hid (below3 w (.cells #[.slice p.pa PL p.pc] 24) (.cells #[.int .i64 1, .int .i64 f, .int .i64 b, .int .i64 tob, .int .i64 other, .int .i64 pos, .int .i64 id, .int .i64 kind, .int .i64 dst, .int .i64 a, .int .i64 b2, .int .i64 c, .int .i64 f2, .int .i64 n, .int .i64 x0, .int .i64 x1, .int .i64 x2] 55) (.cells #[.int .i64 0, .int .i64 0, .int .i64 0, .int .i64 0, .int .i64 0, .int .i64 0, .int .i64 0, .int .i64 0, .int .i64 0, .int .i64 0, .int .i64 0, .int .i64 0, .int .i64 0, .int .i64 0, .int .i64 0, .int .i64 0, .int .i64 0] 55))
  have hx0 := BoxL.new w [.slice p.pa PL p.pc] 24
  have HX0 := Lib.hid (show BoxL (((w.alloc (.cells #[.slice p.pa PL p.pc] 24)).alloc (.cells #[.int .i64 1, .int .i64 f, .int .i64 b, .int .i64 tob, .int .i64 other, .int .i64 pos, .int .i64 id, .int .i64 kind, .int .i64 dst, .int .i64 a, .int .i64 b2, .int .i64 c, .int .i64 f2, .int .i64 n, .int .i64 x0, .int .i64 x1, .int .i64 x2] 55)).alloc (.cells #[.int .i64 0, .int .i64 0, .int .i64 0, .int .i64 0, .int .i64 0, .int .i64 0, .int .i64 0, .int .i64 0, .int .i64 0, .int .i64 0, .int .i64 0, .int .i64 0, .int .i64 0, .int .i64 0, .int .i64 0, .int .i64 0, .int .i64 0] 55)) (w.heap.size) [.slice p.pa PL p.pc] from ((hx0).alloc (Nat.zero_lt_succ _) (.cells #[.int .i64 1, .int .i64 f, .int .i64 b, .int .i64 tob, .int .i64 other, .int .i64 pos, .int .i64 id, .int .i64 kind, .int .i64 dst, .int .i64 a, .int .i64 b2, .int .i64 c, .int .i64 f2, .int .i64 n, .int .i64 x0, .int .i64 x1, .int .i64 x2] 55)).alloc (Nat.zero_lt_succ _) (.cells #[.int .i64 0, .int .i64 0, .int .i64 0, .int .i64 0, .int .i64 0, .int .i64 0, .int .i64 0, .int .i64 0, .int .i64 0, .int .i64 0, .int .i64 0, .int .i64 0, .int .i64 0, .int .i64 0, .int .i64 0, .int .i64 0, .int .i64 0] 55))
  have hx1 := BoxL.new (w.alloc (.cells #[.slice p.pa PL p.pc] 24)) [.int .i64 1, .int .i64 f, .int .i64 b, .int .i64 tob, .int .i64 other, .int .i64 pos, .int .i64 id, .int .i64 kind, .int .i64 dst, .int .i64 a, .int .i64 b2, .int .i64 c, .int .i64 f2, .int .i64 n, .int .i64 x0, .int .i64 x1, .int .i64 x2] 55
  rw [World.size_alloc] at hx1
  have HX1 := Lib.hid (show BoxL (((w.alloc (.cells #[.slice p.pa PL p.pc] 24)).alloc (.cells #[.int .i64 1, .int .i64 f, .int .i64 b, .int .i64 tob, .int .i64 other, .int .i64 pos, .int .i64 id, .int .i64 kind, .int .i64 dst, .int .i64 a, .int .i64 b2, .int .i64 c, .int .i64 f2, .int .i64 n, .int .i64 x0, .int .i64 x1, .int .i64 x2] 55)).alloc (.cells #[.int .i64 0, .int .i64 0, .int .i64 0, .int .i64 0, .int .i64 0, .int .i64 0, .int .i64 0, .int .i64 0, .int .i64 0, .int .i64 0, .int .i64 0, .int .i64 0, .int .i64 0, .int .i64 0, .int .i64 0, .int .i64 0, .int .i64 0] 55)) (w.heap.size + 1) [.int .i64 1, .int .i64 f, .int .i64 b, .int .i64 tob, .int .i64 other, .int .i64 pos, .int .i64 id, .int .i64 kind, .int .i64 dst, .int .i64 a, .int .i64 b2, .int .i64 c, .int .i64 f2, .int .i64 n, .int .i64 x0, .int .i64 x1, .int .i64 x2] from (hx1).alloc (Nat.zero_lt_succ _) (.cells #[.int .i64 0, .int .i64 0, .int .i64 0, .int .i64 0, .int .i64 0, .int .i64 0, .int .i64 0, .int .i64 0, .int .i64 0, .int .i64 0, .int .i64 0, .int .i64 0, .int .i64 0, .int .i64 0, .int .i64 0, .int .i64 0, .int .i64 0] 55))
  have hx2 := BoxL.new ((w.alloc (.cells #[.slice p.pa PL p.pc] 24)).alloc (.cells #[.int .i64 1, .int .i64 f, .int .i64 b, .int .i64 tob, .int .i64 other, .int .i64 pos, .int .i64 id, .int .i64 kind, .int .i64 dst, .int .i64 a, .int .i64 b2, .int .i64 c, .int .i64 f2, .int .i64 n, .int .i64 x0, .int .i64 x1, .int .i64 x2] 55)) [.int .i64 0, .int .i64 0, .int .i64 0, .int .i64 0, .int .i64 0, .int .i64 0, .int .i64 0, .int .i64 0, .int .i64 0, .int .i64 0, .int .i64 0, .int .i64 0, .int .i64 0, .int .i64 0, .int .i64 0, .int .i64 0, .int .i64 0] 55
  rw [World.size_alloc, World.size_alloc] at hx2
  have HX2 := Lib.hid (show BoxL (((w.alloc (.cells #[.slice p.pa PL p.pc] 24)).alloc (.cells #[.int .i64 1, .int .i64 f, .int .i64 b, .int .i64 tob, .int .i64 other, .int .i64 pos, .int .i64 id, .int .i64 kind, .int .i64 dst, .int .i64 a, .int .i64 b2, .int .i64 c, .int .i64 f2, .int .i64 n, .int .i64 x0, .int .i64 x1, .int .i64 x2] 55)).alloc (.cells #[.int .i64 0, .int .i64 0, .int .i64 0, .int .i64 0, .int .i64 0, .int .i64 0, .int .i64 0, .int .i64 0, .int .i64 0, .int .i64 0, .int .i64 0, .int .i64 0, .int .i64 0, .int .i64 0, .int .i64 0, .int .i64 0, .int .i64 0] 55)) (w.heap.size + 1 + 1) [.int .i64 0, .int .i64 0, .int .i64 0, .int .i64 0, .int .i64 0, .int .i64 0, .int .i64 0, .int .i64 0, .int .i64 0, .int .i64 0, .int .i64 0, .int .i64 0, .int .i64 0, .int .i64 0, .int .i64 0, .int .i64 0, .int .i64 0] from hx2)
  clear hx0 hx1 hx2
  have HRW := Lib.hid (HRD0.out.on HBb.out)
  generalize hW : (((w.alloc (.cells #[.slice p.pa PL p.pc] 24)).alloc (.cells #[.int .i64 1, .int .i64 f, .int .i64 b, .int .i64 tob, .int .i64 other, .int .i64 pos, .int .i64 id, .int .i64 kind, .int .i64 dst, .int .i64 a, .int .i64 b2, .int .i64 c, .int .i64 f2, .int .i64 n, .int .i64 x0, .int .i64 x1, .int .i64 x2] 55)).alloc (.cells #[.int .i64 0, .int .i64 0, .int .i64 0, .int .i64 0, .int .i64 0, .int .i64 0, .int .i64 0, .int .i64 0, .int .i64 0, .int .i64 0, .int .i64 0, .int .i64 0, .int .i64 0, .int .i64 0, .int .i64 0, .int .i64 0, .int .i64 0] 55)) = W at HBb HX0 HX1 HX2 HRW
  obtain ⟨g, hg⟩ : ∃ g, w.heap.size = g := ⟨_, rfl⟩
  have HGL := Lib.hid HBb.out.size
  rw [hg] at HBb HGL HX0 HX1 HX2
  have HL0 := Lib.hid (HX0.out.lt (Nat.zero_lt_succ _))
  have HL1 := Lib.hid (HX1.out.lt (Nat.zero_lt_succ _))
  have HL2 := Lib.hid (HX2.out.lt (Nat.zero_lt_succ _))
  have HC : Hid (∀ wr, Below W.heap.size W wr → wr.cell? ⟨g, 0, none⟩ = some (.slice p.pa PL p.pc) ∧ wr.cell? ⟨g + 1, 0, none⟩ = some (.int .i64 1) ∧ wr.cell? ⟨g + 1, 1, none⟩ = some (.int .i64 f) ∧ wr.cell? ⟨g + 1, 2, none⟩ = some (.int .i64 b) ∧ wr.cell? ⟨g + 1, 3, none⟩ = some (.int .i64 tob) ∧ wr.cell? ⟨g + 1, 4, none⟩ = some (.int .i64 other) ∧ wr.cell? ⟨g + 1, 5, none⟩ = some (.int .i64 pos) ∧ wr.rangeAt (g + 1) 0 [.int .i64 1, .int .i64 f, .int .i64 b, .int .i64 tob, .int .i64 other, .int .i64 pos, .int .i64 id, .int .i64 kind, .int .i64 dst, .int .i64 a, .int .i64 b2, .int .i64 c, .int .i64 f2, .int .i64 n, .int .i64 x0, .int .i64 x1, .int .i64 x2] ∧ BoxL wr (g + 1 + 1) [.int .i64 0, .int .i64 0, .int .i64 0, .int .i64 0, .int .i64 0, .int .i64 0, .int .i64 0, .int .i64 0, .int .i64 0, .int .i64 0, .int .i64 0, .int .i64 0, .int .i64 0, .int .i64 0, .int .i64 0, .int .i64 0, .int .i64 0]) := Lib.hid fun wr hb => ⟨((HX0.out.below hb HL0.out) 0 _ rfl).1, ((HX1.out.below hb HL1.out) 0 _ rfl).1, ((HX1.out.below hb HL1.out) 1 _ rfl).1, ((HX1.out.below hb HL1.out) 2 _ rfl).1, ((HX1.out.below hb HL1.out) 3 _ rfl).1, ((HX1.out.below hb HL1.out) 4 _ rfl).1, ((HX1.out.below hb HL1.out) 5 _ rfl).1, (HX1.out.below hb HL1.out).range, HX2.out.below hb HL2.out⟩
  have HBN : Hid (Below W.heap.size W W) := Lib.hid (Below.refl _ _)
  obtain ⟨k0, k1, k2, k3, k4, k5, k6, -, -⟩ := HC.out _ HBN.out
  go_enter Tryz.func51, Tryz.ntmps51
  go_upto_region 1 with fail
  go_upto_region 2 with (first
    | (go_at_call 49; refine (HAP.out _ (HRW.out.on HBN.out)).mono ?_; rintro x we ⟨q, rfl, hqi, -, hqd, hbn⟩; have HQI := Lib.hid hqi; have HQD := Lib.hid hqd; clear hqi hqd; have hbx := HBN.out.trans (hbn.mono HBN.out.size); clear HBN hbn k0 k1 k2 k3 k4 k5 k6; have HBN := Lib.hid hbx; clear hbx; obtain ⟨k0, k1, k2, k3, k4, k5, k6, -, -⟩ := HC.out _ HBN.out)
    | ((with_reducible apply wpList_load_w (ty := 55) (b := g + 1) (o := 0) (cs := [.int .i64 1, .int .i64 f, .int .i64 b, .int .i64 tob, .int .i64 other, .int .i64 pos, .int .i64 id, .int .i64 kind, .int .i64 dst, .int .i64 a, .int .i64 b2, .int .i64 c, .int .i64 f2, .int .i64 n, .int .i64 x0, .int .i64 x1, .int .i64 x2])); rotate_left; rfl; rfl; exact (HC.out _ HBN.out).2.2.2.2.2.2.2.1; exact Tryz.underlying55; rfl; kernel_rfl; rotate_left; rfl; simp only [Act.put, List.setIfInBounds_toArray, List.set_cons_zero, List.set_cons_succ]))
  obtain ⟨QL, hQL⟩ : ∃ QL, q.funs.length = QL := ⟨_, rfl⟩
  have HQL := Lib.hid hQL
  simp only [hQL]
  clear hQL
  have hx := BoxL.new we [.slice q.pa QL q.pc] 24
  have hb5 := below1 we (.cells #[.slice q.pa QL q.pc] 24)
  have HXQ : Hid (BoxL (we.alloc (.cells #[.slice q.pa QL q.pc] 24)) we.heap.size [.slice q.pa QL q.pc]) := Lib.hid hx
  have HRQ := Lib.hid (show Rd (we.alloc (.cells #[.slice q.pa QL q.pc] 24)) q from (show Rd we q from ⟨HQI.out, (HRW.out.on HBN.out).2.1, (HRW.out.on HBN.out).2.2⟩).on hb5)
  have HBM := Lib.hid (HBN.out.trans (hb5.mono HBN.out.size))
  have HGE := Lib.hid HBN.out.size
  clear hx hb5 HBN k0 k1 k2 k3 k4 k5 k6
  generalize we.alloc (.cells #[.slice q.pa QL q.pc] 24) = W5 at *
  generalize we.heap.size = gq at *
  have HLQ := Lib.hid (HXQ.out.lt (Nat.zero_lt_succ _))
  have HRP := Lib.hid (HRW.out.on HBM.out)
  have HC5 : Hid (∀ wr, Below W5.heap.size W5 wr → wr.cell? ⟨g, 0, none⟩ = some (.slice p.pa PL p.pc) ∧ wr.cell? ⟨g + 1, 0, none⟩ = some (.int .i64 1) ∧ wr.cell? ⟨g + 1, 1, none⟩ = some (.int .i64 f) ∧ wr.cell? ⟨g + 1, 2, none⟩ = some (.int .i64 b) ∧ wr.cell? ⟨g + 1, 3, none⟩ = some (.int .i64 tob) ∧ wr.cell? ⟨g + 1, 4, none⟩ = some (.int .i64 other) ∧ wr.cell? ⟨g + 1, 5, none⟩ = some (.int .i64 pos) ∧ wr.rangeAt (g + 1) 0 [.int .i64 1, .int .i64 f, .int .i64 b, .int .i64 tob, .int .i64 other, .int .i64 pos, .int .i64 id, .int .i64 kind, .int .i64 dst, .int .i64 a, .int .i64 b2, .int .i64 c, .int .i64 f2, .int .i64 n, .int .i64 x0, .int .i64 x1, .int .i64 x2] ∧ BoxL wr (g + 1 + 1) [.int .i64 0, .int .i64 0, .int .i64 0, .int .i64 0, .int .i64 0, .int .i64 0, .int .i64 0, .int .i64 0, .int .i64 0, .int .i64 0, .int .i64 0, .int .i64 0, .int .i64 0, .int .i64 0, .int .i64 0, .int .i64 0, .int .i64 0]) := Lib.hid fun wr hb => HC.out wr (HBM.out.trans (hb.mono HBM.out.size))
  have HBN : Hid (Below W5.heap.size W5 W5) := Lib.hid (Below.refl _ _)
  obtain ⟨k0, k1, k2, k3, k4, k5, k6, -, -⟩ := HC5.out _ HBN.out
  go_upto_region 5 with ((with_reducible apply wpList_store_new (ty := 55) (c := #[.int .i64 0, .int .i64 0, .int .i64 0, .int .i64 0, .int .i64 0, .int .i64 0, .int .i64 0, .int .i64 0, .int .i64 0, .int .i64 0, .int .i64 0, .int .i64 0, .int .i64 0, .int .i64 0, .int .i64 0, .int .i64 0, .int .i64 0]) (c' := #[.int .i64 0, .int .i64 f, .int .i64 b, .int .i64 0, .int .i64 0, .int .i64 0, .int .i64 0, .int .i64 0, .int .i64 0, .int .i64 0, .int .i64 0, .int .i64 0, .int .i64 0, .int .i64 0, .int .i64 0, .int .i64 0, .int .i64 0])); rfl; rfl; rfl; rfl; kernel_rfl; rfl; simp [Value.oneCell']; simp only [Act.put])
  have HXB : Hid (BoxL (W5.alloc (.cells #[.int .i64 0, .int .i64 f, .int .i64 b, .int .i64 0, .int .i64 0, .int .i64 0, .int .i64 0, .int .i64 0, .int .i64 0, .int .i64 0, .int .i64 0, .int .i64 0, .int .i64 0, .int .i64 0, .int .i64 0, .int .i64 0, .int .i64 0] 55)) W5.heap.size [.int .i64 0, .int .i64 f, .int .i64 b, .int .i64 0, .int .i64 0, .int .i64 0, .int .i64 0, .int .i64 0, .int .i64 0, .int .i64 0, .int .i64 0, .int .i64 0, .int .i64 0, .int .i64 0, .int .i64 0, .int .i64 0, .int .i64 0]) := Lib.hid (BoxL.new W5 _ _)
  have HB6 := Lib.hid (below1 W5 (.cells #[.int .i64 0, .int .i64 f, .int .i64 b, .int .i64 0, .int .i64 0, .int .i64 0, .int .i64 0, .int .i64 0, .int .i64 0, .int .i64 0, .int .i64 0, .int .i64 0, .int .i64 0, .int .i64 0, .int .i64 0, .int .i64 0, .int .i64 0] 55))
  clear HBN k0 k1 k2 k3 k4 k5 k6
  generalize W5.alloc (.cells #[.int .i64 0, .int .i64 f, .int .i64 b, .int .i64 0, .int .i64 0, .int .i64 0, .int .i64 0, .int .i64 0, .int .i64 0, .int .i64 0, .int .i64 0, .int .i64 0, .int .i64 0, .int .i64 0, .int .i64 0, .int .i64 0, .int .i64 0] 55) = W6 at *
  have hgb : g + 1 + 1 < W5.heap.size := Nat.lt_of_lt_of_le HL2.out HBM.out.size
  have HGM := Lib.hid (Nat.le_trans HGL.out HBM.out.size)
  obtain ⟨gb, hgbe⟩ : ∃ n, W5.heap.size = n := ⟨_, rfl⟩
  have HB6' := HB6
  rw [hgbe] at HXB hgb HB6' HGM
  have HLB := Lib.hid (HXB.out.lt (Nat.zero_lt_succ _))
  rw [hgbe]
  have HC6 : Hid (∀ wr, Below gb W6 wr → wr.cell? ⟨g, 0, none⟩ = some (.slice p.pa PL p.pc) ∧ wr.cell? ⟨g + 1, 0, none⟩ = some (.int .i64 1) ∧ wr.cell? ⟨g + 1, 1, none⟩ = some (.int .i64 f) ∧ wr.cell? ⟨g + 1, 2, none⟩ = some (.int .i64 b) ∧ wr.cell? ⟨g + 1, 3, none⟩ = some (.int .i64 tob) ∧ wr.cell? ⟨g + 1, 4, none⟩ = some (.int .i64 other) ∧ wr.cell? ⟨g + 1, 5, none⟩ = some (.int .i64 pos) ∧ wr.rangeAt (g + 1) 0 [.int .i64 1, .int .i64 f, .int .i64 b, .int .i64 tob, .int .i64 other, .int .i64 pos, .int .i64 id, .int .i64 kind, .int .i64 dst, .int .i64 a, .int .i64 b2, .int .i64 c, .int .i64 f2, .int .i64 n, .int .i64 x0, .int .i64 x1, .int .i64 x2] ∧ BoxL wr (g + 1 + 1) [.int .i64 0, .int .i64 0, .int .i64 0, .int .i64 0, .int .i64 0, .int .i64 0, .int .i64 0, .int .i64 0, .int .i64 0, .int .i64 0, .int .i64 0, .int .i64 0, .int .i64 0, .int .i64 0, .int .i64 0, .int .i64 0, .int .i64 0]) := Lib.hid fun wr hb => HC5.out wr (HB6.out.trans (by rw [hgbe]; exact hb))
  have HBN : Hid (Below gb W6 W6) := Lib.hid (Below.refl _ _)
  obtain ⟨k0, k1, k2, k3, k4, k5, k6, -, -⟩ := HC6.out _ HBN.out
  clear HC5 HC HXQ
  have HRP6 := Lib.hid (HRP.out.on HB6.out)
  have HGB := Lib.hid (show gb ≤ W6.heap.size by rw [← hgbe]; exact HB6.out.size)
  go_wp2_with (first
    | (go_at_call 36; refine (HNB.out _ HRP6.out).mono ?_; rintro x wn ⟨rfl, hbn⟩; have HXN := Lib.hid (HXB.out.below hbn HLB.out); have hbx := HBN.out.trans (hbn.mono HGB.out); clear HBN hbn k0 k1 k2 k3 k4 k5 k6; have HBN := Lib.hid hbx; clear hbx; obtain ⟨k0, k1, k2, k3, k4, k5, k6, -, -⟩ := HC6.out _ HBN.out; obtain ⟨c0, f0⟩ := HXN.out 0 _ rfl; obtain ⟨c2, f2_⟩ := HXN.out 2 _ rfl)
    | ((with_reducible apply wpList_load_w (ty := 55) (b := gb) (o := 0) (cs := [.int .i64 2, .int .i64 f, .int .i64 nb, .int .i64 0, .int .i64 0, .int .i64 0, .int .i64 0, .int .i64 0, .int .i64 0, .int .i64 0, .int .i64 0, .int .i64 0, .int .i64 0, .int .i64 0, .int .i64 0, .int .i64 0, .int .i64 0])); rotate_left; rfl; rfl; exact ((HXN.out.put 0 (.int .i64 2) (by simp)).put 2 (.int .i64 nb) (by simp)).range; exact Tryz.underlying55; rfl; kernel_rfl; rotate_left; rfl; simp only [Act.put, List.setIfInBounds_toArray, List.set_cons_zero, List.set_cons_succ])
    | ((with_reducible apply wpList_store_mid (ty := 55) (b := g + 1 + 1) (o := 0) (cells := #[.int .i64 2, .int .i64 f, .int .i64 nb, .int .i64 0, .int .i64 0, .int .i64 0, .int .i64 0, .int .i64 0, .int .i64 0, .int .i64 0, .int .i64 0, .int .i64 0, .int .i64 0, .int .i64 0, .int .i64 0, .int .i64 0, .int .i64 0])); rotate_left; rfl; rfl; rfl; exact (HC6.out _ ((HBN.out.setCell (p := ⟨gb, 0, none⟩) (Nat.le_refl _) (.int .i64 2)).setCell (p := ⟨gb, 2, none⟩) (Nat.le_refl _) (.int .i64 nb))).2.2.2.2.2.2.2.2.there; kernel_rfl; simp [Value.oneCell']; rotate_left; rfl; simp only [Act.put]))
  refine bodyPost_ret (ret_box rfl _ _ (g + 1 + 1) [.int .i64 2, .int .i64 f, .int .i64 nb, .int .i64 0, .int .i64 0, .int .i64 0, .int .i64 0, .int .i64 0, .int .i64 0, .int .i64 0, .int .i64 0, .int .i64 0, .int .i64 0, .int .i64 0, .int .i64 0, .int .i64 0, .int .i64 0] _ _ rfl rfl ((HC6.out _ ((HBN.out.setCell (p := ⟨gb, 0, none⟩) (Nat.le_refl _) (.int .i64 2)).setCell (p := ⟨gb, 2, none⟩) (Nat.le_refl _) (.int .i64 nb))).2.2.2.2.2.2.2.2.setAll _ rfl) Tryz.underlying55 rfl (by kernel_rfl)) rfl ⟨rfl, ?_⟩
  rw [hg]
  exact below_setCells (by omega) _ _ _ (HBb.out.trans ((HBM.out.trans ((HB6.out.trans (by rw [hgbe]; exact ((HBN.out.setCell (p := ⟨gb, 0, none⟩) (Nat.le_refl _) (.int .i64 2)).setCell (p := ⟨gb, 2, none⟩) (Nat.le_refl _) (.int .i64 nb)))).mono HBM.out.size)).mono HGL.out))
end Go.Proofs.YtbddjneinfkmpaaGreatDoor

namespace Go.Proofs.YtbddjneinfkmpaaGreatDoor
open Go Go.RowKit Go.Sort

set_option maxRecDepth 100000 in
set_option maxHeartbeats 16000000 in
theorem undo7f (p : Pg) (e : Ed) (w : World) (h : Rd w p) (hfew : p.few) (hwf : p.wf) (hc : chk p e = 0) (ho : e.op = 7) (hid : (atR p e.f e.b e.pos).id ≠ newId (appP p e)) :
    Calls Tryz.prog 51 #[p.val, e.val] w fun x w' => UndRes p e w w' x := by
  have HAP := Lib.hid (fun wr (h : Rd wr p) => Apply_any p e wr h hfew hwf)
  have hub : undoB p e = false := by rw [undoB_7 hc ho]; simp [hid]
  have hue := undoE_no hub
  obtain ⟨nid, hnid⟩ : ∃ z, newId (appP p e) = z := ⟨_, rfl⟩
  rw [hnid] at hid
  have HNI := Lib.hid (fun (q : Pg) (hq : q.d = (appP p e).d) wr (h : Rd wr q) => (NewId_any q wr h.1 h.2.1 h.2.2 ((Pg.few_of_d hq).2 (few_app hfew e))).mono (R' := fun x w' => x = .returned (.int .i64 nid) ∧ Below wr.heap.size wr w') fun x w' ⟨⟨z, hx, hz⟩, hb⟩ => ⟨by rw [hx, newId_eq hz, newId_of_d hq, hnid], hb⟩)
  obtain ⟨fn, bm, hn, hm, hn2, hml, hfo, hfr, hbk, hbr, hin, -⟩ := app_view hc (by omega)
  have hat := (in7 hin ho).2
  have hat2 := hat
  unfold atB at hat2
  rw [hbr] at hat2
  simp only [Bool.and_eq_true, decide_eq_true_eq] at hat2
  obtain ⟨k, hk⟩ := Int.eq_ofNat_of_zero_le hat2.1
  have hkl : k < (blkAt (fdAt p.funs fn).blocks bm).code.length := by omega
  have hI : atR p e.f e.b e.pos = insAt (blkAt (fdAt p.funs fn).blocks bm).code k := by unfold atR; rw [if_pos hat, hbr, hk]; simp
  rw [hI] at hid
  try rw [hI] at hue
  obtain ⟨pb, po, hpa, hpb, -, -, c2, hfd⟩ := h.1 fn hn2
  have hfb := (hfew.2 fn hn2).1
  have hkb := (hfew.f fn).b bm
  obtain ⟨bb, bo, hba, hbb, -, d1, -, hbk0⟩ := hfd bm hml
  obtain ⟨cb, co, hca, hcb, t0, t1, t2, t3, t4, t5, t6, t7, t8, t9, t10⟩ := hbk0.1.at k hkl
  simp only [AppRes, hc] at HAP
  clear hc hnid hfo hfr hbk hbr hin hat hat2 hI hfd hbk0
  unfold UndRes
  rw [hub, hue]
  clear hub hue
  obtain ⟨fd, hfde⟩ : ∃ fd, fdAt p.funs fn = fd := ⟨_, rfl⟩
  rw [hfde] at c2 hba d1 hml hkl hca t0 t1 t2 t3 t4 t5 t6 t7 t8 t9 t10 hfb hkb hid
  try rw [hfde]
  clear hfde
  obtain ⟨ar, vr, ba, bc, bl⟩ := fd
  dsimp only at c2 hba d1 hml hkl hca t0 t1 t2 t3 t4 t5 t6 t7 t8 t9 t10 hfb hkb hid
  subst hba
  obtain ⟨bk, hbke⟩ : ∃ bk, blkAt bl bm = bk := ⟨_, rfl⟩
  rw [hbke] at d1 hkl hca t0 t1 t2 t3 t4 t5 t6 t7 t8 t9 t10 hkb hid
  try rw [hbke]
  clear hbke
  obtain ⟨lv, ca, cc, code, sa, sc, succ⟩ := bk
  unfold fewB at hkb
  dsimp only at d1 hkl hca t0 t1 t2 t3 t4 t5 t6 t7 t8 t9 t10 hkb hid
  subst hca
  obtain ⟨gone, hgone⟩ : ∃ i, insAt code k = i := ⟨_, rfl⟩
  rw [hgone] at t0 t1 t2 t3 t4 t5 t6 t7 t8 t9 t10 hid
  try rw [hgone]
  clear hgone
  obtain ⟨i0, i1, i2, i3, i4, i5, i6, i7, i8, i9, i10⟩ := gone
  dsimp only at t0 t1 t2 t3 t4 t5 t6 t7 t8 t9 t10 hid
  have hne : (i0 != nid) = true := by simp only [bne, beq_false_of_ne hid, Bool.not_false]
  clear hid
  have HRD0 := Lib.hid h
  have hlen10 := hfew.1
  clear h hfew hwf
  obtain ⟨op, f, b, tob, other, pos, ⟨id, kind, dst, a, b2, c, f2, n, x0, x1, x2⟩⟩ := e
  dsimp only at *
  subst ho hn hm hk
  unfold Pg.val Ed.val at HAP
  unfold Pg.val Ed.val
  dsimp only
  have HNI2 := HNI
  unfold Pg.val at HNI2
  clear HNI
  simp only [hpa] at HAP ⊢
  clear hpa
  obtain ⟨PL, hPL⟩ : ∃ PL, p.funs.length = PL := ⟨_, rfl⟩
  obtain ⟨BL, hBL⟩ : ∃ BL, bl.length = BL := ⟨_, rfl⟩
  obtain ⟨CL, hCL⟩ : ∃ CL, code.length = CL := ⟨_, rfl⟩
  simp only [hPL, hBL, hCL] at HAP hlen10 hn2 hml hkl c2 d1 hfb hkb ⊢
  clear hPL hBL hCL
  have hfi : (fn : Int) < (PL : Int) := by omega
  have hbi : (bm : Int) < (BL : Int) := by omega
  have hki : (k : Int) < (CL : Int) := by omega
  have HBb := Lib.hid (below3 w (.cells #[.slice (some ⟨pb, po, none⟩) PL p.pc] 24) (.cells #[.int .i64 7, .int .i64 (fn : Nat), .int .i64 (bm : Nat), .int .i64 tob, .int .i64 other, .int .i64 (k : Nat), .int .i64 id, .int .i64 kind, .int .i64 dst, .int .i64 a, .int .i64 b2, .int .i64 c, .int .i64 f2, .int .i64 n, .int .i64 x0, .int .i64 x1, .int .i64 x2] 55) (.cells #[.int .i64 0, .int .i64 0, .int .i64 0, .int .i64 0, .int .i64 0, .int .i64 0, .int .i64 0, .int .i64 0, .int .i64 0, .int .i64 0, .int .i64 0, .int .i64 0, .int .i64 0, .int .i64 0, .int .i64 0, .int .i64 0, .int .i64 0] 55))
  have hx0 := BoxL.new w [.slice (some ⟨pb, po, none⟩) PL p.pc] 24
  have HX0 := Lib.hid (show BoxL (((w.alloc (.cells #[.slice (some ⟨pb, po, none⟩) PL p.pc] 24)).alloc (.cells #[.int .i64 7, .int .i64 (fn : Nat), .int .i64 (bm : Nat), .int .i64 tob, .int .i64 other, .int .i64 (k : Nat), .int .i64 id, .int .i64 kind, .int .i64 dst, .int .i64 a, .int .i64 b2, .int .i64 c, .int .i64 f2, .int .i64 n, .int .i64 x0, .int .i64 x1, .int .i64 x2] 55)).alloc (.cells #[.int .i64 0, .int .i64 0, .int .i64 0, .int .i64 0, .int .i64 0, .int .i64 0, .int .i64 0, .int .i64 0, .int .i64 0, .int .i64 0, .int .i64 0, .int .i64 0, .int .i64 0, .int .i64 0, .int .i64 0, .int .i64 0, .int .i64 0] 55)) (w.heap.size) [.slice (some ⟨pb, po, none⟩) PL p.pc] from ((hx0).alloc (Nat.zero_lt_succ _) (.cells #[.int .i64 7, .int .i64 (fn : Nat), .int .i64 (bm : Nat), .int .i64 tob, .int .i64 other, .int .i64 (k : Nat), .int .i64 id, .int .i64 kind, .int .i64 dst, .int .i64 a, .int .i64 b2, .int .i64 c, .int .i64 f2, .int .i64 n, .int .i64 x0, .int .i64 x1, .int .i64 x2] 55)).alloc (Nat.zero_lt_succ _) (.cells #[.int .i64 0, .int .i64 0, .int .i64 0, .int .i64 0, .int .i64 0, .int .i64 0, .int .i64 0, .int .i64 0, .int .i64 0, .int .i64 0, .int .i64 0, .int .i64 0, .int .i64 0, .int .i64 0, .int .i64 0, .int .i64 0, .int .i64 0] 55))
  have hx1 := BoxL.new (w.alloc (.cells #[.slice (some ⟨pb, po, none⟩) PL p.pc] 24)) [.int .i64 7, .int .i64 (fn : Nat), .int .i64 (bm : Nat), .int .i64 tob, .int .i64 other, .int .i64 (k : Nat), .int .i64 id, .int .i64 kind, .int .i64 dst, .int .i64 a, .int .i64 b2, .int .i64 c, .int .i64 f2, .int .i64 n, .int .i64 x0, .int .i64 x1, .int .i64 x2] 55
  rw [World.size_alloc] at hx1
  have HX1 := Lib.hid (show BoxL (((w.alloc (.cells #[.slice (some ⟨pb, po, none⟩) PL p.pc] 24)).alloc (.cells #[.int .i64 7, .int .i64 (fn : Nat), .int .i64 (bm : Nat), .int .i64 tob, .int .i64 other, .int .i64 (k : Nat), .int .i64 id, .int .i64 kind, .int .i64 dst, .int .i64 a, .int .i64 b2, .int .i64 c, .int .i64 f2, .int .i64 n, .int .i64 x0, .int .i64 x1, .int .i64 x2] 55)).alloc (.cells #[.int .i64 0, .int .i64 0, .int .i64 0, .int .i64 0, .int .i64 0, .int .i64 0, .int .i64 0, .int .i64 0, .int .i64 0, .int .i64 0, .int .i64 0, .int .i64 0, .int .i64 0, .int .i64 0, .int .i64 0, .int .i64 0, .int .i64 0] 55)) (w.heap.size + 1) [.int .i64 7, .int .i64 (fn : Nat), .int .i64 (bm : Nat), .int .i64 tob, .int .i64 other, .int .i64 (k : Nat), .int .i64 id, .int .i64 kind, .int .i64 dst, .int .i64 a, .int .i64 b2, .int .i64 c, .int .i64 f2, .int .i64 n, .int .i64 x0, .int .i64 x1, .int .i64 x2] from (hx1).alloc (Nat.zero_lt_succ _) (.cells #[.int .i64 0, .int .i64 0, .int .i64 0, .int .i64 0, .int .i64 0, .int .i64 0, .int .i64 0, .int .i64 0, .int .i64 0, .int .i64 0, .int .i64 0, .int .i64 0, .int .i64 0, .int .i64 0, .int .i64 0, .int .i64 0, .int .i64 0] 55))
  have hx2 := BoxL.new ((w.alloc (.cells #[.slice (some ⟨pb, po, none⟩) PL p.pc] 24)).alloc (.cells #[.int .i64 7, .int .i64 (fn : Nat), .int .i64 (bm : Nat), .int .i64 tob, .int .i64 other, .int .i64 (k : Nat), .int .i64 id, .int .i64 kind, .int .i64 dst, .int .i64 a, .int .i64 b2, .int .i64 c, .int .i64 f2, .int .i64 n, .int .i64 x0, .int .i64 x1, .int .i64 x2] 55)) [.int .i64 0, .int .i64 0, .int .i64 0, .int .i64 0, .int .i64 0, .int .i64 0, .int .i64 0, .int .i64 0, .int .i64 0, .int .i64 0, .int .i64 0, .int .i64 0, .int .i64 0, .int .i64 0, .int .i64 0, .int .i64 0, .int .i64 0] 55
  rw [World.size_alloc, World.size_alloc] at hx2
  have HX2 := Lib.hid (show BoxL (((w.alloc (.cells #[.slice (some ⟨pb, po, none⟩) PL p.pc] 24)).alloc (.cells #[.int .i64 7, .int .i64 (fn : Nat), .int .i64 (bm : Nat), .int .i64 tob, .int .i64 other, .int .i64 (k : Nat), .int .i64 id, .int .i64 kind, .int .i64 dst, .int .i64 a, .int .i64 b2, .int .i64 c, .int .i64 f2, .int .i64 n, .int .i64 x0, .int .i64 x1, .int .i64 x2] 55)).alloc (.cells #[.int .i64 0, .int .i64 0, .int .i64 0, .int .i64 0, .int .i64 0, .int .i64 0, .int .i64 0, .int .i64 0, .int .i64 0, .int .i64 0, .int .i64 0, .int .i64 0, .int .i64 0, .int .i64 0, .int .i64 0, .int .i64 0, .int .i64 0] 55)) (w.heap.size + 1 + 1) [.int .i64 0, .int .i64 0, .int .i64 0, .int .i64 0, .int .i64 0, .int .i64 0, .int .i64 0, .int .i64 0, .int .i64 0, .int .i64 0, .int .i64 0, .int .i64 0, .int .i64 0, .int .i64 0, .int .i64 0, .int .i64 0, .int .i64 0] from hx2)
  clear hx0 hx1 hx2
  have HRW := Lib.hid (HRD0.out.on HBb.out)
  have HFAR : Hid (∀ wr, Below w.heap.size w wr → wr.cell? ⟨pb, po + fn * 3 + 2, none⟩ = some (.slice (some ⟨bb, bo, none⟩) BL bc) ∧ wr.cell? ⟨bb, bo + bm * 3 + 1, none⟩ = some (.slice (some ⟨cb, co, none⟩) CL cc) ∧ wr.cell? ⟨cb, co + k * 11, none⟩ = some (.int .i64 i0) ∧ wr.cell? ⟨cb, co + k * 11 + 1, none⟩ = some (.int .i64 i1) ∧ wr.cell? ⟨cb, co + k * 11 + 2, none⟩ = some (.int .i64 i2) ∧ wr.cell? ⟨cb, co + k * 11 + 3, none⟩ = some (.int .i64 i3) ∧ wr.cell? ⟨cb, co + k * 11 + 4, none⟩ = some (.int .i64 i4) ∧ wr.cell? ⟨cb, co + k * 11 + 5, none⟩ = some (.int .i64 i5) ∧ wr.cell? ⟨cb, co + k * 11 + 6, none⟩ = some (.int .i64 i6) ∧ wr.cell? ⟨cb, co + k * 11 + 7, none⟩ = some (.int .i64 i7) ∧ wr.cell? ⟨cb, co + k * 11 + 8, none⟩ = some (.int .i64 i8) ∧ wr.cell? ⟨cb, co + k * 11 + 9, none⟩ = some (.int .i64 i9) ∧ wr.cell? ⟨cb, co + k * 11 + 10, none⟩ = some (.int .i64 i10)) := Lib.hid fun wr hb => ⟨(hb.cell (p := ⟨pb, po + fn * 3 + 2, none⟩) hpb).trans c2, (hb.cell (p := ⟨bb, bo + bm * 3 + 1, none⟩) hbb).trans d1, (hb.cell (p := ⟨cb, co + k * 11, none⟩) hcb).trans t0, (hb.cell (p := ⟨cb, co + k * 11 + 1, none⟩) hcb).trans t1, (hb.cell (p := ⟨cb, co + k * 11 + 2, none⟩) hcb).trans t2, (hb.cell (p := ⟨cb, co + k * 11 + 3, none⟩) hcb).trans t3, (hb.cell (p := ⟨cb, co + k * 11 + 4, none⟩) hcb).trans t4, (hb.cell (p := ⟨cb, co + k * 11 + 5, none⟩) hcb).trans t5, (hb.cell (p := ⟨cb, co + k * 11 + 6, none⟩) hcb).trans t6, (hb.cell (p := ⟨cb, co + k * 11 + 7, none⟩) hcb).trans t7, (hb.cell (p := ⟨cb, co + k * 11 + 8, none⟩) hcb).trans t8, (hb.cell (p := ⟨cb, co + k * 11 + 9, none⟩) hcb).trans t9, (hb.cell (p := ⟨cb, co + k * 11 + 10, none⟩) hcb).trans t10⟩
  clear c2 d1 hpb hbb hcb t0 t1 t2 t3 t4 t5 t6 t7 t8 t9 t10
  generalize hW : (((w.alloc (.cells #[.slice (some ⟨pb, po, none⟩) PL p.pc] 24)).alloc (.cells #[.int .i64 7, .int .i64 (fn : Nat), .int .i64 (bm : Nat), .int .i64 tob, .int .i64 other, .int .i64 (k : Nat), .int .i64 id, .int .i64 kind, .int .i64 dst, .int .i64 a, .int .i64 b2, .int .i64 c, .int .i64 f2, .int .i64 n, .int .i64 x0, .int .i64 x1, .int .i64 x2] 55)).alloc (.cells #[.int .i64 0, .int .i64 0, .int .i64 0, .int .i64 0, .int .i64 0, .int .i64 0, .int .i64 0, .int .i64 0, .int .i64 0, .int .i64 0, .int .i64 0, .int .i64 0, .int .i64 0, .int .i64 0, .int .i64 0, .int .i64 0, .int .i64 0] 55)) = W at HBb HX0 HX1 HX2 HRW
  obtain ⟨g, hg⟩ : ∃ g, w.heap.size = g := ⟨_, rfl⟩
  have HGL := Lib.hid HBb.out.size
  rw [hg] at HBb HGL HX0 HX1 HX2 HFAR
  have HL0 := Lib.hid (HX0.out.lt (Nat.zero_lt_succ _))
  have HL1 := Lib.hid (HX1.out.lt (Nat.zero_lt_succ _))
  have HL2 := Lib.hid (HX2.out.lt (Nat.zero_lt_succ _))
  have HC : Hid (∀ wr, Below W.heap.size W wr → wr.cell? ⟨g, 0, none⟩ = some (.slice (some ⟨pb, po, none⟩) PL p.pc) ∧ wr.cell? ⟨g + 1, 0, none⟩ = some (.int .i64 7) ∧ wr.cell? ⟨g + 1, 1, none⟩ = some (.int .i64 (fn : Nat)) ∧ wr.cell? ⟨g + 1, 2, none⟩ = some (.int .i64 (bm : Nat)) ∧ wr.cell? ⟨g + 1, 3, none⟩ = some (.int .i64 tob) ∧ wr.cell? ⟨g + 1, 4, none⟩ = some (.int .i64 other) ∧ wr.cell? ⟨g + 1, 5, none⟩ = some (.int .i64 (k : Nat)) ∧ wr.rangeAt (g + 1) 0 [.int .i64 7, .int .i64 (fn : Nat), .int .i64 (bm : Nat), .int .i64 tob, .int .i64 other, .int .i64 (k : Nat), .int .i64 id, .int .i64 kind, .int .i64 dst, .int .i64 a, .int .i64 b2, .int .i64 c, .int .i64 f2, .int .i64 n, .int .i64 x0, .int .i64 x1, .int .i64 x2] ∧ BoxL wr (g + 1 + 1) [.int .i64 0, .int .i64 0, .int .i64 0, .int .i64 0, .int .i64 0, .int .i64 0, .int .i64 0, .int .i64 0, .int .i64 0, .int .i64 0, .int .i64 0, .int .i64 0, .int .i64 0, .int .i64 0, .int .i64 0, .int .i64 0, .int .i64 0]) := Lib.hid fun wr hb => ⟨((HX0.out.below hb HL0.out) 0 _ rfl).1, ((HX1.out.below hb HL1.out) 0 _ rfl).1, ((HX1.out.below hb HL1.out) 1 _ rfl).1, ((HX1.out.below hb HL1.out) 2 _ rfl).1, ((HX1.out.below hb HL1.out) 3 _ rfl).1, ((HX1.out.below hb HL1.out) 4 _ rfl).1, ((HX1.out.below hb HL1.out) 5 _ rfl).1, (HX1.out.below hb HL1.out).range, HX2.out.below hb HL2.out⟩
  have HBN : Hid (Below W.heap.size W W) := Lib.hid (Below.refl _ _)
  obtain ⟨k0, k1, k2, k3, k4, k5, k6, -, -⟩ := HC.out _ HBN.out
  go_enter Tryz.func51, Tryz.ntmps51
  go_upto_region 1 with fail
  go_upto_region 2 with (first
    | (go_at_call 49; refine (HAP.out _ (HRW.out.on HBN.out)).mono ?_; rintro x we ⟨q, rfl, hqi, -, hqd, hbn⟩; have HQI := Lib.hid hqi; have HNQ := Lib.hid (HNI2.out q hqd); clear hqi hqd; have hbx := HBN.out.trans (hbn.mono HBN.out.size); clear HBN hbn k0 k1 k2 k3 k4 k5 k6; have HBN := Lib.hid hbx; clear hbx; obtain ⟨k0, k1, k2, k3, k4, k5, k6, -, -⟩ := HC.out _ HBN.out)
    | ((with_reducible apply wpList_load_w (ty := 55) (b := g + 1) (o := 0) (cs := [.int .i64 7, .int .i64 (fn : Nat), .int .i64 (bm : Nat), .int .i64 tob, .int .i64 other, .int .i64 (k : Nat), .int .i64 id, .int .i64 kind, .int .i64 dst, .int .i64 a, .int .i64 b2, .int .i64 c, .int .i64 f2, .int .i64 n, .int .i64 x0, .int .i64 x1, .int .i64 x2])); rotate_left; rfl; rfl; exact (HC.out _ HBN.out).2.2.2.2.2.2.2.1; exact Tryz.underlying55; rfl; kernel_rfl; rotate_left; rfl; simp only [Act.put, List.setIfInBounds_toArray, List.set_cons_zero, List.set_cons_succ]))
  obtain ⟨QL, hQL⟩ : ∃ QL, q.funs.length = QL := ⟨_, rfl⟩
  simp only [hQL] at HNQ ⊢
  clear hQL HNI2
  have hx := BoxL.new we [.slice q.pa QL q.pc] 24
  have hb5 := below1 we (.cells #[.slice q.pa QL q.pc] 24)
  have HXQ : Hid (BoxL (we.alloc (.cells #[.slice q.pa QL q.pc] 24)) we.heap.size [.slice q.pa QL q.pc]) := Lib.hid hx
  have HRQ := Lib.hid (show Rd (we.alloc (.cells #[.slice q.pa QL q.pc] 24)) q from (show Rd we q from ⟨HQI.out, (HRW.out.on HBN.out).2.1, (HRW.out.on HBN.out).2.2⟩).on hb5)
  have HBM := Lib.hid (HBN.out.trans (hb5.mono HBN.out.size))
  clear hx hb5 HBN HQI k0 k1 k2 k3 k4 k5 k6
  generalize we.alloc (.cells #[.slice q.pa QL q.pc] 24) = W5 at *
  generalize we.heap.size = gq at *
  have HLQ := Lib.hid (HXQ.out.lt (Nat.zero_lt_succ _))
  have HC5 : Hid (∀ wr, Below W5.heap.size W5 wr → wr.cell? ⟨g, 0, none⟩ = some (.slice (some ⟨pb, po, none⟩) PL p.pc) ∧ wr.cell? ⟨g + 1, 0, none⟩ = some (.int .i64 7) ∧ wr.cell? ⟨g + 1, 1, none⟩ = some (.int .i64 (fn : Nat)) ∧ wr.cell? ⟨g + 1, 2, none⟩ = some (.int .i64 (bm : Nat)) ∧ wr.cell? ⟨g + 1, 3, none⟩ = some (.int .i64 tob) ∧ wr.cell? ⟨g + 1, 4, none⟩ = some (.int .i64 other) ∧ wr.cell? ⟨g + 1, 5, none⟩ = some (.int .i64 (k : Nat)) ∧ wr.rangeAt (g + 1) 0 [.int .i64 7, .int .i64 (fn : Nat), .int .i64 (bm : Nat), .int .i64 tob, .int .i64 other, .int .i64 (k : Nat), .int .i64 id, .int .i64 kind, .int .i64 dst, .int .i64 a, .int .i64 b2, .int .i64 c, .int .i64 f2, .int .i64 n, .int .i64 x0, .int .i64 x1, .int .i64 x2] ∧ BoxL wr (g + 1 + 1) [.int .i64 0, .int .i64 0, .int .i64 0, .int .i64 0, .int .i64 0, .int .i64 0, .int .i64 0, .int .i64 0, .int .i64 0, .int .i64 0, .int .i64 0, .int .i64 0, .int .i64 0, .int .i64 0, .int .i64 0, .int .i64 0, .int .i64 0]) := Lib.hid fun wr hb => HC.out wr (HBM.out.trans (hb.mono HBM.out.size))
  have HF5 : Hid (∀ wr, Below W5.heap.size W5 wr → wr.cell? ⟨pb, po + fn * 3 + 2, none⟩ = some (.slice (some ⟨bb, bo, none⟩) BL bc) ∧ wr.cell? ⟨bb, bo + bm * 3 + 1, none⟩ = some (.slice (some ⟨cb, co, none⟩) CL cc) ∧ wr.cell? ⟨cb, co + k * 11, none⟩ = some (.int .i64 i0) ∧ wr.cell? ⟨cb, co + k * 11 + 1, none⟩ = some (.int .i64 i1) ∧ wr.cell? ⟨cb, co + k * 11 + 2, none⟩ = some (.int .i64 i2) ∧ wr.cell? ⟨cb, co + k * 11 + 3, none⟩ = some (.int .i64 i3) ∧ wr.cell? ⟨cb, co + k * 11 + 4, none⟩ = some (.int .i64 i4) ∧ wr.cell? ⟨cb, co + k * 11 + 5, none⟩ = some (.int .i64 i5) ∧ wr.cell? ⟨cb, co + k * 11 + 6, none⟩ = some (.int .i64 i6) ∧ wr.cell? ⟨cb, co + k * 11 + 7, none⟩ = some (.int .i64 i7) ∧ wr.cell? ⟨cb, co + k * 11 + 8, none⟩ = some (.int .i64 i8) ∧ wr.cell? ⟨cb, co + k * 11 + 9, none⟩ = some (.int .i64 i9) ∧ wr.cell? ⟨cb, co + k * 11 + 10, none⟩ = some (.int .i64 i10)) := Lib.hid fun wr hb => HFAR.out wr (HBb.out.trans ((HBM.out.trans (hb.mono HBM.out.size)).mono HGL.out))
  have HBN : Hid (Below W5.heap.size W5 W5) := Lib.hid (Below.refl _ _)
  obtain ⟨k0, k1, k2, k3, k4, k5, k6, -, -⟩ := HC5.out _ HBN.out
  go_upto_region 5 with ((with_reducible apply wpList_store_new (ty := 55) (c := #[.int .i64 0, .int .i64 0, .int .i64 0, .int .i64 0, .int .i64 0, .int .i64 0, .int .i64 0, .int .i64 0, .int .i64 0, .int .i64 0, .int .i64 0, .int .i64 0, .int .i64 0, .int .i64 0, .int .i64 0, .int .i64 0, .int .i64 0]) (c' := #[.int .i64 0, .int .i64 (fn : Nat), .int .i64 (bm : Nat), .int .i64 0, .int .i64 0, .int .i64 0, .int .i64 0, .int .i64 0, .int .i64 0, .int .i64 0, .int .i64 0, .int .i64 0, .int .i64 0, .int .i64 0, .int .i64 0, .int .i64 0, .int .i64 0])); rfl; rfl; rfl; rfl; kernel_rfl; rfl; simp [Value.oneCell']; simp only [Act.put])
  have HXB : Hid (BoxL (W5.alloc (.cells #[.int .i64 0, .int .i64 (fn : Nat), .int .i64 (bm : Nat), .int .i64 0, .int .i64 0, .int .i64 0, .int .i64 0, .int .i64 0, .int .i64 0, .int .i64 0, .int .i64 0, .int .i64 0, .int .i64 0, .int .i64 0, .int .i64 0, .int .i64 0, .int .i64 0] 55)) W5.heap.size [.int .i64 0, .int .i64 (fn : Nat), .int .i64 (bm : Nat), .int .i64 0, .int .i64 0, .int .i64 0, .int .i64 0, .int .i64 0, .int .i64 0, .int .i64 0, .int .i64 0, .int .i64 0, .int .i64 0, .int .i64 0, .int .i64 0, .int .i64 0, .int .i64 0]) := Lib.hid (BoxL.new W5 _ _)
  have HB6 := Lib.hid (below1 W5 (.cells #[.int .i64 0, .int .i64 (fn : Nat), .int .i64 (bm : Nat), .int .i64 0, .int .i64 0, .int .i64 0, .int .i64 0, .int .i64 0, .int .i64 0, .int .i64 0, .int .i64 0, .int .i64 0, .int .i64 0, .int .i64 0, .int .i64 0, .int .i64 0, .int .i64 0] 55))
  clear HBN k0 k1 k2 k3 k4 k5 k6
  generalize W5.alloc (.cells #[.int .i64 0, .int .i64 (fn : Nat), .int .i64 (bm : Nat), .int .i64 0, .int .i64 0, .int .i64 0, .int .i64 0, .int .i64 0, .int .i64 0, .int .i64 0, .int .i64 0, .int .i64 0, .int .i64 0, .int .i64 0, .int .i64 0, .int .i64 0, .int .i64 0] 55) = W6 at *
  obtain ⟨gb, hgbe⟩ : ∃ n, W5.heap.size = n := ⟨_, rfl⟩
  have hgb : g + 1 + 1 < gb := by rw [← hgbe]; exact Nat.lt_of_lt_of_le HL2.out HBM.out.size
  have hgb2 : gq < gb := by rw [← hgbe]; exact HLQ.out
  have HGM := Lib.hid (show g ≤ gb by omega)
  rw [hgbe] at HXB ⊢
  have HLB := Lib.hid (HXB.out.lt (Nat.zero_lt_succ _))
  have HC6 : Hid (∀ wr, Below gb W6 wr → wr.cell? ⟨g, 0, none⟩ = some (.slice (some ⟨pb, po, none⟩) PL p.pc) ∧ wr.cell? ⟨g + 1, 0, none⟩ = some (.int .i64 7) ∧ wr.cell? ⟨g + 1, 1, none⟩ = some (.int .i64 (fn : Nat)) ∧ wr.cell? ⟨g + 1, 2, none⟩ = some (.int .i64 (bm : Nat)) ∧ wr.cell? ⟨g + 1, 3, none⟩ = some (.int .i64 tob) ∧ wr.cell? ⟨g + 1, 4, none⟩ = some (.int .i64 other) ∧ wr.cell? ⟨g + 1, 5, none⟩ = some (.int .i64 (k : Nat)) ∧ wr.rangeAt (g + 1) 0 [.int .i64 7, .int .i64 (fn : Nat), .int .i64 (bm : Nat), .int .i64 tob, .int .i64 other, .int .i64 (k : Nat), .int .i64 id, .int .i64 kind, .int .i64 dst, .int .i64 a, .int .i64 b2, .int .i64 c, .int .i64 f2, .int .i64 n, .int .i64 x0, .int .i64 x1, .int .i64 x2] ∧ BoxL wr (g + 1 + 1) [.int .i64 0, .int .i64 0, .int .i64 0, .int .i64 0, .int .i64 0, .int .i64 0, .int .i64 0, .int .i64 0, .int .i64 0, .int .i64 0, .int .i64 0, .int .i64 0, .int .i64 0, .int .i64 0, .int .i64 0, .int .i64 0, .int .i64 0]) := Lib.hid fun wr hb => HC5.out wr (HB6.out.trans (by rw [hgbe]; exact hb))
  have HF6 : Hid (∀ wr, Below gb W6 wr → wr.cell? ⟨pb, po + fn * 3 + 2, none⟩ = some (.slice (some ⟨bb, bo, none⟩) BL bc) ∧ wr.cell? ⟨bb, bo + bm * 3 + 1, none⟩ = some (.slice (some ⟨cb, co, none⟩) CL cc) ∧ wr.cell? ⟨cb, co + k * 11, none⟩ = some (.int .i64 i0) ∧ wr.cell? ⟨cb, co + k * 11 + 1, none⟩ = some (.int .i64 i1) ∧ wr.cell? ⟨cb, co + k * 11 + 2, none⟩ = some (.int .i64 i2) ∧ wr.cell? ⟨cb, co + k * 11 + 3, none⟩ = some (.int .i64 i3) ∧ wr.cell? ⟨cb, co + k * 11 + 4, none⟩ = some (.int .i64 i4) ∧ wr.cell? ⟨cb, co + k * 11 + 5, none⟩ = some (.int .i64 i5) ∧ wr.cell? ⟨cb, co + k * 11 + 6, none⟩ = some (.int .i64 i6) ∧ wr.cell? ⟨cb, co + k * 11 + 7, none⟩ = some (.int .i64 i7) ∧ wr.cell? ⟨cb, co + k * 11 + 8, none⟩ = some (.int .i64 i8) ∧ wr.cell? ⟨cb, co + k * 11 + 9, none⟩ = some (.int .i64 i9) ∧ wr.cell? ⟨cb, co + k * 11 + 10, none⟩ = some (.int .i64 i10)) := Lib.hid fun wr hb => HF5.out wr (HB6.out.trans (by rw [hgbe]; exact hb))
  have HXQ6 := Lib.hid (HXQ.out.below HB6.out HLQ.out)
  have HRQ6 := Lib.hid (HRQ.out.on HB6.out)
  have HBN : Hid (Below gb W6 W6) := Lib.hid (Below.refl _ _)
  obtain ⟨k0, k1, k2, k3, k4, k5, k6, -, -⟩ := HC6.out _ HBN.out
  clear HC5 HC HXQ HF5 HRQ
  go_wp2_with fail
  clear HBN k0 k1 k2 k3 k4 k5 k6
  have HS : Hid (∀ wr, Below gb W6 wr → wr.cell? ⟨g, 0, none⟩ = some (.slice (some ⟨pb, po, none⟩) PL p.pc) ∧ wr.cell? ⟨g + 1, 1, none⟩ = some (.int .i64 (fn : Nat)) ∧ wr.cell? ⟨g + 1, 2, none⟩ = some (.int .i64 (bm : Nat)) ∧ wr.cell? ⟨g + 1, 5, none⟩ = some (.int .i64 (k : Nat)) ∧ wr.cell? ⟨pb, po + fn * 3 + 2, none⟩ = some (.slice (some ⟨bb, bo, none⟩) BL bc) ∧ wr.cell? ⟨bb, bo + bm * 3 + 1, none⟩ = some (.slice (some ⟨cb, co, none⟩) CL cc) ∧ wr.cell? ⟨cb, co + k * 11, none⟩ = some (.int .i64 i0) ∧ wr.cell? ⟨cb, co + k * 11 + 1, none⟩ = some (.int .i64 i1) ∧ wr.cell? ⟨cb, co + k * 11 + 2, none⟩ = some (.int .i64 i2) ∧ wr.cell? ⟨cb, co + k * 11 + 3, none⟩ = some (.int .i64 i3) ∧ wr.cell? ⟨cb, co + k * 11 + 4, none⟩ = some (.int .i64 i4) ∧ wr.cell? ⟨cb, co + k * 11 + 5, none⟩ = some (.int .i64 i5) ∧ wr.cell? ⟨cb, co + k * 11 + 6, none⟩ = some (.int .i64 i6) ∧ wr.cell? ⟨cb, co + k * 11 + 7, none⟩ = some (.int .i64 i7) ∧ wr.cell? ⟨cb, co + k * 11 + 8, none⟩ = some (.int .i64 i8) ∧ wr.cell? ⟨cb, co + k * 11 + 9, none⟩ = some (.int .i64 i9) ∧ wr.cell? ⟨cb, co + k * 11 + 10, none⟩ = some (.int .i64 i10)) := Lib.hid fun wr hb => ⟨(HC6.out wr hb).1, (HC6.out wr hb).2.2.1, (HC6.out wr hb).2.2.2.1, (HC6.out wr hb).2.2.2.2.2.2.1, HF6.out wr hb⟩
  have HBN : Hid (Below gb W6 W6.drew) := Lib.hid (Below.refl _ _).drew
  go_region_held3 (fun wr => wr.cell? ⟨g, 0, none⟩ = some (.slice (some ⟨pb, po, none⟩) PL p.pc) ∧ wr.cell? ⟨g + 1, 1, none⟩ = some (.int .i64 (fn : Nat)) ∧ wr.cell? ⟨g + 1, 2, none⟩ = some (.int .i64 (bm : Nat)) ∧ wr.cell? ⟨g + 1, 5, none⟩ = some (.int .i64 (k : Nat)) ∧ wr.cell? ⟨pb, po + fn * 3 + 2, none⟩ = some (.slice (some ⟨bb, bo, none⟩) BL bc) ∧ wr.cell? ⟨bb, bo + bm * 3 + 1, none⟩ = some (.slice (some ⟨cb, co, none⟩) CL cc) ∧ wr.cell? ⟨cb, co + k * 11, none⟩ = some (.int .i64 i0) ∧ wr.cell? ⟨cb, co + k * 11 + 1, none⟩ = some (.int .i64 i1) ∧ wr.cell? ⟨cb, co + k * 11 + 2, none⟩ = some (.int .i64 i2) ∧ wr.cell? ⟨cb, co + k * 11 + 3, none⟩ = some (.int .i64 i3) ∧ wr.cell? ⟨cb, co + k * 11 + 4, none⟩ = some (.int .i64 i4) ∧ wr.cell? ⟨cb, co + k * 11 + 5, none⟩ = some (.int .i64 i5) ∧ wr.cell? ⟨cb, co + k * 11 + 6, none⟩ = some (.int .i64 i6) ∧ wr.cell? ⟨cb, co + k * 11 + 7, none⟩ = some (.int .i64 i7) ∧ wr.cell? ⟨cb, co + k * 11 + 8, none⟩ = some (.int .i64 i8) ∧ wr.cell? ⟨cb, co + k * 11 + 9, none⟩ = some (.int .i64 i9) ∧ wr.cell? ⟨cb, co + k * 11 + 10, none⟩ = some (.int .i64 i10))
    (first | exact HS.out _ HBN.out | exact HS.out _ (HBN.out.alloc (Nat.le_of_lt HLB.out) _))
    (fail)
  have HXG : Hid (BoxL ((W6.alloc (.cells #[.int .i64 i0, .int .i64 i1, .int .i64 i2, .int .i64 i3, .int .i64 i4, .int .i64 i5, .int .i64 i6, .int .i64 i7, .int .i64 i8, .int .i64 i9, .int .i64 i10] 40)).drew) W6.heap.size [.int .i64 i0, .int .i64 i1, .int .i64 i2, .int .i64 i3, .int .i64 i4, .int .i64 i5, .int .i64 i6, .int .i64 i7, .int .i64 i8, .int .i64 i9, .int .i64 i10]) := Lib.hid (BoxL.new W6 _ _).drew
  have HB7 : Hid (Below W6.heap.size W6 ((W6.alloc (.cells #[.int .i64 i0, .int .i64 i1, .int .i64 i2, .int .i64 i3, .int .i64 i4, .int .i64 i5, .int .i64 i6, .int .i64 i7, .int .i64 i8, .int .i64 i9, .int .i64 i10] 40)).drew)) := Lib.hid (below1 W6 _).drew
  clear HBN
  generalize (W6.alloc (.cells #[.int .i64 i0, .int .i64 i1, .int .i64 i2, .int .i64 i3, .int .i64 i4, .int .i64 i5, .int .i64 i6, .int .i64 i7, .int .i64 i8, .int .i64 i9, .int .i64 i10] 40)).drew = W7 at HXG HB7 ⊢
  obtain ⟨gi, hgi⟩ : ∃ n, W6.heap.size = n := ⟨_, rfl⟩
  have HXB7 := Lib.hid (HXB.out.below HB7.out HLB.out)
  have HXQ7 := Lib.hid (HXQ6.out.below HB7.out (Nat.lt_trans hgb2 HLB.out))
  have HRQ7 := Lib.hid (HRQ6.out.on HB7.out)
  have hgbi : gb < gi := by rw [← hgi]; exact HLB.out
  rw [hgi] at HXG HB7 ⊢
  have HLG := Lib.hid (HXG.out.lt (Nat.zero_lt_succ _))
  have HC7 : Hid (∀ wr, Below gi W7 wr → wr.cell? ⟨g, 0, none⟩ = some (.slice (some ⟨pb, po, none⟩) PL p.pc) ∧ wr.cell? ⟨g + 1, 0, none⟩ = some (.int .i64 7) ∧ wr.cell? ⟨g + 1, 1, none⟩ = some (.int .i64 (fn : Nat)) ∧ wr.cell? ⟨g + 1, 2, none⟩ = some (.int .i64 (bm : Nat)) ∧ wr.cell? ⟨g + 1, 3, none⟩ = some (.int .i64 tob) ∧ wr.cell? ⟨g + 1, 4, none⟩ = some (.int .i64 other) ∧ wr.cell? ⟨g + 1, 5, none⟩ = some (.int .i64 (k : Nat)) ∧ wr.rangeAt (g + 1) 0 [.int .i64 7, .int .i64 (fn : Nat), .int .i64 (bm : Nat), .int .i64 tob, .int .i64 other, .int .i64 (k : Nat), .int .i64 id, .int .i64 kind, .int .i64 dst, .int .i64 a, .int .i64 b2, .int .i64 c, .int .i64 f2, .int .i64 n, .int .i64 x0, .int .i64 x1, .int .i64 x2] ∧ BoxL wr (g + 1 + 1) [.int .i64 0, .int .i64 0, .int .i64 0, .int .i64 0, .int .i64 0, .int .i64 0, .int .i64 0, .int .i64 0, .int .i64 0, .int .i64 0, .int .i64 0, .int .i64 0, .int .i64 0, .int .i64 0, .int .i64 0, .int .i64 0, .int .i64 0]) := Lib.hid fun wr hb => HC6.out wr ((HB7.out.trans hb).mono (Nat.le_of_lt hgbi))
  have HS7 : Hid (∀ wr, Below W7.heap.size W7 wr → wr.cell? ⟨gi, 0, none⟩ = some (.int .i64 i0) ∧ wr.cell? ⟨gq, 0, none⟩ = some (.slice q.pa QL q.pc)) := Lib.hid fun wr hb => ⟨((HXG.out.below hb HLG.out) 0 _ rfl).1, ((HXQ7.out.below hb (Nat.lt_trans (Nat.lt_trans hgb2 hgbi) HLG.out)) 0 _ rfl).1⟩
  have HBN : Hid (Below W7.heap.size W7 W7.drew) := Lib.hid (Below.refl _ _).drew
  have HBZ : Hid (Below W7.heap.size W7 W7) := Lib.hid (Below.refl _ _)
  go_wp2_with fail
  go_region_held3 (fun wr => wr.cell? ⟨gi, 0, none⟩ = some (.int .i64 i0) ∧ wr.cell? ⟨gq, 0, none⟩ = some (.slice q.pa QL q.pc))
    (first | exact HS7.out _ HBN.out)
    (first | (go_at_call 34; refine (HNQ.out _ (HRQ7.out.on HBN.out)).mono ?_; rintro x wn ⟨rfl, hbn⟩; have hbx := HBN.out.trans (hbn.mono HBN.out.size); clear HBN hbn; have HBN := Lib.hid hbx; clear hbx))
  have HBE := Lib.hid (show Below g w wn from HBb.out.trans ((HBM.out.trans ((HB6.out.trans ((HB7.out.trans (HBN.out.mono (Nat.le_of_lt HLG.out))).mono (by omega))).mono HBM.out.size)).mono HGL.out))
  go_wp2_with ((with_reducible apply wpList_store_mid (ty := 55) (b := g + 1 + 1) (o := 0) (cells := #[.int .i64 0, .int .i64 0, .int .i64 0, .int .i64 0, .int .i64 0, .int .i64 0, .int .i64 0, .int .i64 0, .int .i64 0, .int .i64 0, .int .i64 0, .int .i64 0, .int .i64 0, .int .i64 0, .int .i64 0, .int .i64 0, .int .i64 0])); rotate_left; rfl; rfl; rfl; exact (HC7.out _ (HBN.out.mono (Nat.le_of_lt HLG.out))).2.2.2.2.2.2.2.2.there; kernel_rfl; simp [Value.oneCell']; rotate_left; rfl; simp only [Act.put])
  refine bodyPost_ret (ret_box rfl _ _ (g + 1 + 1) [.int .i64 0, .int .i64 0, .int .i64 0, .int .i64 0, .int .i64 0, .int .i64 0, .int .i64 0, .int .i64 0, .int .i64 0, .int .i64 0, .int .i64 0, .int .i64 0, .int .i64 0, .int .i64 0, .int .i64 0, .int .i64 0, .int .i64 0] _ _ rfl rfl ((HC7.out _ (HBN.out.mono (Nat.le_of_lt HLG.out))).2.2.2.2.2.2.2.2.setAll _ rfl) Tryz.underlying55 rfl (by kernel_rfl)) rfl ⟨rfl, ?_⟩
  rw [hg]
  exact below_setCells (by omega) _ _ _ HBE.out

set_option maxRecDepth 100000 in
set_option maxHeartbeats 16000000 in
theorem undo7t (p : Pg) (e : Ed) (w : World) (h : Rd w p) (hfew : p.few) (hwf : p.wf) (hc : chk p e = 0) (ho : e.op = 7) (hid : (atR p e.f e.b e.pos).id = newId (appP p e)) :
    Calls Tryz.prog 51 #[p.val, e.val] w fun x w' => UndRes p e w w' x := by
  have HAP := Lib.hid (fun wr (h : Rd wr p) => Apply_any p e wr h hfew hwf)
  have hub : undoB p e = true := by rw [undoB_7 hc ho]; simp [hid]
  have hue : undoE p e = ⟨6, e.f, e.b, 0, 0, e.pos, { atR p e.f e.b e.pos with id := 0 }⟩ := by unfold undoE; rw [if_pos hub]; simp [ho]
  obtain ⟨nid, hnid⟩ : ∃ z, newId (appP p e) = z := ⟨_, rfl⟩
  rw [hnid] at hid
  have HNI := Lib.hid (fun (q : Pg) (hq : q.d = (appP p e).d) wr (h : Rd wr q) => (NewId_any q wr h.1 h.2.1 h.2.2 ((Pg.few_of_d hq).2 (few_app hfew e))).mono (R' := fun x w' => x = .returned (.int .i64 nid) ∧ Below wr.heap.size wr w') fun x w' ⟨⟨z, hx, hz⟩, hb⟩ => ⟨by rw [hx, newId_eq hz, newId_of_d hq, hnid], hb⟩)
  obtain ⟨fn, bm, hn, hm, hn2, hml, hfo, hfr, hbk, hbr, hin, -⟩ := app_view hc (by omega)
  have hat := (in7 hin ho).2
  have hat2 := hat
  unfold atB at hat2
  rw [hbr] at hat2
  simp only [Bool.and_eq_true, decide_eq_true_eq] at hat2
  obtain ⟨k, hk⟩ := Int.eq_ofNat_of_zero_le hat2.1
  have hkl : k < (blkAt (fdAt p.funs fn).blocks bm).code.length := by omega
  have hI : atR p e.f e.b e.pos = insAt (blkAt (fdAt p.funs fn).blocks bm).code k := by unfold atR; rw [if_pos hat, hbr, hk]; simp
  rw [hI] at hid
  try rw [hI] at hue
  obtain ⟨pb, po, hpa, hpb, -, -, c2, hfd⟩ := h.1 fn hn2
  have hfb := (hfew.2 fn hn2).1
  have hkb := (hfew.f fn).b bm
  obtain ⟨bb, bo, hba, hbb, -, d1, -, hbk0⟩ := hfd bm hml
  obtain ⟨cb, co, hca, hcb, t0, t1, t2, t3, t4, t5, t6, t7, t8, t9, t10⟩ := hbk0.1.at k hkl
  simp only [AppRes, hc] at HAP
  clear hc hnid hfo hfr hbk hbr hin hat hat2 hI hfd hbk0
  unfold UndRes
  rw [hub, hue]
  clear hub hue
  obtain ⟨fd, hfde⟩ : ∃ fd, fdAt p.funs fn = fd := ⟨_, rfl⟩
  rw [hfde] at c2 hba d1 hml hkl hca t0 t1 t2 t3 t4 t5 t6 t7 t8 t9 t10 hfb hkb hid
  try rw [hfde]
  clear hfde
  obtain ⟨ar, vr, ba, bc, bl⟩ := fd
  dsimp only at c2 hba d1 hml hkl hca t0 t1 t2 t3 t4 t5 t6 t7 t8 t9 t10 hfb hkb hid
  subst hba
  obtain ⟨bk, hbke⟩ : ∃ bk, blkAt bl bm = bk := ⟨_, rfl⟩
  rw [hbke] at d1 hkl hca t0 t1 t2 t3 t4 t5 t6 t7 t8 t9 t10 hkb hid
  try rw [hbke]
  clear hbke
  obtain ⟨lv, ca, cc, code, sa, sc, succ⟩ := bk
  unfold fewB at hkb
  dsimp only at d1 hkl hca t0 t1 t2 t3 t4 t5 t6 t7 t8 t9 t10 hkb hid
  subst hca
  obtain ⟨gone, hgone⟩ : ∃ i, insAt code k = i := ⟨_, rfl⟩
  rw [hgone] at t0 t1 t2 t3 t4 t5 t6 t7 t8 t9 t10 hid
  try rw [hgone]
  clear hgone
  obtain ⟨i0, i1, i2, i3, i4, i5, i6, i7, i8, i9, i10⟩ := gone
  dsimp only at t0 t1 t2 t3 t4 t5 t6 t7 t8 t9 t10 hid
  subst hid
  have HRD0 := Lib.hid h
  have hlen10 := hfew.1
  clear h hfew hwf
  obtain ⟨op, f, b, tob, other, pos, ⟨id, kind, dst, a, b2, c, f2, n, x0, x1, x2⟩⟩ := e
  dsimp only at *
  subst ho hn hm hk
  unfold Pg.val Ed.val at HAP
  unfold Pg.val Ed.val
  dsimp only
  have HNI2 := HNI
  unfold Pg.val at HNI2
  clear HNI
  simp only [hpa] at HAP ⊢
  clear hpa
  obtain ⟨PL, hPL⟩ : ∃ PL, p.funs.length = PL := ⟨_, rfl⟩
  obtain ⟨BL, hBL⟩ : ∃ BL, bl.length = BL := ⟨_, rfl⟩
  obtain ⟨CL, hCL⟩ : ∃ CL, code.length = CL := ⟨_, rfl⟩
  simp only [hPL, hBL, hCL] at HAP hlen10 hn2 hml hkl c2 d1 hfb hkb ⊢
  clear hPL hBL hCL
  have hfi : (fn : Int) < (PL : Int) := by omega
  have hbi : (bm : Int) < (BL : Int) := by omega
  have hki : (k : Int) < (CL : Int) := by omega
  have HBb := Lib.hid (below3 w (.cells #[.slice (some ⟨pb, po, none⟩) PL p.pc] 24) (.cells #[.int .i64 7, .int .i64 (fn : Nat), .int .i64 (bm : Nat), .int .i64 tob, .int .i64 other, .int .i64 (k : Nat), .int .i64 id, .int .i64 kind, .int .i64 dst, .int .i64 a, .int .i64 b2, .int .i64 c, .int .i64 f2, .int .i64 n, .int .i64 x0, .int .i64 x1, .int .i64 x2] 55) (.cells #[.int .i64 0, .int .i64 0, .int .i64 0, .int .i64 0, .int .i64 0, .int .i64 0, .int .i64 0, .int .i64 0, .int .i64 0, .int .i64 0, .int .i64 0, .int .i64 0, .int .i64 0, .int .i64 0, .int .i64 0, .int .i64 0, .int .i64 0] 55))
  have hx0 := BoxL.new w [.slice (some ⟨pb, po, none⟩) PL p.pc] 24
  have HX0 := Lib.hid (show BoxL (((w.alloc (.cells #[.slice (some ⟨pb, po, none⟩) PL p.pc] 24)).alloc (.cells #[.int .i64 7, .int .i64 (fn : Nat), .int .i64 (bm : Nat), .int .i64 tob, .int .i64 other, .int .i64 (k : Nat), .int .i64 id, .int .i64 kind, .int .i64 dst, .int .i64 a, .int .i64 b2, .int .i64 c, .int .i64 f2, .int .i64 n, .int .i64 x0, .int .i64 x1, .int .i64 x2] 55)).alloc (.cells #[.int .i64 0, .int .i64 0, .int .i64 0, .int .i64 0, .int .i64 0, .int .i64 0, .int .i64 0, .int .i64 0, .int .i64 0, .int .i64 0, .int .i64 0, .int .i64 0, .int .i64 0, .int .i64 0, .int .i64 0, .int .i64 0, .int .i64 0] 55)) (w.heap.size) [.slice (some ⟨pb, po, none⟩) PL p.pc] from ((hx0).alloc (Nat.zero_lt_succ _) (.cells #[.int .i64 7, .int .i64 (fn : Nat), .int .i64 (bm : Nat), .int .i64 tob, .int .i64 other, .int .i64 (k : Nat), .int .i64 id, .int .i64 kind, .int .i64 dst, .int .i64 a, .int .i64 b2, .int .i64 c, .int .i64 f2, .int .i64 n, .int .i64 x0, .int .i64 x1, .int .i64 x2] 55)).alloc (Nat.zero_lt_succ _) (.cells #[.int .i64 0, .int .i64 0, .int .i64 0, .int .i64 0, .int .i64 0, .int .i64 0, .int .i64 0, .int .i64 0, .int .i64 0, .int .i64 0, .int .i64 0, .int .i64 0, .int .i64 0, .int .i64 0, .int .i64 0, .int .i64 0, .int .i64 0] 55))
  have hx1 := BoxL.new (w.alloc (.cells #[.slice (some ⟨pb, po, none⟩) PL p.pc] 24)) [.int .i64 7, .int .i64 (fn : Nat), .int .i64 (bm : Nat), .int .i64 tob, .int .i64 other, .int .i64 (k : Nat), .int .i64 id, .int .i64 kind, .int .i64 dst, .int .i64 a, .int .i64 b2, .int .i64 c, .int .i64 f2, .int .i64 n, .int .i64 x0, .int .i64 x1, .int .i64 x2] 55
  rw [World.size_alloc] at hx1
  have HX1 := Lib.hid (show BoxL (((w.alloc (.cells #[.slice (some ⟨pb, po, none⟩) PL p.pc] 24)).alloc (.cells #[.int .i64 7, .int .i64 (fn : Nat), .int .i64 (bm : Nat), .int .i64 tob, .int .i64 other, .int .i64 (k : Nat), .int .i64 id, .int .i64 kind, .int .i64 dst, .int .i64 a, .int .i64 b2, .int .i64 c, .int .i64 f2, .int .i64 n, .int .i64 x0, .int .i64 x1, .int .i64 x2] 55)).alloc (.cells #[.int .i64 0, .int .i64 0, .int .i64 0, .int .i64 0, .int .i64 0, .int .i64 0, .int .i64 0, .int .i64 0, .int .i64 0, .int .i64 0, .int .i64 0, .int .i64 0, .int .i64 0, .int .i64 0, .int .i64 0, .int .i64 0, .int .i64 0] 55)) (w.heap.size + 1) [.int .i64 7, .int .i64 (fn : Nat), .int .i64 (bm : Nat), .int .i64 tob, .int .i64 other, .int .i64 (k : Nat), .int .i64 id, .int .i64 kind, .int .i64 dst, .int .i64 a, .int .i64 b2, .int .i64 c, .int .i64 f2, .int .i64 n, .int .i64 x0, .int .i64 x1, .int .i64 x2] from (hx1).alloc (Nat.zero_lt_succ _) (.cells #[.int .i64 0, .int .i64 0, .int .i64 0, .int .i64 0, .int .i64 0, .int .i64 0, .int .i64 0, .int .i64 0, .int .i64 0, .int .i64 0, .int .i64 0, .int .i64 0, .int .i64 0, .int .i64 0, .int .i64 0, .int .i64 0, .int .i64 0] 55))
  have hx2 := BoxL.new ((w.alloc (.cells #[.slice (some ⟨pb, po, none⟩) PL p.pc] 24)).alloc (.cells #[.int .i64 7, .int .i64 (fn : Nat), .int .i64 (bm : Nat), .int .i64 tob, .int .i64 other, .int .i64 (k : Nat), .int .i64 id, .int .i64 kind, .int .i64 dst, .int .i64 a, .int .i64 b2, .int .i64 c, .int .i64 f2, .int .i64 n, .int .i64 x0, .int .i64 x1, .int .i64 x2] 55)) [.int .i64 0, .int .i64 0, .int .i64 0, .int .i64 0, .int .i64 0, .int .i64 0, .int .i64 0, .int .i64 0, .int .i64 0, .int .i64 0, .int .i64 0, .int .i64 0, .int .i64 0, .int .i64 0, .int .i64 0, .int .i64 0, .int .i64 0] 55
  rw [World.size_alloc, World.size_alloc] at hx2
  have HX2 := Lib.hid (show BoxL (((w.alloc (.cells #[.slice (some ⟨pb, po, none⟩) PL p.pc] 24)).alloc (.cells #[.int .i64 7, .int .i64 (fn : Nat), .int .i64 (bm : Nat), .int .i64 tob, .int .i64 other, .int .i64 (k : Nat), .int .i64 id, .int .i64 kind, .int .i64 dst, .int .i64 a, .int .i64 b2, .int .i64 c, .int .i64 f2, .int .i64 n, .int .i64 x0, .int .i64 x1, .int .i64 x2] 55)).alloc (.cells #[.int .i64 0, .int .i64 0, .int .i64 0, .int .i64 0, .int .i64 0, .int .i64 0, .int .i64 0, .int .i64 0, .int .i64 0, .int .i64 0, .int .i64 0, .int .i64 0, .int .i64 0, .int .i64 0, .int .i64 0, .int .i64 0, .int .i64 0] 55)) (w.heap.size + 1 + 1) [.int .i64 0, .int .i64 0, .int .i64 0, .int .i64 0, .int .i64 0, .int .i64 0, .int .i64 0, .int .i64 0, .int .i64 0, .int .i64 0, .int .i64 0, .int .i64 0, .int .i64 0, .int .i64 0, .int .i64 0, .int .i64 0, .int .i64 0] from hx2)
  clear hx0 hx1 hx2
  have HRW := Lib.hid (HRD0.out.on HBb.out)
  have HFAR : Hid (∀ wr, Below w.heap.size w wr → wr.cell? ⟨pb, po + fn * 3 + 2, none⟩ = some (.slice (some ⟨bb, bo, none⟩) BL bc) ∧ wr.cell? ⟨bb, bo + bm * 3 + 1, none⟩ = some (.slice (some ⟨cb, co, none⟩) CL cc) ∧ wr.cell? ⟨cb, co + k * 11, none⟩ = some (.int .i64 i0) ∧ wr.cell? ⟨cb, co + k * 11 + 1, none⟩ = some (.int .i64 i1) ∧ wr.cell? ⟨cb, co + k * 11 + 2, none⟩ = some (.int .i64 i2) ∧ wr.cell? ⟨cb, co + k * 11 + 3, none⟩ = some (.int .i64 i3) ∧ wr.cell? ⟨cb, co + k * 11 + 4, none⟩ = some (.int .i64 i4) ∧ wr.cell? ⟨cb, co + k * 11 + 5, none⟩ = some (.int .i64 i5) ∧ wr.cell? ⟨cb, co + k * 11 + 6, none⟩ = some (.int .i64 i6) ∧ wr.cell? ⟨cb, co + k * 11 + 7, none⟩ = some (.int .i64 i7) ∧ wr.cell? ⟨cb, co + k * 11 + 8, none⟩ = some (.int .i64 i8) ∧ wr.cell? ⟨cb, co + k * 11 + 9, none⟩ = some (.int .i64 i9) ∧ wr.cell? ⟨cb, co + k * 11 + 10, none⟩ = some (.int .i64 i10)) := Lib.hid fun wr hb => ⟨(hb.cell (p := ⟨pb, po + fn * 3 + 2, none⟩) hpb).trans c2, (hb.cell (p := ⟨bb, bo + bm * 3 + 1, none⟩) hbb).trans d1, (hb.cell (p := ⟨cb, co + k * 11, none⟩) hcb).trans t0, (hb.cell (p := ⟨cb, co + k * 11 + 1, none⟩) hcb).trans t1, (hb.cell (p := ⟨cb, co + k * 11 + 2, none⟩) hcb).trans t2, (hb.cell (p := ⟨cb, co + k * 11 + 3, none⟩) hcb).trans t3, (hb.cell (p := ⟨cb, co + k * 11 + 4, none⟩) hcb).trans t4, (hb.cell (p := ⟨cb, co + k * 11 + 5, none⟩) hcb).trans t5, (hb.cell (p := ⟨cb, co + k * 11 + 6, none⟩) hcb).trans t6, (hb.cell (p := ⟨cb, co + k * 11 + 7, none⟩) hcb).trans t7, (hb.cell (p := ⟨cb, co + k * 11 + 8, none⟩) hcb).trans t8, (hb.cell (p := ⟨cb, co + k * 11 + 9, none⟩) hcb).trans t9, (hb.cell (p := ⟨cb, co + k * 11 + 10, none⟩) hcb).trans t10⟩
  clear c2 d1 hpb hbb hcb t0 t1 t2 t3 t4 t5 t6 t7 t8 t9 t10
  generalize hW : (((w.alloc (.cells #[.slice (some ⟨pb, po, none⟩) PL p.pc] 24)).alloc (.cells #[.int .i64 7, .int .i64 (fn : Nat), .int .i64 (bm : Nat), .int .i64 tob, .int .i64 other, .int .i64 (k : Nat), .int .i64 id, .int .i64 kind, .int .i64 dst, .int .i64 a, .int .i64 b2, .int .i64 c, .int .i64 f2, .int .i64 n, .int .i64 x0, .int .i64 x1, .int .i64 x2] 55)).alloc (.cells #[.int .i64 0, .int .i64 0, .int .i64 0, .int .i64 0, .int .i64 0, .int .i64 0, .int .i64 0, .int .i64 0, .int .i64 0, .int .i64 0, .int .i64 0, .int .i64 0, .int .i64 0, .int .i64 0, .int .i64 0, .int .i64 0, .int .i64 0] 55)) = W at HBb HX0 HX1 HX2 HRW
  obtain ⟨g, hg⟩ : ∃ g, w.heap.size = g := ⟨_, rfl⟩
  have HGL := Lib.hid HBb.out.size
  rw [hg] at HBb HGL HX0 HX1 HX2 HFAR
  have HL0 := Lib.hid (HX0.out.lt (Nat.zero_lt_succ _))
  have HL1 := Lib.hid (HX1.out.lt (Nat.zero_lt_succ _))
  have HL2 := Lib.hid (HX2.out.lt (Nat.zero_lt_succ _))
  have HC : Hid (∀ wr, Below W.heap.size W wr → wr.cell? ⟨g, 0, none⟩ = some (.slice (some ⟨pb, po, none⟩) PL p.pc) ∧ wr.cell? ⟨g + 1, 0, none⟩ = some (.int .i64 7) ∧ wr.cell? ⟨g + 1, 1, none⟩ = some (.int .i64 (fn : Nat)) ∧ wr.cell? ⟨g + 1, 2, none⟩ = some (.int .i64 (bm : Nat)) ∧ wr.cell? ⟨g + 1, 3, none⟩ = some (.int .i64 tob) ∧ wr.cell? ⟨g + 1, 4, none⟩ = some (.int .i64 other) ∧ wr.cell? ⟨g + 1, 5, none⟩ = some (.int .i64 (k : Nat)) ∧ wr.rangeAt (g + 1) 0 [.int .i64 7, .int .i64 (fn : Nat), .int .i64 (bm : Nat), .int .i64 tob, .int .i64 other, .int .i64 (k : Nat), .int .i64 id, .int .i64 kind, .int .i64 dst, .int .i64 a, .int .i64 b2, .int .i64 c, .int .i64 f2, .int .i64 n, .int .i64 x0, .int .i64 x1, .int .i64 x2] ∧ BoxL wr (g + 1 + 1) [.int .i64 0, .int .i64 0, .int .i64 0, .int .i64 0, .int .i64 0, .int .i64 0, .int .i64 0, .int .i64 0, .int .i64 0, .int .i64 0, .int .i64 0, .int .i64 0, .int .i64 0, .int .i64 0, .int .i64 0, .int .i64 0, .int .i64 0]) := Lib.hid fun wr hb => ⟨((HX0.out.below hb HL0.out) 0 _ rfl).1, ((HX1.out.below hb HL1.out) 0 _ rfl).1, ((HX1.out.below hb HL1.out) 1 _ rfl).1, ((HX1.out.below hb HL1.out) 2 _ rfl).1, ((HX1.out.below hb HL1.out) 3 _ rfl).1, ((HX1.out.below hb HL1.out) 4 _ rfl).1, ((HX1.out.below hb HL1.out) 5 _ rfl).1, (HX1.out.below hb HL1.out).range, HX2.out.below hb HL2.out⟩
  have HBN : Hid (Below W.heap.size W W) := Lib.hid (Below.refl _ _)
  obtain ⟨k0, k1, k2, k3, k4, k5, k6, -, -⟩ := HC.out _ HBN.out
  go_enter Tryz.func51, Tryz.ntmps51
  go_upto_region 1 with fail
  go_upto_region 2 with (first
    | (go_at_call 49; refine (HAP.out _ (HRW.out.on HBN.out)).mono ?_; rintro x we ⟨q, rfl, hqi, -, hqd, hbn⟩; have HQI := Lib.hid hqi; have HNQ := Lib.hid (HNI2.out q hqd); clear hqi hqd; have hbx := HBN.out.trans (hbn.mono HBN.out.size); clear HBN hbn k0 k1 k2 k3 k4 k5 k6; have HBN := Lib.hid hbx; clear hbx; obtain ⟨k0, k1, k2, k3, k4, k5, k6, -, -⟩ := HC.out _ HBN.out)
    | ((with_reducible apply wpList_load_w (ty := 55) (b := g + 1) (o := 0) (cs := [.int .i64 7, .int .i64 (fn : Nat), .int .i64 (bm : Nat), .int .i64 tob, .int .i64 other, .int .i64 (k : Nat), .int .i64 id, .int .i64 kind, .int .i64 dst, .int .i64 a, .int .i64 b2, .int .i64 c, .int .i64 f2, .int .i64 n, .int .i64 x0, .int .i64 x1, .int .i64 x2])); rotate_left; rfl; rfl; exact (HC.out _ HBN.out).2.2.2.2.2.2.2.1; exact Tryz.underlying55; rfl; kernel_rfl; rotate_left; rfl; simp only [Act.put, List.setIfInBounds_toArray, List.set_cons_zero, List.set_cons_succ]))
  obtain ⟨QL, hQL⟩ : ∃ QL, q.funs.length = QL := ⟨_, rfl⟩
  simp only [hQL] at HNQ ⊢
  clear hQL HNI2
  have hx := BoxL.new we [.slice q.pa QL q.pc] 24
  have hb5 := below1 we (.cells #[.slice q.pa QL q.pc] 24)
  have HXQ : Hid (BoxL (we.alloc (.cells #[.slice q.pa QL q.pc] 24)) we.heap.size [.slice q.pa QL q.pc]) := Lib.hid hx
  have HRQ := Lib.hid (show Rd (we.alloc (.cells #[.slice q.pa QL q.pc] 24)) q from (show Rd we q from ⟨HQI.out, (HRW.out.on HBN.out).2.1, (HRW.out.on HBN.out).2.2⟩).on hb5)
  have HBM := Lib.hid (HBN.out.trans (hb5.mono HBN.out.size))
  clear hx hb5 HBN HQI k0 k1 k2 k3 k4 k5 k6
  generalize we.alloc (.cells #[.slice q.pa QL q.pc] 24) = W5 at *
  generalize we.heap.size = gq at *
  have HLQ := Lib.hid (HXQ.out.lt (Nat.zero_lt_succ _))
  have HC5 : Hid (∀ wr, Below W5.heap.size W5 wr → wr.cell? ⟨g, 0, none⟩ = some (.slice (some ⟨pb, po, none⟩) PL p.pc) ∧ wr.cell? ⟨g + 1, 0, none⟩ = some (.int .i64 7) ∧ wr.cell? ⟨g + 1, 1, none⟩ = some (.int .i64 (fn : Nat)) ∧ wr.cell? ⟨g + 1, 2, none⟩ = some (.int .i64 (bm : Nat)) ∧ wr.cell? ⟨g + 1, 3, none⟩ = some (.int .i64 tob) ∧ wr.cell? ⟨g + 1, 4, none⟩ = some (.int .i64 other) ∧ wr.cell? ⟨g + 1, 5, none⟩ = some (.int .i64 (k : Nat)) ∧ wr.rangeAt (g + 1) 0 [.int .i64 7, .int .i64 (fn : Nat), .int .i64 (bm : Nat), .int .i64 tob, .int .i64 other, .int .i64 (k : Nat), .int .i64 id, .int .i64 kind, .int .i64 dst, .int .i64 a, .int .i64 b2, .int .i64 c, .int .i64 f2, .int .i64 n, .int .i64 x0, .int .i64 x1, .int .i64 x2] ∧ BoxL wr (g + 1 + 1) [.int .i64 0, .int .i64 0, .int .i64 0, .int .i64 0, .int .i64 0, .int .i64 0, .int .i64 0, .int .i64 0, .int .i64 0, .int .i64 0, .int .i64 0, .int .i64 0, .int .i64 0, .int .i64 0, .int .i64 0, .int .i64 0, .int .i64 0]) := Lib.hid fun wr hb => HC.out wr (HBM.out.trans (hb.mono HBM.out.size))
  have HF5 : Hid (∀ wr, Below W5.heap.size W5 wr → wr.cell? ⟨pb, po + fn * 3 + 2, none⟩ = some (.slice (some ⟨bb, bo, none⟩) BL bc) ∧ wr.cell? ⟨bb, bo + bm * 3 + 1, none⟩ = some (.slice (some ⟨cb, co, none⟩) CL cc) ∧ wr.cell? ⟨cb, co + k * 11, none⟩ = some (.int .i64 i0) ∧ wr.cell? ⟨cb, co + k * 11 + 1, none⟩ = some (.int .i64 i1) ∧ wr.cell? ⟨cb, co + k * 11 + 2, none⟩ = some (.int .i64 i2) ∧ wr.cell? ⟨cb, co + k * 11 + 3, none⟩ = some (.int .i64 i3) ∧ wr.cell? ⟨cb, co + k * 11 + 4, none⟩ = some (.int .i64 i4) ∧ wr.cell? ⟨cb, co + k * 11 + 5, none⟩ = some (.int .i64 i5) ∧ wr.cell? ⟨cb, co + k * 11 + 6, none⟩ = some (.int .i64 i6) ∧ wr.cell? ⟨cb, co + k * 11 + 7, none⟩ = some (.int .i64 i7) ∧ wr.cell? ⟨cb, co + k * 11 + 8, none⟩ = some (.int .i64 i8) ∧ wr.cell? ⟨cb, co + k * 11 + 9, none⟩ = some (.int .i64 i9) ∧ wr.cell? ⟨cb, co + k * 11 + 10, none⟩ = some (.int .i64 i10)) := Lib.hid fun wr hb => HFAR.out wr (HBb.out.trans ((HBM.out.trans (hb.mono HBM.out.size)).mono HGL.out))
  have HBN : Hid (Below W5.heap.size W5 W5) := Lib.hid (Below.refl _ _)
  obtain ⟨k0, k1, k2, k3, k4, k5, k6, -, -⟩ := HC5.out _ HBN.out
  go_upto_region 5 with ((with_reducible apply wpList_store_new (ty := 55) (c := #[.int .i64 0, .int .i64 0, .int .i64 0, .int .i64 0, .int .i64 0, .int .i64 0, .int .i64 0, .int .i64 0, .int .i64 0, .int .i64 0, .int .i64 0, .int .i64 0, .int .i64 0, .int .i64 0, .int .i64 0, .int .i64 0, .int .i64 0]) (c' := #[.int .i64 0, .int .i64 (fn : Nat), .int .i64 (bm : Nat), .int .i64 0, .int .i64 0, .int .i64 0, .int .i64 0, .int .i64 0, .int .i64 0, .int .i64 0, .int .i64 0, .int .i64 0, .int .i64 0, .int .i64 0, .int .i64 0, .int .i64 0, .int .i64 0])); rfl; rfl; rfl; rfl; kernel_rfl; rfl; simp [Value.oneCell']; simp only [Act.put])
  have HXB : Hid (BoxL (W5.alloc (.cells #[.int .i64 0, .int .i64 (fn : Nat), .int .i64 (bm : Nat), .int .i64 0, .int .i64 0, .int .i64 0, .int .i64 0, .int .i64 0, .int .i64 0, .int .i64 0, .int .i64 0, .int .i64 0, .int .i64 0, .int .i64 0, .int .i64 0, .int .i64 0, .int .i64 0] 55)) W5.heap.size [.int .i64 0, .int .i64 (fn : Nat), .int .i64 (bm : Nat), .int .i64 0, .int .i64 0, .int .i64 0, .int .i64 0, .int .i64 0, .int .i64 0, .int .i64 0, .int .i64 0, .int .i64 0, .int .i64 0, .int .i64 0, .int .i64 0, .int .i64 0, .int .i64 0]) := Lib.hid (BoxL.new W5 _ _)
  have HB6 := Lib.hid (below1 W5 (.cells #[.int .i64 0, .int .i64 (fn : Nat), .int .i64 (bm : Nat), .int .i64 0, .int .i64 0, .int .i64 0, .int .i64 0, .int .i64 0, .int .i64 0, .int .i64 0, .int .i64 0, .int .i64 0, .int .i64 0, .int .i64 0, .int .i64 0, .int .i64 0, .int .i64 0] 55))
  clear HBN k0 k1 k2 k3 k4 k5 k6
  generalize W5.alloc (.cells #[.int .i64 0, .int .i64 (fn : Nat), .int .i64 (bm : Nat), .int .i64 0, .int .i64 0, .int .i64 0, .int .i64 0, .int .i64 0, .int .i64 0, .int .i64 0, .int .i64 0, .int .i64 0, .int .i64 0, .int .i64 0, .int .i64 0, .int .i64 0, .int .i64 0] 55) = W6 at *
  obtain ⟨gb, hgbe⟩ : ∃ n, W5.heap.size = n := ⟨_, rfl⟩
  have hgb : g + 1 + 1 < gb := by rw [← hgbe]; exact Nat.lt_of_lt_of_le HL2.out HBM.out.size
  have hgb2 : gq < gb := by rw [← hgbe]; exact HLQ.out
  have HGM := Lib.hid (show g ≤ gb by omega)
  rw [hgbe] at HXB ⊢
  have HLB := Lib.hid (HXB.out.lt (Nat.zero_lt_succ _))
  have HC6 : Hid (∀ wr, Below gb W6 wr → wr.cell? ⟨g, 0, none⟩ = some (.slice (some ⟨pb, po, none⟩) PL p.pc) ∧ wr.cell? ⟨g + 1, 0, none⟩ = some (.int .i64 7) ∧ wr.cell? ⟨g + 1, 1, none⟩ = some (.int .i64 (fn : Nat)) ∧ wr.cell? ⟨g + 1, 2, none⟩ = some (.int .i64 (bm : Nat)) ∧ wr.cell? ⟨g + 1, 3, none⟩ = some (.int .i64 tob) ∧ wr.cell? ⟨g + 1, 4, none⟩ = some (.int .i64 other) ∧ wr.cell? ⟨g + 1, 5, none⟩ = some (.int .i64 (k : Nat)) ∧ wr.rangeAt (g + 1) 0 [.int .i64 7, .int .i64 (fn : Nat), .int .i64 (bm : Nat), .int .i64 tob, .int .i64 other, .int .i64 (k : Nat), .int .i64 id, .int .i64 kind, .int .i64 dst, .int .i64 a, .int .i64 b2, .int .i64 c, .int .i64 f2, .int .i64 n, .int .i64 x0, .int .i64 x1, .int .i64 x2] ∧ BoxL wr (g + 1 + 1) [.int .i64 0, .int .i64 0, .int .i64 0, .int .i64 0, .int .i64 0, .int .i64 0, .int .i64 0, .int .i64 0, .int .i64 0, .int .i64 0, .int .i64 0, .int .i64 0, .int .i64 0, .int .i64 0, .int .i64 0, .int .i64 0, .int .i64 0]) := Lib.hid fun wr hb => HC5.out wr (HB6.out.trans (by rw [hgbe]; exact hb))
  have HF6 : Hid (∀ wr, Below gb W6 wr → wr.cell? ⟨pb, po + fn * 3 + 2, none⟩ = some (.slice (some ⟨bb, bo, none⟩) BL bc) ∧ wr.cell? ⟨bb, bo + bm * 3 + 1, none⟩ = some (.slice (some ⟨cb, co, none⟩) CL cc) ∧ wr.cell? ⟨cb, co + k * 11, none⟩ = some (.int .i64 i0) ∧ wr.cell? ⟨cb, co + k * 11 + 1, none⟩ = some (.int .i64 i1) ∧ wr.cell? ⟨cb, co + k * 11 + 2, none⟩ = some (.int .i64 i2) ∧ wr.cell? ⟨cb, co + k * 11 + 3, none⟩ = some (.int .i64 i3) ∧ wr.cell? ⟨cb, co + k * 11 + 4, none⟩ = some (.int .i64 i4) ∧ wr.cell? ⟨cb, co + k * 11 + 5, none⟩ = some (.int .i64 i5) ∧ wr.cell? ⟨cb, co + k * 11 + 6, none⟩ = some (.int .i64 i6) ∧ wr.cell? ⟨cb, co + k * 11 + 7, none⟩ = some (.int .i64 i7) ∧ wr.cell? ⟨cb, co + k * 11 + 8, none⟩ = some (.int .i64 i8) ∧ wr.cell? ⟨cb, co + k * 11 + 9, none⟩ = some (.int .i64 i9) ∧ wr.cell? ⟨cb, co + k * 11 + 10, none⟩ = some (.int .i64 i10)) := Lib.hid fun wr hb => HF5.out wr (HB6.out.trans (by rw [hgbe]; exact hb))
  have HXQ6 := Lib.hid (HXQ.out.below HB6.out HLQ.out)
  have HRQ6 := Lib.hid (HRQ.out.on HB6.out)
  have HBN : Hid (Below gb W6 W6) := Lib.hid (Below.refl _ _)
  obtain ⟨k0, k1, k2, k3, k4, k5, k6, -, -⟩ := HC6.out _ HBN.out
  clear HC5 HC HXQ HF5 HRQ
  go_wp2_with fail
  clear HBN k0 k1 k2 k3 k4 k5 k6
  have HS : Hid (∀ wr, Below gb W6 wr → wr.cell? ⟨g, 0, none⟩ = some (.slice (some ⟨pb, po, none⟩) PL p.pc) ∧ wr.cell? ⟨g + 1, 1, none⟩ = some (.int .i64 (fn : Nat)) ∧ wr.cell? ⟨g + 1, 2, none⟩ = some (.int .i64 (bm : Nat)) ∧ wr.cell? ⟨g + 1, 5, none⟩ = some (.int .i64 (k : Nat)) ∧ wr.cell? ⟨pb, po + fn * 3 + 2, none⟩ = some (.slice (some ⟨bb, bo, none⟩) BL bc) ∧ wr.cell? ⟨bb, bo + bm * 3 + 1, none⟩ = some (.slice (some ⟨cb, co, none⟩) CL cc) ∧ wr.cell? ⟨cb, co + k * 11, none⟩ = some (.int .i64 i0) ∧ wr.cell? ⟨cb, co + k * 11 + 1, none⟩ = some (.int .i64 i1) ∧ wr.cell? ⟨cb, co + k * 11 + 2, none⟩ = some (.int .i64 i2) ∧ wr.cell? ⟨cb, co + k * 11 + 3, none⟩ = some (.int .i64 i3) ∧ wr.cell? ⟨cb, co + k * 11 + 4, none⟩ = some (.int .i64 i4) ∧ wr.cell? ⟨cb, co + k * 11 + 5, none⟩ = some (.int .i64 i5) ∧ wr.cell? ⟨cb, co + k * 11 + 6, none⟩ = some (.int .i64 i6) ∧ wr.cell? ⟨cb, co + k * 11 + 7, none⟩ = some (.int .i64 i7) ∧ wr.cell? ⟨cb, co + k * 11 + 8, none⟩ = some (.int .i64 i8) ∧ wr.cell? ⟨cb, co + k * 11 + 9, none⟩ = some (.int .i64 i9) ∧ wr.cell? ⟨cb, co + k * 11 + 10, none⟩ = some (.int .i64 i10)) := Lib.hid fun wr hb => ⟨(HC6.out wr hb).1, (HC6.out wr hb).2.2.1, (HC6.out wr hb).2.2.2.1, (HC6.out wr hb).2.2.2.2.2.2.1, HF6.out wr hb⟩
  have HBN : Hid (Below gb W6 W6.drew) := Lib.hid (Below.refl _ _).drew
  go_region_held3 (fun wr => wr.cell? ⟨g, 0, none⟩ = some (.slice (some ⟨pb, po, none⟩) PL p.pc) ∧ wr.cell? ⟨g + 1, 1, none⟩ = some (.int .i64 (fn : Nat)) ∧ wr.cell? ⟨g + 1, 2, none⟩ = some (.int .i64 (bm : Nat)) ∧ wr.cell? ⟨g + 1, 5, none⟩ = some (.int .i64 (k : Nat)) ∧ wr.cell? ⟨pb, po + fn * 3 + 2, none⟩ = some (.slice (some ⟨bb, bo, none⟩) BL bc) ∧ wr.cell? ⟨bb, bo + bm * 3 + 1, none⟩ = some (.slice (some ⟨cb, co, none⟩) CL cc) ∧ wr.cell? ⟨cb, co + k * 11, none⟩ = some (.int .i64 i0) ∧ wr.cell? ⟨cb, co + k * 11 + 1, none⟩ = some (.int .i64 i1) ∧ wr.cell? ⟨cb, co + k * 11 + 2, none⟩ = some (.int .i64 i2) ∧ wr.cell? ⟨cb, co + k * 11 + 3, none⟩ = some (.int .i64 i3) ∧ wr.cell? ⟨cb, co + k * 11 + 4, none⟩ = some (.int .i64 i4) ∧ wr.cell? ⟨cb, co + k * 11 + 5, none⟩ = some (.int .i64 i5) ∧ wr.cell? ⟨cb, co + k * 11 + 6, none⟩ = some (.int .i64 i6) ∧ wr.cell? ⟨cb, co + k * 11 + 7, none⟩ = some (.int .i64 i7) ∧ wr.cell? ⟨cb, co + k * 11 + 8, none⟩ = some (.int .i64 i8) ∧ wr.cell? ⟨cb, co + k * 11 + 9, none⟩ = some (.int .i64 i9) ∧ wr.cell? ⟨cb, co + k * 11 + 10, none⟩ = some (.int .i64 i10))
    (first | exact HS.out _ HBN.out | exact HS.out _ (HBN.out.alloc (Nat.le_of_lt HLB.out) _))
    (fail)
  have HXG : Hid (BoxL ((W6.alloc (.cells #[.int .i64 i0, .int .i64 i1, .int .i64 i2, .int .i64 i3, .int .i64 i4, .int .i64 i5, .int .i64 i6, .int .i64 i7, .int .i64 i8, .int .i64 i9, .int .i64 i10] 40)).drew) W6.heap.size [.int .i64 i0, .int .i64 i1, .int .i64 i2, .int .i64 i3, .int .i64 i4, .int .i64 i5, .int .i64 i6, .int .i64 i7, .int .i64 i8, .int .i64 i9, .int .i64 i10]) := Lib.hid (BoxL.new W6 _ _).drew
  have HB7 : Hid (Below W6.heap.size W6 ((W6.alloc (.cells #[.int .i64 i0, .int .i64 i1, .int .i64 i2, .int .i64 i3, .int .i64 i4, .int .i64 i5, .int .i64 i6, .int .i64 i7, .int .i64 i8, .int .i64 i9, .int .i64 i10] 40)).drew)) := Lib.hid (below1 W6 _).drew
  clear HBN
  generalize (W6.alloc (.cells #[.int .i64 i0, .int .i64 i1, .int .i64 i2, .int .i64 i3, .int .i64 i4, .int .i64 i5, .int .i64 i6, .int .i64 i7, .int .i64 i8, .int .i64 i9, .int .i64 i10] 40)).drew = W7 at HXG HB7 ⊢
  obtain ⟨gi, hgi⟩ : ∃ n, W6.heap.size = n := ⟨_, rfl⟩
  have HXB7 := Lib.hid (HXB.out.below HB7.out HLB.out)
  have HXQ7 := Lib.hid (HXQ6.out.below HB7.out (Nat.lt_trans hgb2 HLB.out))
  have HRQ7 := Lib.hid (HRQ6.out.on HB7.out)
  have hgbi : gb < gi := by rw [← hgi]; exact HLB.out
  rw [hgi] at HXG HB7 ⊢
  have HLG := Lib.hid (HXG.out.lt (Nat.zero_lt_succ _))
  have HC7 : Hid (∀ wr, Below gi W7 wr → wr.cell? ⟨g, 0, none⟩ = some (.slice (some ⟨pb, po, none⟩) PL p.pc) ∧ wr.cell? ⟨g + 1, 0, none⟩ = some (.int .i64 7) ∧ wr.cell? ⟨g + 1, 1, none⟩ = some (.int .i64 (fn : Nat)) ∧ wr.cell? ⟨g + 1, 2, none⟩ = some (.int .i64 (bm : Nat)) ∧ wr.cell? ⟨g + 1, 3, none⟩ = some (.int .i64 tob) ∧ wr.cell? ⟨g + 1, 4, none⟩ = some (.int .i64 other) ∧ wr.cell? ⟨g + 1, 5, none⟩ = some (.int .i64 (k : Nat)) ∧ wr.rangeAt (g + 1) 0 [.int .i64 7, .int .i64 (fn : Nat), .int .i64 (bm : Nat), .int .i64 tob, .int .i64 other, .int .i64 (k : Nat), .int .i64 id, .int .i64 kind, .int .i64 dst, .int .i64 a, .int .i64 b2, .int .i64 c, .int .i64 f2, .int .i64 n, .int .i64 x0, .int .i64 x1, .int .i64 x2] ∧ BoxL wr (g + 1 + 1) [.int .i64 0, .int .i64 0, .int .i64 0, .int .i64 0, .int .i64 0, .int .i64 0, .int .i64 0, .int .i64 0, .int .i64 0, .int .i64 0, .int .i64 0, .int .i64 0, .int .i64 0, .int .i64 0, .int .i64 0, .int .i64 0, .int .i64 0]) := Lib.hid fun wr hb => HC6.out wr ((HB7.out.trans hb).mono (Nat.le_of_lt hgbi))
  have HS7 : Hid (∀ wr, Below W7.heap.size W7 wr → wr.cell? ⟨gi, 0, none⟩ = some (.int .i64 i0) ∧ wr.cell? ⟨gq, 0, none⟩ = some (.slice q.pa QL q.pc)) := Lib.hid fun wr hb => ⟨((HXG.out.below hb HLG.out) 0 _ rfl).1, ((HXQ7.out.below hb (Nat.lt_trans (Nat.lt_trans hgb2 hgbi) HLG.out)) 0 _ rfl).1⟩
  have HBN : Hid (Below W7.heap.size W7 W7.drew) := Lib.hid (Below.refl _ _).drew
  have HBZ : Hid (Below W7.heap.size W7 W7) := Lib.hid (Below.refl _ _)
  go_wp2_with fail
  go_region_held3 (fun wr => wr.cell? ⟨gi, 0, none⟩ = some (.int .i64 i0) ∧ wr.cell? ⟨gq, 0, none⟩ = some (.slice q.pa QL q.pc))
    (first | exact HS7.out _ HBN.out)
    (first | (go_at_call 34; refine (HNQ.out _ (HRQ7.out.on HBN.out)).mono ?_; rintro x wn ⟨rfl, hbn⟩; have hbx := HBN.out.trans (hbn.mono HBN.out.size); clear HBN hbn; have HBN := Lib.hid hbx; clear hbx))
  have HBE := Lib.hid (show Below g w wn from HBb.out.trans ((HBM.out.trans ((HB6.out.trans ((HB7.out.trans (HBN.out.mono (Nat.le_of_lt HLG.out))).mono (by omega))).mono HBM.out.size)).mono HGL.out))
  have HXGn := Lib.hid (HXG.out.below HBN.out HLG.out)
  have HXBn := Lib.hid (HXB7.out.below HBN.out (Nat.lt_trans hgbi HLG.out))
  obtain ⟨c0, f0⟩ := HXGn.out 0 _ rfl
  go_wp2_with fail
  clear c0 f0
  have HXG8 : Hid (BoxL (wn.setCell ⟨gi, 0, none⟩ (.int .i64 0)) gi [.int .i64 0, .int .i64 i1, .int .i64 i2, .int .i64 i3, .int .i64 i4, .int .i64 i5, .int .i64 i6, .int .i64 i7, .int .i64 i8, .int .i64 i9, .int .i64 i10]) := Lib.hid (HXGn.out.put 0 (.int .i64 0) (by simp))
  have HXB8 : Hid (BoxL (wn.setCell ⟨gi, 0, none⟩ (.int .i64 0)) gb [.int .i64 0, .int .i64 (fn : Nat), .int .i64 (bm : Nat), .int .i64 0, .int .i64 0, .int .i64 0, .int .i64 0, .int .i64 0, .int .i64 0, .int .i64 0, .int .i64 0, .int .i64 0, .int .i64 0, .int .i64 0, .int .i64 0, .int .i64 0, .int .i64 0]) := Lib.hid (HXBn.out.far (by omega) 0 (.int .i64 0))
  have HBN8 := Lib.hid ((HBN.out.mono (Nat.le_of_lt HLG.out)).setCell (p := ⟨gi, 0, none⟩) (Nat.le_refl gi) (.int .i64 0))
  have HBE8 := Lib.hid (HBE.out.setCell (p := ⟨gi, 0, none⟩) (show g ≤ gi by omega) (.int .i64 0))
  clear HXGn HXBn
  generalize wn.setCell ⟨gi, 0, none⟩ (.int .i64 0) = W8 at HXG8 HXB8 HBN8 HBE8 ⊢
  have z0 := (HXG8.out 0 _ rfl).1
  have z1 := (HXG8.out 1 _ rfl).1
  have z2 := (HXG8.out 2 _ rfl).1
  have z3 := (HXG8.out 3 _ rfl).1
  have z4 := (HXG8.out 4 _ rfl).1
  have z5 := (HXG8.out 5 _ rfl).1
  have z6 := (HXG8.out 6 _ rfl).1
  have z7 := (HXG8.out 7 _ rfl).1
  have z8 := (HXG8.out 8 _ rfl).1
  have z9 := (HXG8.out 9 _ rfl).1
  have z10 := (HXG8.out 10 _ rfl).1
  obtain ⟨y0, x0_⟩ := HXB8.out 0 _ rfl
  obtain ⟨y5, x5_⟩ := HXB8.out 5 _ rfl
  obtain ⟨y6, x6_⟩ := HXB8.out 6 _ rfl
  obtain ⟨y7, x7_⟩ := HXB8.out 7 _ rfl
  obtain ⟨y8, x8_⟩ := HXB8.out 8 _ rfl
  obtain ⟨y9, x9_⟩ := HXB8.out 9 _ rfl
  obtain ⟨y10, x10_⟩ := HXB8.out 10 _ rfl
  obtain ⟨y11, x11_⟩ := HXB8.out 11 _ rfl
  obtain ⟨y12, x12_⟩ := HXB8.out 12 _ rfl
  obtain ⟨y13, x13_⟩ := HXB8.out 13 _ rfl
  obtain ⟨y14, x14_⟩ := HXB8.out 14 _ rfl
  obtain ⟨y15, x15_⟩ := HXB8.out 15 _ rfl
  obtain ⟨y16, x16_⟩ := HXB8.out 16 _ rfl
  have k6 := (HC7.out _ HBN8.out).2.2.2.2.2.2.1
  go_region
  have HXF : Hid (BoxL (((((((((((((W8.setCell ⟨gb, 0, none⟩ (.int .i64 6)).setCell ⟨gb, 5, none⟩ (.int .i64 (k : Nat))).setCell ⟨gb, 6, none⟩ (.int .i64 0)).setCell ⟨gb, 7, none⟩ (.int .i64 i1)).setCell ⟨gb, 8, none⟩ (.int .i64 i2)).setCell ⟨gb, 9, none⟩ (.int .i64 i3)).setCell ⟨gb, 10, none⟩ (.int .i64 i4)).setCell ⟨gb, 11, none⟩ (.int .i64 i5)).setCell ⟨gb, 12, none⟩ (.int .i64 i6)).setCell ⟨gb, 13, none⟩ (.int .i64 i7)).setCell ⟨gb, 14, none⟩ (.int .i64 i8)).setCell ⟨gb, 15, none⟩ (.int .i64 i9)).setCell ⟨gb, 16, none⟩ (.int .i64 i10)).drew gb [.int .i64 6, .int .i64 (fn : Nat), .int .i64 (bm : Nat), .int .i64 0, .int .i64 0, .int .i64 (k : Nat), .int .i64 0, .int .i64 i1, .int .i64 i2, .int .i64 i3, .int .i64 i4, .int .i64 i5, .int .i64 i6, .int .i64 i7, .int .i64 i8, .int .i64 i9, .int .i64 i10]) := Lib.hid (((((((((((((HXB8.out.put 0 (.int .i64 6) (by simp)).put 5 (.int .i64 (k : Nat)) (by simp)).put 6 (.int .i64 0) (by simp)).put 7 (.int .i64 i1) (by simp)).put 8 (.int .i64 i2) (by simp)).put 9 (.int .i64 i3) (by simp)).put 10 (.int .i64 i4) (by simp)).put 11 (.int .i64 i5) (by simp)).put 12 (.int .i64 i6) (by simp)).put 13 (.int .i64 i7) (by simp)).put 14 (.int .i64 i8) (by simp)).put 15 (.int .i64 i9) (by simp)).put 16 (.int .i64 i10) (by simp)).drew
  have HB9 : Hid (Below gb W6 (((((((((((((W8.setCell ⟨gb, 0, none⟩ (.int .i64 6)).setCell ⟨gb, 5, none⟩ (.int .i64 (k : Nat))).setCell ⟨gb, 6, none⟩ (.int .i64 0)).setCell ⟨gb, 7, none⟩ (.int .i64 i1)).setCell ⟨gb, 8, none⟩ (.int .i64 i2)).setCell ⟨gb, 9, none⟩ (.int .i64 i3)).setCell ⟨gb, 10, none⟩ (.int .i64 i4)).setCell ⟨gb, 11, none⟩ (.int .i64 i5)).setCell ⟨gb, 12, none⟩ (.int .i64 i6)).setCell ⟨gb, 13, none⟩ (.int .i64 i7)).setCell ⟨gb, 14, none⟩ (.int .i64 i8)).setCell ⟨gb, 15, none⟩ (.int .i64 i9)).setCell ⟨gb, 16, none⟩ (.int .i64 i10)).drew) := Lib.hid (((((((((((((((HB7.out.trans HBN8.out).mono (Nat.le_of_lt hgbi)).setCell (p := ⟨gb, 0, none⟩) (Nat.le_refl gb) (.int .i64 6)).setCell (p := ⟨gb, 5, none⟩) (Nat.le_refl gb) (.int .i64 (k : Nat))).setCell (p := ⟨gb, 6, none⟩) (Nat.le_refl gb) (.int .i64 0)).setCell (p := ⟨gb, 7, none⟩) (Nat.le_refl gb) (.int .i64 i1)).setCell (p := ⟨gb, 8, none⟩) (Nat.le_refl gb) (.int .i64 i2)).setCell (p := ⟨gb, 9, none⟩) (Nat.le_refl gb) (.int .i64 i3)).setCell (p := ⟨gb, 10, none⟩) (Nat.le_refl gb) (.int .i64 i4)).setCell (p := ⟨gb, 11, none⟩) (Nat.le_refl gb) (.int .i64 i5)).setCell (p := ⟨gb, 12, none⟩) (Nat.le_refl gb) (.int .i64 i6)).setCell (p := ⟨gb, 13, none⟩) (Nat.le_refl gb) (.int .i64 i7)).setCell (p := ⟨gb, 14, none⟩) (Nat.le_refl gb) (.int .i64 i8)).setCell (p := ⟨gb, 15, none⟩) (Nat.le_refl gb) (.int .i64 i9)).setCell (p := ⟨gb, 16, none⟩) (Nat.le_refl gb) (.int .i64 i10)).drew
  have HE9 : Hid (Below g w (((((((((((((W8.setCell ⟨gb, 0, none⟩ (.int .i64 6)).setCell ⟨gb, 5, none⟩ (.int .i64 (k : Nat))).setCell ⟨gb, 6, none⟩ (.int .i64 0)).setCell ⟨gb, 7, none⟩ (.int .i64 i1)).setCell ⟨gb, 8, none⟩ (.int .i64 i2)).setCell ⟨gb, 9, none⟩ (.int .i64 i3)).setCell ⟨gb, 10, none⟩ (.int .i64 i4)).setCell ⟨gb, 11, none⟩ (.int .i64 i5)).setCell ⟨gb, 12, none⟩ (.int .i64 i6)).setCell ⟨gb, 13, none⟩ (.int .i64 i7)).setCell ⟨gb, 14, none⟩ (.int .i64 i8)).setCell ⟨gb, 15, none⟩ (.int .i64 i9)).setCell ⟨gb, 16, none⟩ (.int .i64 i10)).drew) := Lib.hid (((((((((((((HBE8.out.setCell (p := ⟨gb, 0, none⟩) HGM.out (.int .i64 6)).setCell (p := ⟨gb, 5, none⟩) HGM.out (.int .i64 (k : Nat))).setCell (p := ⟨gb, 6, none⟩) HGM.out (.int .i64 0)).setCell (p := ⟨gb, 7, none⟩) HGM.out (.int .i64 i1)).setCell (p := ⟨gb, 8, none⟩) HGM.out (.int .i64 i2)).setCell (p := ⟨gb, 9, none⟩) HGM.out (.int .i64 i3)).setCell (p := ⟨gb, 10, none⟩) HGM.out (.int .i64 i4)).setCell (p := ⟨gb, 11, none⟩) HGM.out (.int .i64 i5)).setCell (p := ⟨gb, 12, none⟩) HGM.out (.int .i64 i6)).setCell (p := ⟨gb, 13, none⟩) HGM.out (.int .i64 i7)).setCell (p := ⟨gb, 14, none⟩) HGM.out (.int .i64 i8)).setCell (p := ⟨gb, 15, none⟩) HGM.out (.int .i64 i9)).setCell (p := ⟨gb, 16, none⟩) HGM.out (.int .i64 i10)).drew
  clear HXB8 HXG8 HBN8 HBE8 z0 z1 z2 z3 z4 z5 z6 z7 z8 z9 z10 y0 x0_ y5 x5_ y6 x6_ y7 x7_ y8 x8_ y9 x9_ y10 x10_ y11 x11_ y12 x12_ y13 x13_ y14 x14_ y15 x15_ y16 x16_ k6
  generalize (((((((((((((W8.setCell ⟨gb, 0, none⟩ (.int .i64 6)).setCell ⟨gb, 5, none⟩ (.int .i64 (k : Nat))).setCell ⟨gb, 6, none⟩ (.int .i64 0)).setCell ⟨gb, 7, none⟩ (.int .i64 i1)).setCell ⟨gb, 8, none⟩ (.int .i64 i2)).setCell ⟨gb, 9, none⟩ (.int .i64 i3)).setCell ⟨gb, 10, none⟩ (.int .i64 i4)).setCell ⟨gb, 11, none⟩ (.int .i64 i5)).setCell ⟨gb, 12, none⟩ (.int .i64 i6)).setCell ⟨gb, 13, none⟩ (.int .i64 i7)).setCell ⟨gb, 14, none⟩ (.int .i64 i8)).setCell ⟨gb, 15, none⟩ (.int .i64 i9)).setCell ⟨gb, 16, none⟩ (.int .i64 i10)).drew = W9 at HXF HB9 HE9 ⊢
  go_wp2_with (first
    | ((with_reducible apply wpList_load_w (ty := 55) (b := gb) (o := 0) (cs := [.int .i64 6, .int .i64 (fn : Nat), .int .i64 (bm : Nat), .int .i64 0, .int .i64 0, .int .i64 (k : Nat), .int .i64 0, .int .i64 i1, .int .i64 i2, .int .i64 i3, .int .i64 i4, .int .i64 i5, .int .i64 i6, .int .i64 i7, .int .i64 i8, .int .i64 i9, .int .i64 i10])); rotate_left; rfl; rfl; exact HXF.out.range; exact Tryz.underlying55; rfl; kernel_rfl; rotate_left; rfl; simp only [Act.put, List.setIfInBounds_toArray, List.set_cons_zero, List.set_cons_succ])
    | ((with_reducible apply wpList_store_mid (ty := 55) (b := g + 1 + 1) (o := 0) (cells := #[.int .i64 6, .int .i64 (fn : Nat), .int .i64 (bm : Nat), .int .i64 0, .int .i64 0, .int .i64 (k : Nat), .int .i64 0, .int .i64 i1, .int .i64 i2, .int .i64 i3, .int .i64 i4, .int .i64 i5, .int .i64 i6, .int .i64 i7, .int .i64 i8, .int .i64 i9, .int .i64 i10])); rotate_left; rfl; rfl; rfl; exact (HC6.out _ HB9.out).2.2.2.2.2.2.2.2.there; kernel_rfl; simp [Value.oneCell']; rotate_left; rfl; simp only [Act.put]))
  refine bodyPost_ret (ret_box rfl _ _ (g + 1 + 1) [.int .i64 6, .int .i64 (fn : Nat), .int .i64 (bm : Nat), .int .i64 0, .int .i64 0, .int .i64 (k : Nat), .int .i64 0, .int .i64 i1, .int .i64 i2, .int .i64 i3, .int .i64 i4, .int .i64 i5, .int .i64 i6, .int .i64 i7, .int .i64 i8, .int .i64 i9, .int .i64 i10] _ _ rfl rfl ((HC6.out _ HB9.out).2.2.2.2.2.2.2.2.setAll _ rfl) Tryz.underlying55 rfl (by kernel_rfl)) rfl ⟨rfl, ?_⟩
  rw [hg]
  exact below_setCells (by omega) _ _ _ HE9.out
end Go.Proofs.YtbddjneinfkmpaaGreatDoor

namespace Go.Proofs.YtbddjneinfkmpaaGreatDoor
open Go Go.RowKit Go.Sort

/-- Undo, whole. -/
theorem Undo_any (p : Pg) (e : Ed) (w : World) (h : Rd w p) (hfew : p.few) (hwf : p.wf) :
    Calls Tryz.prog 51 #[p.val, e.val] w fun x w' => UndRes p e w w' x := by
  by_cases hc : chk p e = 0
  rotate_left
  · exact undoX p e w h hfew hwf hc
  have h7 := (chk_zero hc).2.1
  rcases (by omega : e.op = 0 ∨ e.op = 1 ∨ e.op = 2 ∨ e.op = 3 ∨ e.op = 4 ∨ e.op = 5 ∨ e.op = 6 ∨ e.op = 7) with ho | ho | ho | ho | ho | ho | ho | ho
  · exact undo0 p e w h hfew hwf hc ho
  · exact undo1 p e w h hfew hwf hc ho
  · exact undo2 p e w h hfew hwf hc ho
  · exact undo3 p e w h hfew hwf hc ho
  · exact undo4 p e w h hfew hwf hc ho
  · exact undo5 p e w h hfew hwf hc ho
  · exact undo6 p e w h hfew hwf hc ho
  · by_cases hid : (atR p e.f e.b e.pos).id = newId (appP p e)
    · exact undo7t p e w h hfew hwf hc ho hid
    · exact undo7f p e w h hfew hwf hc ho hid
end Go.Proofs.YtbddjneinfkmpaaGreatDoor
