/- ApplyOne: its walk. -/
import Derived.Test.YtbddjneinfkmpaaGreatDoorAppH
import Derived.Test.YtbddjneinfkmpaaGreatDoorSmG
import Derived.Test.YtbddjneinfkmpaaGreatDoorAwA
namespace Go.Proofs.YtbddjneinfkmpaaGreatDoor
open Go Go.RowKit Go.Sort

/-- A function by itself, laid in a new block, is a program. -/
theorem one_is (w : World) (f : Fd) (h : FdIs w.heap.size w f) (t : TypeId) : PgIs (w.alloc (.cells #[.int .i64 f.ar, .int .i64 f.vr, .slice f.ba f.blocks.length f.bc] t)).heap.size (w.alloc (.cells #[.int .i64 f.ar, .int .i64 f.vr, .slice f.ba f.blocks.length f.bc] t)) ⟨some ⟨w.heap.size, 0, none⟩, 1, [f]⟩ := fun j hj => by
  obtain rfl : j = 0 := by simpa using hj
  have hx := BoxL.new w [.int .i64 f.ar, .int .i64 f.vr, .slice f.ba f.blocks.length f.bc] t
  refine ⟨w.heap.size, 0, rfl, by rw [World.size_alloc]; omega, (hx 0 _ rfl).1, (hx 1 _ rfl).1, (hx 2 _ rfl).1, ?_⟩
  exact FdIs.on h (below1 w _)
theorem one_is2 (w : World) (o : Obj) (f : Fd) (h : FdIs w.heap.size w f) (t : TypeId) : PgIs ((w.alloc o).alloc (.cells #[.int .i64 f.ar, .int .i64 f.vr, .slice f.ba f.blocks.length f.bc] t)).heap.size ((w.alloc o).alloc (.cells #[.int .i64 f.ar, .int .i64 f.vr, .slice f.ba f.blocks.length f.bc] t)) ⟨some ⟨w.heap.size + 1, 0, none⟩, 1, [f]⟩ := by
  have h2 := one_is (w.alloc o) f (FdIs.on h (below1 w o)) t
  have e : (w.alloc o).heap.size = w.heap.size + 1 := World.size_alloc _ _
  rwa [e] at h2
theorem few_one {p : Pg} (h : p.few) (k : Nat) (a : Option Addr) (c : Nat) : (Pg.mk a c [fdAt p.funs k]).few := ⟨by simp, fun j hj => by
  obtain rfl : j = 0 := by simpa using hj
  exact h.f k⟩
theorem d_one {a a' : Option Addr} {c c' : Nat} {f f' : Fd} (h : f.d = f'.d) : (Pg.mk a c [f]).d = (Pg.mk a' c' [f']).d := by simp [Pg.d, h]
theorem one_facts {p q : Pg} {e : Ed} (hq : q.d = (appP p e).d) (hc : chk p e = 0) : ∃ tn : Nat, touE p e = [(tn : Int)] ∧ p.funs.length ≤ q.funs.length ∧ q.funs.length ≤ p.funs.length + 1 ∧ ∀ x, x < q.funs.length → x ≠ tn → x < p.funs.length ∧ (fdAt p.funs x).d = (fdAt q.funs x).d := by
  have hl := len_of_d hq
  have hd := fun x => fdAt_of_d hq x
  obtain ⟨c0, cn, -⟩ := app_counts hc
  by_cases h0 : e.op = 0
  · have := (c0 h0).1
    refine ⟨p.funs.length, by unfold touE; rw [if_pos hc, if_pos h0], by omega, by omega, fun x hx hne => ?_⟩
    have hxp : x < p.funs.length := by omega
    exact ⟨hxp, by rw [hd, app_other hc x hxp (.inl h0)]⟩
  · have := cn h0
    obtain ⟨n, hn, -⟩ := edit_fun hc h0
    refine ⟨n, by unfold touE; rw [if_pos hc, if_neg h0, hn], by omega, by omega, fun x hx hne => ?_⟩
    have hxp : x < p.funs.length := by omega
    exact ⟨hxp, by rw [hd, app_other hc x hxp (.inr (by omega))]⟩

set_option maxRecDepth 100000 in
set_option maxHeartbeats 16000000 in
theorem oneN (p : Pg) (e : Ed) (w : World) (h : Rd w p) (hfew : ¬ p.few) :
    Calls Tryz.prog 9 #[p.val, e.val] w fun x w' => x = .returned (.bool true) ∧ Below w.heap.size w w' := by
  have HAW := Lib.hid (fun wr (h : Rd wr p) => awake8_any wr h.2.1 h.2.2)
  have HFE := Lib.hid (fun wr (h : Rd wr p) => Few_any p wr h.1 false (by simp [hfew]))
  have HRD0 := Lib.hid h
  clear h hfew
  obtain ⟨op, f, b, tob, other, pos, ⟨id, kind, dst, a, b2, c, f2, n, x0, x1, x2⟩⟩ := e
  try dsimp only at *
  unfold Pg.val at HFE
  unfold Pg.val Ed.val
  try dsimp only at *
  obtain ⟨PL, hPL⟩ : ∃ PL, p.funs.length = PL := ⟨_, rfl⟩
  simp only [hPL] at HFE ⊢
  clear hPL
  have HBb := Lib.hid (below2 w (.cells #[.slice p.pa PL p.pc] 24) (.cells #[.int .i64 op, .int .i64 f, .int .i64 b, .int .i64 tob, .int .i64 other, .int .i64 pos, .int .i64 id, .int .i64 kind, .int .i64 dst, .int .i64 a, .int .i64 b2, .int .i64 c, .int .i64 f2, .int .i64 n, .int .i64 x0, .int .i64 x1, .int .i64 x2] 55))
  have hx0 := BoxL.new w [.slice p.pa PL p.pc] 24
  have HX0 := Lib.hid (show BoxL ((w.alloc (.cells #[.slice p.pa PL p.pc] 24)).alloc (.cells #[.int .i64 op, .int .i64 f, .int .i64 b, .int .i64 tob, .int .i64 other, .int .i64 pos, .int .i64 id, .int .i64 kind, .int .i64 dst, .int .i64 a, .int .i64 b2, .int .i64 c, .int .i64 f2, .int .i64 n, .int .i64 x0, .int .i64 x1, .int .i64 x2] 55)) (w.heap.size) [.slice p.pa PL p.pc] from (hx0).alloc (Nat.zero_lt_succ _) (.cells #[.int .i64 op, .int .i64 f, .int .i64 b, .int .i64 tob, .int .i64 other, .int .i64 pos, .int .i64 id, .int .i64 kind, .int .i64 dst, .int .i64 a, .int .i64 b2, .int .i64 c, .int .i64 f2, .int .i64 n, .int .i64 x0, .int .i64 x1, .int .i64 x2] 55))
  have hx1 := BoxL.new (w.alloc (.cells #[.slice p.pa PL p.pc] 24)) [.int .i64 op, .int .i64 f, .int .i64 b, .int .i64 tob, .int .i64 other, .int .i64 pos, .int .i64 id, .int .i64 kind, .int .i64 dst, .int .i64 a, .int .i64 b2, .int .i64 c, .int .i64 f2, .int .i64 n, .int .i64 x0, .int .i64 x1, .int .i64 x2] 55
  rw [World.size_alloc] at hx1
  have HX1 := Lib.hid (show BoxL ((w.alloc (.cells #[.slice p.pa PL p.pc] 24)).alloc (.cells #[.int .i64 op, .int .i64 f, .int .i64 b, .int .i64 tob, .int .i64 other, .int .i64 pos, .int .i64 id, .int .i64 kind, .int .i64 dst, .int .i64 a, .int .i64 b2, .int .i64 c, .int .i64 f2, .int .i64 n, .int .i64 x0, .int .i64 x1, .int .i64 x2] 55)) (w.heap.size + 1) [.int .i64 op, .int .i64 f, .int .i64 b, .int .i64 tob, .int .i64 other, .int .i64 pos, .int .i64 id, .int .i64 kind, .int .i64 dst, .int .i64 a, .int .i64 b2, .int .i64 c, .int .i64 f2, .int .i64 n, .int .i64 x0, .int .i64 x1, .int .i64 x2] from hx1)
  clear hx0 hx1
  have HRP := Lib.hid (HRD0.out.on HBb.out)
  generalize hW : ((w.alloc (.cells #[.slice p.pa PL p.pc] 24)).alloc (.cells #[.int .i64 op, .int .i64 f, .int .i64 b, .int .i64 tob, .int .i64 other, .int .i64 pos, .int .i64 id, .int .i64 kind, .int .i64 dst, .int .i64 a, .int .i64 b2, .int .i64 c, .int .i64 f2, .int .i64 n, .int .i64 x0, .int .i64 x1, .int .i64 x2] 55)) = W at HBb HX0 HX1 HRP
  obtain ⟨g, hg⟩ : ∃ g, w.heap.size = g := ⟨_, rfl⟩
  have HGL := Lib.hid HBb.out.size
  rw [hg] at HBb HGL HX0 HX1 ⊢
  have HL0 := Lib.hid (HX0.out.lt (Nat.zero_lt_succ _))
  have HL1 := Lib.hid (HX1.out.lt (Nat.zero_lt_succ _))
  have HC : Hid (∀ wr, Below W.heap.size W wr → wr.cell? ⟨g, 0, none⟩ = some (.slice p.pa PL p.pc) ∧ wr.rangeAt (g + 1) 0 [.int .i64 op, .int .i64 f, .int .i64 b, .int .i64 tob, .int .i64 other, .int .i64 pos, .int .i64 id, .int .i64 kind, .int .i64 dst, .int .i64 a, .int .i64 b2, .int .i64 c, .int .i64 f2, .int .i64 n, .int .i64 x0, .int .i64 x1, .int .i64 x2] ∧ True) := Lib.hid fun wr hb => ⟨((HX0.out.below hb HL0.out) 0 _ rfl).1, (HX1.out.below hb HL1.out).range, trivial⟩
  have HBN : Hid (Below W.heap.size W W) := Lib.hid (Below.refl _ _)
  obtain ⟨k0, -, -⟩ := HC.out _ HBN.out
  go_enter Tryz.func9, Tryz.ntmps9
  go_wp2_with (first
    | (go_at_call 47; refine (HAW.out _ (HRP.out.on HBN.out)).mono ?_; rintro x wa ⟨rfl, hbn⟩; have hbx := HBN.out.trans (hbn.mono HBN.out.size); clear HBN hbn k0; have HBN := Lib.hid hbx; clear hbx; obtain ⟨k0, -, -⟩ := HC.out _ HBN.out)
    | (go_at_call 14; refine (HFE.out _ (HRP.out.on HBN.out)).mono ?_; rintro x wb ⟨rfl, hbn⟩; have hbx := HBN.out.trans (hbn.mono HBN.out.size); clear HBN hbn k0; have HBN := Lib.hid hbx; clear hbx; obtain ⟨k0, -, -⟩ := HC.out _ HBN.out))
  go_ret
  exact ⟨rfl, HBb.out.trans (HBN.out.mono (by rw [← hg]; exact HBb.out.size))⟩

set_option maxRecDepth 100000 in
set_option maxHeartbeats 16000000 in
theorem oneS (p : Pg) (e : Ed) (w : World) (h : Rd w p) (hfew : p.few) (hs : ¬ p.sane) :
    Calls Tryz.prog 9 #[p.val, e.val] w fun x w' => x = .returned (.bool true) ∧ Below w.heap.size w w' := by
  have HAW := Lib.hid (fun wr (h : Rd wr p) => awake8_any wr h.2.1 h.2.2)
  have HFE := Lib.hid (fun wr (h : Rd wr p) => Few_any p wr h.1 true (by simp [hfew]))
  have HSA := Lib.hid (fun wr (h : Rd wr p) => Sane_any p wr h.1 h.2.1 h.2.2 hfew false (by simp [hs]))
  have HRD0 := Lib.hid h
  clear h hfew hs
  obtain ⟨op, f, b, tob, other, pos, ⟨id, kind, dst, a, b2, c, f2, n, x0, x1, x2⟩⟩ := e
  try dsimp only at *
  unfold Pg.val at HFE HSA
  unfold Pg.val Ed.val
  try dsimp only at *
  obtain ⟨PL, hPL⟩ : ∃ PL, p.funs.length = PL := ⟨_, rfl⟩
  simp only [hPL] at HFE HSA ⊢
  clear hPL
  have HBb := Lib.hid (below2 w (.cells #[.slice p.pa PL p.pc] 24) (.cells #[.int .i64 op, .int .i64 f, .int .i64 b, .int .i64 tob, .int .i64 other, .int .i64 pos, .int .i64 id, .int .i64 kind, .int .i64 dst, .int .i64 a, .int .i64 b2, .int .i64 c, .int .i64 f2, .int .i64 n, .int .i64 x0, .int .i64 x1, .int .i64 x2] 55))
  have hx0 := BoxL.new w [.slice p.pa PL p.pc] 24
  have HX0 := Lib.hid (show BoxL ((w.alloc (.cells #[.slice p.pa PL p.pc] 24)).alloc (.cells #[.int .i64 op, .int .i64 f, .int .i64 b, .int .i64 tob, .int .i64 other, .int .i64 pos, .int .i64 id, .int .i64 kind, .int .i64 dst, .int .i64 a, .int .i64 b2, .int .i64 c, .int .i64 f2, .int .i64 n, .int .i64 x0, .int .i64 x1, .int .i64 x2] 55)) (w.heap.size) [.slice p.pa PL p.pc] from (hx0).alloc (Nat.zero_lt_succ _) (.cells #[.int .i64 op, .int .i64 f, .int .i64 b, .int .i64 tob, .int .i64 other, .int .i64 pos, .int .i64 id, .int .i64 kind, .int .i64 dst, .int .i64 a, .int .i64 b2, .int .i64 c, .int .i64 f2, .int .i64 n, .int .i64 x0, .int .i64 x1, .int .i64 x2] 55))
  have hx1 := BoxL.new (w.alloc (.cells #[.slice p.pa PL p.pc] 24)) [.int .i64 op, .int .i64 f, .int .i64 b, .int .i64 tob, .int .i64 other, .int .i64 pos, .int .i64 id, .int .i64 kind, .int .i64 dst, .int .i64 a, .int .i64 b2, .int .i64 c, .int .i64 f2, .int .i64 n, .int .i64 x0, .int .i64 x1, .int .i64 x2] 55
  rw [World.size_alloc] at hx1
  have HX1 := Lib.hid (show BoxL ((w.alloc (.cells #[.slice p.pa PL p.pc] 24)).alloc (.cells #[.int .i64 op, .int .i64 f, .int .i64 b, .int .i64 tob, .int .i64 other, .int .i64 pos, .int .i64 id, .int .i64 kind, .int .i64 dst, .int .i64 a, .int .i64 b2, .int .i64 c, .int .i64 f2, .int .i64 n, .int .i64 x0, .int .i64 x1, .int .i64 x2] 55)) (w.heap.size + 1) [.int .i64 op, .int .i64 f, .int .i64 b, .int .i64 tob, .int .i64 other, .int .i64 pos, .int .i64 id, .int .i64 kind, .int .i64 dst, .int .i64 a, .int .i64 b2, .int .i64 c, .int .i64 f2, .int .i64 n, .int .i64 x0, .int .i64 x1, .int .i64 x2] from hx1)
  clear hx0 hx1
  have HRP := Lib.hid (HRD0.out.on HBb.out)
  generalize hW : ((w.alloc (.cells #[.slice p.pa PL p.pc] 24)).alloc (.cells #[.int .i64 op, .int .i64 f, .int .i64 b, .int .i64 tob, .int .i64 other, .int .i64 pos, .int .i64 id, .int .i64 kind, .int .i64 dst, .int .i64 a, .int .i64 b2, .int .i64 c, .int .i64 f2, .int .i64 n, .int .i64 x0, .int .i64 x1, .int .i64 x2] 55)) = W at HBb HX0 HX1 HRP
  obtain ⟨g, hg⟩ : ∃ g, w.heap.size = g := ⟨_, rfl⟩
  have HGL := Lib.hid HBb.out.size
  rw [hg] at HBb HGL HX0 HX1 ⊢
  have HL0 := Lib.hid (HX0.out.lt (Nat.zero_lt_succ _))
  have HL1 := Lib.hid (HX1.out.lt (Nat.zero_lt_succ _))
  have HC : Hid (∀ wr, Below W.heap.size W wr → wr.cell? ⟨g, 0, none⟩ = some (.slice p.pa PL p.pc) ∧ wr.rangeAt (g + 1) 0 [.int .i64 op, .int .i64 f, .int .i64 b, .int .i64 tob, .int .i64 other, .int .i64 pos, .int .i64 id, .int .i64 kind, .int .i64 dst, .int .i64 a, .int .i64 b2, .int .i64 c, .int .i64 f2, .int .i64 n, .int .i64 x0, .int .i64 x1, .int .i64 x2] ∧ True) := Lib.hid fun wr hb => ⟨((HX0.out.below hb HL0.out) 0 _ rfl).1, (HX1.out.below hb HL1.out).range, trivial⟩
  have HBN : Hid (Below W.heap.size W W) := Lib.hid (Below.refl _ _)
  obtain ⟨k0, -, -⟩ := HC.out _ HBN.out
  go_enter Tryz.func9, Tryz.ntmps9
  go_wp2_with (first
    | (go_at_call 47; refine (HAW.out _ (HRP.out.on HBN.out)).mono ?_; rintro x wa ⟨rfl, hbn⟩; have hbx := HBN.out.trans (hbn.mono HBN.out.size); clear HBN hbn k0; have HBN := Lib.hid hbx; clear hbx; obtain ⟨k0, -, -⟩ := HC.out _ HBN.out)
    | (go_at_call 14; refine (HFE.out _ (HRP.out.on HBN.out)).mono ?_; rintro x wb ⟨rfl, hbn⟩; have hbx := HBN.out.trans (hbn.mono HBN.out.size); clear HBN hbn k0; have HBN := Lib.hid hbx; clear hbx; obtain ⟨k0, -, -⟩ := HC.out _ HBN.out)
    | (go_at_call 23; refine (HSA.out _ (HRP.out.on HBN.out)).mono ?_; rintro x wc ⟨rfl, hbn⟩; have hbx := HBN.out.trans (hbn.mono HBN.out.size); clear HBN hbn k0; have HBN := Lib.hid hbx; clear hbx; obtain ⟨k0, -, -⟩ := HC.out _ HBN.out))
  go_ret
  exact ⟨rfl, HBb.out.trans (HBN.out.mono (by rw [← hg]; exact HBb.out.size))⟩

set_option maxRecDepth 100000 in
set_option maxHeartbeats 16000000 in
theorem oneE (p : Pg) (e : Ed) (w : World) (h : Rd w p) (hwf : p.wf) (hfew : p.few) (hs : p.sane) (hc : ¬ chk p e = 0) :
    Calls Tryz.prog 9 #[p.val, e.val] w fun x w' => x = .returned (.bool true) ∧ Below w.heap.size w w' := by
  have HAW := Lib.hid (fun wr (h : Rd wr p) => awake8_any wr h.2.1 h.2.2)
  have HFE := Lib.hid (fun wr (h : Rd wr p) => Few_any p wr h.1 true (by simp [hfew]))
  have HSA := Lib.hid (fun wr (h : Rd wr p) => Sane_any p wr h.1 h.2.1 h.2.2 hfew true (by simp [hs]))
  obtain ⟨er, her⟩ : ∃ er, chk p e = er := ⟨_, rfl⟩
  have hrb : (er != 0) = true := by simp only [bne, beq_false_of_ne (show er ≠ 0 from fun h => hc (her.trans h)), Bool.not_false]
  have hre : (er == 0) = false := beq_false_of_ne (show er ≠ 0 from fun h => hc (her.trans h))
  have htou : touE p e = [] := by unfold touE; rw [if_neg hc]
  have hsam : samE p e = false := by unfold samE; rw [decide_eq_false hc]; simp
  have HAP := Lib.hid (fun wr (h : Rd wr p) => Apply_any p e wr h hfew hwf)
  simp only [AppRes, her] at HAP
  have HSE := Lib.hid (fun wr (h : Rd wr p) => SameE_any p e wr h hfew _ hsam)
  have HTO := Lib.hid (fun wr (h : Rd wr p) => Touches_any p e wr h hfew [] htou)
  have HFA := Lib.hid (fun (q : Pg) (hq : q.d = (appP p e).d) => show p.funs.length ≤ q.funs.length ∧ q.funs.length ≤ p.funs.length ∧ ∀ x, x < q.funs.length → x < p.funs.length ∧ (fdAt p.funs x).d = (fdAt q.funs x).d from by
    rw [app_same hc] at hq
    have hl := len_of_d hq
    exact ⟨by omega, by omega, fun x hx => ⟨by omega, (fdAt_of_d hq x).symm⟩⟩)
  clear htou hsam
  have HFW := Lib.hid hfew
  have hlen10 := hfew.1
  have HRD0 := Lib.hid h
  clear h hfew hs hwf hc her
  obtain ⟨A0, hA0⟩ : ∃ A0, appP p e = A0 := ⟨_, rfl⟩
  simp only [hA0] at HAP HFA
  clear hA0
  obtain ⟨op, f, b, tob, other, pos, ⟨id, kind, dst, a, b2, c, f2, n, x0, x1, x2⟩⟩ := e
  try dsimp only at *
  unfold Pg.val at HFE HSA HAP HTO HSE
  unfold Ed.val at HAP HTO HSE
  unfold Pg.val Ed.val
  try dsimp only at *
  obtain ⟨PL, hPL⟩ : ∃ PL, p.funs.length = PL := ⟨_, rfl⟩
  simp only [hPL] at HFE HSA HAP HTO HSE hlen10 HFA ⊢
  have HPL := Lib.hid hPL
  clear hPL
  have HBb := Lib.hid (below2 w (.cells #[.slice p.pa PL p.pc] 24) (.cells #[.int .i64 op, .int .i64 f, .int .i64 b, .int .i64 tob, .int .i64 other, .int .i64 pos, .int .i64 id, .int .i64 kind, .int .i64 dst, .int .i64 a, .int .i64 b2, .int .i64 c, .int .i64 f2, .int .i64 n, .int .i64 x0, .int .i64 x1, .int .i64 x2] 55))
  have hx0 := BoxL.new w [.slice p.pa PL p.pc] 24
  have HX0 := Lib.hid (show BoxL ((w.alloc (.cells #[.slice p.pa PL p.pc] 24)).alloc (.cells #[.int .i64 op, .int .i64 f, .int .i64 b, .int .i64 tob, .int .i64 other, .int .i64 pos, .int .i64 id, .int .i64 kind, .int .i64 dst, .int .i64 a, .int .i64 b2, .int .i64 c, .int .i64 f2, .int .i64 n, .int .i64 x0, .int .i64 x1, .int .i64 x2] 55)) (w.heap.size) [.slice p.pa PL p.pc] from (hx0).alloc (Nat.zero_lt_succ _) (.cells #[.int .i64 op, .int .i64 f, .int .i64 b, .int .i64 tob, .int .i64 other, .int .i64 pos, .int .i64 id, .int .i64 kind, .int .i64 dst, .int .i64 a, .int .i64 b2, .int .i64 c, .int .i64 f2, .int .i64 n, .int .i64 x0, .int .i64 x1, .int .i64 x2] 55))
  have hx1 := BoxL.new (w.alloc (.cells #[.slice p.pa PL p.pc] 24)) [.int .i64 op, .int .i64 f, .int .i64 b, .int .i64 tob, .int .i64 other, .int .i64 pos, .int .i64 id, .int .i64 kind, .int .i64 dst, .int .i64 a, .int .i64 b2, .int .i64 c, .int .i64 f2, .int .i64 n, .int .i64 x0, .int .i64 x1, .int .i64 x2] 55
  rw [World.size_alloc] at hx1
  have HX1 := Lib.hid (show BoxL ((w.alloc (.cells #[.slice p.pa PL p.pc] 24)).alloc (.cells #[.int .i64 op, .int .i64 f, .int .i64 b, .int .i64 tob, .int .i64 other, .int .i64 pos, .int .i64 id, .int .i64 kind, .int .i64 dst, .int .i64 a, .int .i64 b2, .int .i64 c, .int .i64 f2, .int .i64 n, .int .i64 x0, .int .i64 x1, .int .i64 x2] 55)) (w.heap.size + 1) [.int .i64 op, .int .i64 f, .int .i64 b, .int .i64 tob, .int .i64 other, .int .i64 pos, .int .i64 id, .int .i64 kind, .int .i64 dst, .int .i64 a, .int .i64 b2, .int .i64 c, .int .i64 f2, .int .i64 n, .int .i64 x0, .int .i64 x1, .int .i64 x2] from hx1)
  clear hx0 hx1
  have HRP := Lib.hid (HRD0.out.on HBb.out)
  generalize hW : ((w.alloc (.cells #[.slice p.pa PL p.pc] 24)).alloc (.cells #[.int .i64 op, .int .i64 f, .int .i64 b, .int .i64 tob, .int .i64 other, .int .i64 pos, .int .i64 id, .int .i64 kind, .int .i64 dst, .int .i64 a, .int .i64 b2, .int .i64 c, .int .i64 f2, .int .i64 n, .int .i64 x0, .int .i64 x1, .int .i64 x2] 55)) = W at HBb HX0 HX1 HRP
  obtain ⟨g, hg⟩ : ∃ g, w.heap.size = g := ⟨_, rfl⟩
  have HGL := Lib.hid HBb.out.size
  rw [hg] at HBb HGL HX0 HX1 ⊢
  have HL0 := Lib.hid (HX0.out.lt (Nat.zero_lt_succ _))
  have HL1 := Lib.hid (HX1.out.lt (Nat.zero_lt_succ _))
  have HC : Hid (∀ wr, Below W.heap.size W wr → wr.cell? ⟨g, 0, none⟩ = some (.slice p.pa PL p.pc) ∧ wr.rangeAt (g + 1) 0 [.int .i64 op, .int .i64 f, .int .i64 b, .int .i64 tob, .int .i64 other, .int .i64 pos, .int .i64 id, .int .i64 kind, .int .i64 dst, .int .i64 a, .int .i64 b2, .int .i64 c, .int .i64 f2, .int .i64 n, .int .i64 x0, .int .i64 x1, .int .i64 x2] ∧ True) := Lib.hid fun wr hb => ⟨((HX0.out.below hb HL0.out) 0 _ rfl).1, (HX1.out.below hb HL1.out).range, trivial⟩
  have HBN : Hid (Below W.heap.size W W) := Lib.hid (Below.refl _ _)
  obtain ⟨k0, -, -⟩ := HC.out _ HBN.out
  go_enter Tryz.func9, Tryz.ntmps9
  go_upto_region 4 with (first
    | (go_at_call 47; refine (HAW.out _ (HRP.out.on HBN.out)).mono ?_; rintro x wa ⟨rfl, hbn⟩; have hbx := HBN.out.trans (hbn.mono HBN.out.size); clear HBN hbn k0; have HBN := Lib.hid hbx; clear hbx; obtain ⟨k0, -, -⟩ := HC.out _ HBN.out)
    | (go_at_call 14; refine (HFE.out _ (HRP.out.on HBN.out)).mono ?_; rintro x wb ⟨rfl, hbn⟩; have hbx := HBN.out.trans (hbn.mono HBN.out.size); clear HBN hbn k0; have HBN := Lib.hid hbx; clear hbx; obtain ⟨k0, -, -⟩ := HC.out _ HBN.out)
    | (go_at_call 23; refine (HSA.out _ (HRP.out.on HBN.out)).mono ?_; rintro x wc ⟨rfl, hbn⟩; have hbx := HBN.out.trans (hbn.mono HBN.out.size); clear HBN hbn k0; have HBN := Lib.hid hbx; clear hbx; obtain ⟨k0, -, -⟩ := HC.out _ HBN.out))
  go_upto_region 5 with (first
    | (go_at_call 49; refine (HAP.out _ (HRP.out.on HBN.out)).mono ?_; rintro x we ⟨q, rfl, hqi, -, hqd, hbn⟩; have HQI := Lib.hid hqi; have HQD := Lib.hid hqd; clear hqi hqd; have hbx := HBN.out.trans (hbn.mono HBN.out.size); clear HBN hbn k0; have HBN := Lib.hid hbx; clear hbx; obtain ⟨k0, -, -⟩ := HC.out _ HBN.out)
    | ((with_reducible apply wpList_load_w (ty := 55) (b := g + 1) (o := 0) (cs := [.int .i64 op, .int .i64 f, .int .i64 b, .int .i64 tob, .int .i64 other, .int .i64 pos, .int .i64 id, .int .i64 kind, .int .i64 dst, .int .i64 a, .int .i64 b2, .int .i64 c, .int .i64 f2, .int .i64 n, .int .i64 x0, .int .i64 x1, .int .i64 x2])); rotate_left; rfl; rfl; exact (HC.out _ HBN.out).2.1; exact Tryz.underlying55; rfl; kernel_rfl; rotate_left; rfl; simp only [Act.put, List.setIfInBounds_toArray, List.set_cons_zero, List.set_cons_succ]))
  obtain ⟨QL, hQL⟩ : ∃ QL, q.funs.length = QL := ⟨_, rfl⟩
  have HQL := Lib.hid hQL
  have hfa := HFA.out q HQD.out
  simp only [hQL] at hfa ⊢
  clear hQL HFA
  obtain ⟨hf1, hf2, hf3⟩ := hfa
  have HO := Lib.hid (fun x hx (_ : True) => hf3 x hx)
  clear hf3
  have hb_ := below1 we (.cells #[.slice q.pa QL q.pc] 24)
  have HXgq : Hid (BoxL (we.alloc (.cells #[.slice q.pa QL q.pc] 24)) we.heap.size [.slice q.pa QL q.pc]) := Lib.hid (BoxL.new we _ _)
  have HRQ := Lib.hid (show Rd (we.alloc (.cells #[.slice q.pa QL q.pc] 24)) q from (show Rd we q from ⟨HQI.out, (HRP.out.on HBN.out).2.1, (HRP.out.on HBN.out).2.2⟩).on hb_)
  have HBM := Lib.hid (HBN.out.trans (hb_.mono HBN.out.size))
  clear hb_ HBN k0
  generalize we.alloc (.cells #[.slice q.pa QL q.pc] 24) = W5 at *
  generalize we.heap.size = gq at *
  have HLgq := Lib.hid (HXgq.out.lt (Nat.zero_lt_succ _))
  replace HRP := Lib.hid (HRP.out.on HBM.out)
  have HBW1 := Lib.hid (HBb.out.trans (HBM.out.mono (by rw [← hg]; exact HBb.out.size)))
  have HC1 : Hid (∀ wr, Below W5.heap.size W5 wr → wr.cell? ⟨g, 0, none⟩ = some (.slice p.pa PL p.pc) ∧ wr.rangeAt (g + 1) 0 [.int .i64 op, .int .i64 f, .int .i64 b, .int .i64 tob, .int .i64 other, .int .i64 pos, .int .i64 id, .int .i64 kind, .int .i64 dst, .int .i64 a, .int .i64 b2, .int .i64 c, .int .i64 f2, .int .i64 n, .int .i64 x0, .int .i64 x1, .int .i64 x2] ∧ wr.cell? ⟨gq, 0, none⟩ = some (.slice q.pa QL q.pc) ∧ True) := Lib.hid fun wr hb => have h := HC.out wr (HBM.out.trans (hb.mono HBM.out.size)); ⟨h.1, h.2.1, ((HXgq.out.below hb HLgq.out) 0 _ rfl).1, trivial⟩
  clear HC HBM
  have HBN : Hid (Below W5.heap.size W5 W5) := Lib.hid (Below.refl _ _)
  obtain ⟨k0, -, k2, -⟩ := HC1.out _ HBN.out
  go_upto_region 6 with (first
    | (go_at_call 41; refine (HTO.out _ (HRP.out.on HBN.out)).mono ?_; rintro x wt ⟨⟨ta, rfl, hti⟩, hbn⟩; have HTI := Lib.hid hti; clear hti; have hbx := HBN.out.trans (hbn.mono HBN.out.size); clear HBN hbn k0 k2; have HBN := Lib.hid hbx; clear hbx; obtain ⟨k0, -, k2, -⟩ := HC1.out _ HBN.out)
    | ((with_reducible apply wpList_load_w (ty := 55) (b := g + 1) (o := 0) (cs := [.int .i64 op, .int .i64 f, .int .i64 b, .int .i64 tob, .int .i64 other, .int .i64 pos, .int .i64 id, .int .i64 kind, .int .i64 dst, .int .i64 a, .int .i64 b2, .int .i64 c, .int .i64 f2, .int .i64 n, .int .i64 x0, .int .i64 x1, .int .i64 x2])); rotate_left; rfl; rfl; exact (HC1.out _ HBN.out).2.1; exact Tryz.underlying55; rfl; kernel_rfl; rotate_left; rfl; simp only [Act.put, List.setIfInBounds_toArray, List.set_cons_zero, List.set_cons_succ]))
  have HB6 := Lib.hid (HBW1.out.trans (HBN.out.mono (by rw [← hg]; exact HBW1.out.size)))
  generalize wt = W6 at *
  have HC6 : Hid (∀ wr, Below W6.heap.size W6 wr → wr.cell? ⟨g, 0, none⟩ = some (.slice p.pa PL p.pc) ∧ wr.rangeAt (g + 1) 0 [.int .i64 op, .int .i64 f, .int .i64 b, .int .i64 tob, .int .i64 other, .int .i64 pos, .int .i64 id, .int .i64 kind, .int .i64 dst, .int .i64 a, .int .i64 b2, .int .i64 c, .int .i64 f2, .int .i64 n, .int .i64 x0, .int .i64 x1, .int .i64 x2] ∧ wr.cell? ⟨gq, 0, none⟩ = some (.slice q.pa QL q.pc) ∧ True) := Lib.hid fun wr hb => HC1.out wr (HBN.out.trans (hb.mono HBN.out.size))
  have HRP6 := Lib.hid (HRP.out.on HBN.out)
  have HRQ6 := Lib.hid (HRQ.out.on HBN.out)
  have HTL := Lib.hid trivial
  clear HBN HTI k0 k2
  have HBN : Hid (Below W6.heap.size W6 W6) := Lib.hid (Below.refl _ _)
  obtain ⟨k0, -, k2, -⟩ := HC6.out _ HBN.out
  have hd1 : decide (QL < PL) = false := decide_eq_false (by omega)
  have hd2 : decide ((PL : Int) + 1 < (QL : Int)) = false := decide_eq_false (by omega)
  go_wp2_with fail
  go_loopw [9] (fun i wr => ∃ x : Nat, x ≤ QL ∧ i = .int .i64 x ∧ Hid (Below W6.heap.size W6 wr)) (fun i _ => QL - (intOf i).toNat)
  case atStart => exact ⟨0, Nat.zero_le _, rfl, Below.refl _ _⟩
  case round =>
    obtain ⟨x, hx, rfl, HBR⟩ := hrel
    clear k0 k2
    obtain ⟨k0, -, k2, -⟩ := HC6.out _ HBR.out
    by_cases hlt : x < QL
    rotate_left
    · have hxe : QL = x := by omega
      subst hxe
      have hxi : ¬ ((QL : Int) < (QL : Int)) := by omega
      go_wp2_with (first
        | (go_at_call 43; refine (HSE.out _ (HRP6.out.on HBR.out)).mono ?_; rintro x_ ws ⟨rfl, hbn⟩; have hbx := HBR.out.trans (hbn.mono HBR.out.size); clear HBR hbn k0 k2; have HBR := Lib.hid hbx; clear hbx; obtain ⟨k0, -, k2, -⟩ := HC6.out _ HBR.out)
        | ((with_reducible apply wpList_load_w (ty := 55) (b := g + 1) (o := 0) (cs := [.int .i64 op, .int .i64 f, .int .i64 b, .int .i64 tob, .int .i64 other, .int .i64 pos, .int .i64 id, .int .i64 kind, .int .i64 dst, .int .i64 a, .int .i64 b2, .int .i64 c, .int .i64 f2, .int .i64 n, .int .i64 x0, .int .i64 x1, .int .i64 x2])); rotate_left; rfl; rfl; exact (HC6.out _ HBR.out).2.1; exact Tryz.underlying55; rfl; kernel_rfl; rotate_left; rfl; simp only [Act.put, List.setIfInBounds_toArray, List.set_cons_zero, List.set_cons_succ]))
      go_ret
      exact ⟨rfl, HB6.out.trans (HBR.out.mono (by rw [← hg]; exact HB6.out.size))⟩
    have hxi : (x : Int) < (QL : Int) := by omega
    have hxq : x < q.funs.length := by rw [HQL.out]; exact hlt
    obtain ⟨hxp, hxd⟩ := HO.out x hlt trivial
    have hxpi : (x : Int) < (PL : Int) := by omega
    have hxd1 : decide ((PL : Int) ≤ (x : Int)) = false := decide_eq_false (by omega)
    have hxd2 : decide (PL ≤ x) = false := decide_eq_false (by omega)
    have hxpl : x < p.funs.length := by rw [HPL.out]; exact hxp
    have hRP := HRP6.out.on HBR.out
    have hRQ := HRQ6.out.on HBR.out
    obtain ⟨pb, po, hpa, hpb, c0, c1, c2, hfp⟩ := hRP.1 x hxpl
    obtain ⟨qb, qo, hqa, hqb, d0, d1, d2, hfq⟩ := hRQ.1 x hxq
    have hfw1 := few_one HFW.out x
    obtain ⟨fp, hfpe⟩ : ∃ f, fdAt p.funs x = f := ⟨_, rfl⟩
    obtain ⟨fq, hfqe⟩ : ∃ f, fdAt q.funs x = f := ⟨_, rfl⟩
    rw [hfpe] at c0 c1 c2 hfp hxd hfw1
    rw [hfqe] at d0 d1 d2 hfq hxd
    clear hfpe hfqe
    have HFP := Lib.hid hfp
    have HFQ := Lib.hid hfq
    have HXD := Lib.hid hxd
    have HF1 := Lib.hid hfw1
    obtain ⟨ar, vr, ba, bc, bl⟩ := fp
    obtain ⟨ar2, vr2, ba2, bc2, bl2⟩ := fq
    dsimp only at c0 c1 c2 d0 d1 d2
    have HSF : Hid (∀ w', Below wr.heap.size wr w' → w'.cell? ⟨g, 0, none⟩ = some (.slice (some ⟨pb, po, none⟩) PL p.pc) ∧ w'.cell? ⟨gq, 0, none⟩ = some (.slice (some ⟨qb, qo, none⟩) QL q.pc) ∧ w'.cell? ⟨pb, po + x * 3, none⟩ = some (.int .i64 ar) ∧ w'.cell? ⟨pb, po + x * 3 + 1, none⟩ = some (.int .i64 vr) ∧ w'.cell? ⟨pb, po + x * 3 + 2, none⟩ = some (.slice ba bl.length bc) ∧ w'.cell? ⟨qb, qo + x * 3, none⟩ = some (.int .i64 ar2) ∧ w'.cell? ⟨qb, qo + x * 3 + 1, none⟩ = some (.int .i64 vr2) ∧ w'.cell? ⟨qb, qo + x * 3 + 2, none⟩ = some (.slice ba2 bl2.length bc2)) := Lib.hid fun w' hb => ⟨by rw [← hpa]; exact (HC6.out w' (HBR.out.trans (hb.mono HBR.out.size))).1, by rw [← hqa]; exact (HC6.out w' (HBR.out.trans (hb.mono HBR.out.size))).2.2.1, (hb.cell (p := ⟨pb, po + x * 3, none⟩) hpb).trans c0, (hb.cell (p := ⟨pb, po + x * 3 + 1, none⟩) hpb).trans c1, (hb.cell (p := ⟨pb, po + x * 3 + 2, none⟩) hpb).trans c2, (hb.cell (p := ⟨qb, qo + x * 3, none⟩) hqb).trans d0, (hb.cell (p := ⟨qb, qo + x * 3 + 1, none⟩) hqb).trans d1, (hb.cell (p := ⟨qb, qo + x * 3 + 2, none⟩) hqb).trans d2⟩
    clear hfp hfq hxd hfw1 c0 c1 c2 d0 d1 d2 hpb hqb hpa hqa
    have HB1o := Lib.hid (show Below wr.heap.size wr ((wr.alloc (.cells #[.int .i64 ar, .int .i64 vr, .slice ba bl.length bc] 29)).alloc (.cells #[.int .i64 ar2, .int .i64 vr2, .slice ba2 bl2.length bc2] 29)).drew from (below2 wr (.cells #[.int .i64 ar, .int .i64 vr, .slice ba bl.length bc] 29) (.cells #[.int .i64 ar2, .int .i64 vr2, .slice ba2 bl2.length bc2] 29)).drew)
    have HB2o := Lib.hid (show Below wr.heap.size wr ((wr.alloc (.cells #[.int .i64 ar2, .int .i64 vr2, .slice ba2 bl2.length bc2] 29)).alloc (.cells #[.int .i64 ar, .int .i64 vr, .slice ba bl.length bc] 29)).drew from (below2 wr (.cells #[.int .i64 ar2, .int .i64 vr2, .slice ba2 bl2.length bc2] 29) (.cells #[.int .i64 ar, .int .i64 vr, .slice ba bl.length bc] 29)).drew)
    have HSO1 := Lib.hid (show Calls Tryz.prog 57 #[.agg #[.slice (some ⟨wr.heap.size, 0, none⟩) 1 1], .agg #[.slice (some ⟨wr.heap.size + 1, 0, none⟩) 1 1]] ((wr.alloc (.cells #[.int .i64 ar, .int .i64 vr, .slice ba bl.length bc] 29)).alloc (.cells #[.int .i64 ar2, .int .i64 vr2, .slice ba2 bl2.length bc2] 29)).drew fun e w' => e = .returned (.bool true) ∧ Below ((wr.alloc (.cells #[.int .i64 ar, .int .i64 vr, .slice ba bl.length bc] 29)).alloc (.cells #[.int .i64 ar2, .int .i64 vr2, .slice ba2 bl2.length bc2] 29)).drew.heap.size ((wr.alloc (.cells #[.int .i64 ar, .int .i64 vr, .slice ba bl.length bc] 29)).alloc (.cells #[.int .i64 ar2, .int .i64 vr2, .slice ba2 bl2.length bc2] 29)).drew w' from
      Same_any ⟨some ⟨wr.heap.size, 0, none⟩, 1, [⟨ar, vr, ba, bc, bl⟩]⟩ ⟨some ⟨wr.heap.size + 1, 0, none⟩, 1, [⟨ar2, vr2, ba2, bc2, bl2⟩]⟩ _ ((one_is wr _ HFP.out 29).on (below1 _ _).drew) ((one_is2 wr (.cells #[.int .i64 ar, .int .i64 vr, .slice ba bl.length bc] 29) _ HFQ.out 29).on (Below.refl _ _).drew) (HF1.out _ _) true (iff_of_true rfl (d_one HXD.out)))
    have HSO2 := Lib.hid (show Calls Tryz.prog 57 #[.agg #[.slice (some ⟨wr.heap.size + 1, 0, none⟩) 1 1], .agg #[.slice (some ⟨wr.heap.size, 0, none⟩) 1 1]] ((wr.alloc (.cells #[.int .i64 ar2, .int .i64 vr2, .slice ba2 bl2.length bc2] 29)).alloc (.cells #[.int .i64 ar, .int .i64 vr, .slice ba bl.length bc] 29)).drew fun e w' => e = .returned (.bool true) ∧ Below ((wr.alloc (.cells #[.int .i64 ar2, .int .i64 vr2, .slice ba2 bl2.length bc2] 29)).alloc (.cells #[.int .i64 ar, .int .i64 vr, .slice ba bl.length bc] 29)).drew.heap.size ((wr.alloc (.cells #[.int .i64 ar2, .int .i64 vr2, .slice ba2 bl2.length bc2] 29)).alloc (.cells #[.int .i64 ar, .int .i64 vr, .slice ba bl.length bc] 29)).drew w' from
      Same_any ⟨some ⟨wr.heap.size + 1, 0, none⟩, 1, [⟨ar, vr, ba, bc, bl⟩]⟩ ⟨some ⟨wr.heap.size, 0, none⟩, 1, [⟨ar2, vr2, ba2, bc2, bl2⟩]⟩ _ ((one_is2 wr (.cells #[.int .i64 ar2, .int .i64 vr2, .slice ba2 bl2.length bc2] 29) _ HFP.out 29).on (Below.refl _ _).drew) ((one_is wr _ HFQ.out 29).on (below1 _ _).drew) (HF1.out _ _) true (iff_of_true rfl (d_one HXD.out)))
    clear k0 k2
    obtain ⟨k0, k2⟩ : wr.cell? ⟨g, 0, none⟩ = some (.slice (some ⟨pb, po, none⟩) PL p.pc) ∧ wr.cell? ⟨gq, 0, none⟩ = some (.slice (some ⟨qb, qo, none⟩) QL q.pc) := by
      have h := HSF.out _ (Below.refl _ _)
      exact ⟨h.1, h.2.1⟩
    go_wp2_with fail
    clear k0 k2
    have HBN : Hid (Below wr.heap.size wr wr.drew) := Lib.hid (Below.refl _ _).drew
    go_region_held3 (fun w' => w'.cell? ⟨g, 0, none⟩ = some (.slice (some ⟨pb, po, none⟩) PL p.pc) ∧ w'.cell? ⟨gq, 0, none⟩ = some (.slice (some ⟨qb, qo, none⟩) QL q.pc) ∧ w'.cell? ⟨pb, po + x * 3, none⟩ = some (.int .i64 ar) ∧ w'.cell? ⟨pb, po + x * 3 + 1, none⟩ = some (.int .i64 vr) ∧ w'.cell? ⟨pb, po + x * 3 + 2, none⟩ = some (.slice ba bl.length bc) ∧ w'.cell? ⟨qb, qo + x * 3, none⟩ = some (.int .i64 ar2) ∧ w'.cell? ⟨qb, qo + x * 3 + 1, none⟩ = some (.int .i64 vr2) ∧ w'.cell? ⟨qb, qo + x * 3 + 2, none⟩ = some (.slice ba2 bl2.length bc2))
      (first | exact HSF.out _ HBN.out | exact HSF.out _ (HBN.out.alloc HBN.out.size _) | exact HSF.out _ ((HBN.out.alloc HBN.out.size _).alloc (HBN.out.alloc HBN.out.size _).size _))
      (first
        | (go_at_call 57; with_reducible refine HSO1.out.mono ?_; rintro x_ wn ⟨rfl, hbn⟩; have hbx := HB1o.out.trans (hbn.mono HB1o.out.size); clear HBN hbn; have HBN := Lib.hid hbx; clear hbx)
        | (go_at_call 57; with_reducible refine HSO2.out.mono ?_; rintro x_ wn ⟨rfl, hbn⟩; have hbx := HB2o.out.trans (hbn.mono HB2o.out.size); clear HBN hbn; have HBN := Lib.hid hbx; clear hbx))
    all_goals
      go_wp2_with fail
      go_roundw
      case rel => exact ⟨x + 1, by omega, by go_num, Lib.hid (HBR.out.trans (HBN.out.mono HBR.out.size))⟩
      case measure => simp [intOf]; omega

set_option maxRecDepth 100000 in
set_option maxHeartbeats 16000000 in
theorem oneT (p : Pg) (e : Ed) (w : World) (h : Rd w p) (hwf : p.wf) (hfew : p.few) (hs : p.sane) (hc : chk p e = 0) (hsm : e.op = 5 ∧ e.other = e.tob) (hsam : samE p e = true) :
    Calls Tryz.prog 9 #[p.val, e.val] w fun x w' => x = .returned (.bool true) ∧ Below w.heap.size w w' := by
  have HAW := Lib.hid (fun wr (h : Rd wr p) => awake8_any wr h.2.1 h.2.2)
  have HFE := Lib.hid (fun wr (h : Rd wr p) => Few_any p wr h.1 true (by simp [hfew]))
  have HSA := Lib.hid (fun wr (h : Rd wr p) => Sane_any p wr h.1 h.2.1 h.2.2 hfew true (by simp [hs]))
  have her := hc
  have HAP := Lib.hid (fun wr (h : Rd wr p) => Apply_any p e wr h hfew hwf)
  simp only [AppRes, her] at HAP
  have HSE := Lib.hid (fun wr (h : Rd wr p) => SameE_any p e wr h hfew _ hsam)
  have HTO := Lib.hid (fun wr (h : Rd wr p) l hl => Touches_any p e wr h hfew l hl)
  have HFA := Lib.hid (fun (q : Pg) (hq : q.d = (appP p e).d) => one_facts hq hc)
  have HSM := Lib.hid (fun wr (h : Rd wr p) (q : Pg) (hr : PgIs wr.heap.size wr q) (hd : q.d = (appP p e).d) => Same_any p q wr h.1 hr hfew true (iff_of_true rfl (by rw [hd]; exact (app_same_iff hc hsm.1 hsm.2).symm)))
  clear hsam hsm
  have HFW := Lib.hid hfew
  have hlen10 := hfew.1
  have HRD0 := Lib.hid h
  clear h hfew hs hwf hc her
  obtain ⟨tl, htl⟩ : ∃ l, touE p e = l := ⟨_, rfl⟩
  rw [htl] at HTO
  simp only [htl] at HFA
  obtain ⟨A0, hA0⟩ : ∃ A0, appP p e = A0 := ⟨_, rfl⟩
  simp only [hA0] at HAP HFA HSM
  clear hA0 htl
  obtain ⟨op, f, b, tob, other, pos, ⟨id, kind, dst, a, b2, c, f2, n, x0, x1, x2⟩⟩ := e
  try dsimp only at *
  unfold Pg.val at HFE HSA HAP HTO HSE HSM
  unfold Ed.val at HAP HTO HSE
  unfold Pg.val Ed.val
  try dsimp only at *
  obtain ⟨PL, hPL⟩ : ∃ PL, p.funs.length = PL := ⟨_, rfl⟩
  simp only [hPL] at HFE HSA HAP HTO HSE HSM hlen10 HFA ⊢
  have HPL := Lib.hid hPL
  clear hPL
  have HBb := Lib.hid (below2 w (.cells #[.slice p.pa PL p.pc] 24) (.cells #[.int .i64 op, .int .i64 f, .int .i64 b, .int .i64 tob, .int .i64 other, .int .i64 pos, .int .i64 id, .int .i64 kind, .int .i64 dst, .int .i64 a, .int .i64 b2, .int .i64 c, .int .i64 f2, .int .i64 n, .int .i64 x0, .int .i64 x1, .int .i64 x2] 55))
  have hx0 := BoxL.new w [.slice p.pa PL p.pc] 24
  have HX0 := Lib.hid (show BoxL ((w.alloc (.cells #[.slice p.pa PL p.pc] 24)).alloc (.cells #[.int .i64 op, .int .i64 f, .int .i64 b, .int .i64 tob, .int .i64 other, .int .i64 pos, .int .i64 id, .int .i64 kind, .int .i64 dst, .int .i64 a, .int .i64 b2, .int .i64 c, .int .i64 f2, .int .i64 n, .int .i64 x0, .int .i64 x1, .int .i64 x2] 55)) (w.heap.size) [.slice p.pa PL p.pc] from (hx0).alloc (Nat.zero_lt_succ _) (.cells #[.int .i64 op, .int .i64 f, .int .i64 b, .int .i64 tob, .int .i64 other, .int .i64 pos, .int .i64 id, .int .i64 kind, .int .i64 dst, .int .i64 a, .int .i64 b2, .int .i64 c, .int .i64 f2, .int .i64 n, .int .i64 x0, .int .i64 x1, .int .i64 x2] 55))
  have hx1 := BoxL.new (w.alloc (.cells #[.slice p.pa PL p.pc] 24)) [.int .i64 op, .int .i64 f, .int .i64 b, .int .i64 tob, .int .i64 other, .int .i64 pos, .int .i64 id, .int .i64 kind, .int .i64 dst, .int .i64 a, .int .i64 b2, .int .i64 c, .int .i64 f2, .int .i64 n, .int .i64 x0, .int .i64 x1, .int .i64 x2] 55
  rw [World.size_alloc] at hx1
  have HX1 := Lib.hid (show BoxL ((w.alloc (.cells #[.slice p.pa PL p.pc] 24)).alloc (.cells #[.int .i64 op, .int .i64 f, .int .i64 b, .int .i64 tob, .int .i64 other, .int .i64 pos, .int .i64 id, .int .i64 kind, .int .i64 dst, .int .i64 a, .int .i64 b2, .int .i64 c, .int .i64 f2, .int .i64 n, .int .i64 x0, .int .i64 x1, .int .i64 x2] 55)) (w.heap.size + 1) [.int .i64 op, .int .i64 f, .int .i64 b, .int .i64 tob, .int .i64 other, .int .i64 pos, .int .i64 id, .int .i64 kind, .int .i64 dst, .int .i64 a, .int .i64 b2, .int .i64 c, .int .i64 f2, .int .i64 n, .int .i64 x0, .int .i64 x1, .int .i64 x2] from hx1)
  clear hx0 hx1
  have HRP := Lib.hid (HRD0.out.on HBb.out)
  generalize hW : ((w.alloc (.cells #[.slice p.pa PL p.pc] 24)).alloc (.cells #[.int .i64 op, .int .i64 f, .int .i64 b, .int .i64 tob, .int .i64 other, .int .i64 pos, .int .i64 id, .int .i64 kind, .int .i64 dst, .int .i64 a, .int .i64 b2, .int .i64 c, .int .i64 f2, .int .i64 n, .int .i64 x0, .int .i64 x1, .int .i64 x2] 55)) = W at HBb HX0 HX1 HRP
  obtain ⟨g, hg⟩ : ∃ g, w.heap.size = g := ⟨_, rfl⟩
  have HGL := Lib.hid HBb.out.size
  rw [hg] at HBb HGL HX0 HX1 ⊢
  have HL0 := Lib.hid (HX0.out.lt (Nat.zero_lt_succ _))
  have HL1 := Lib.hid (HX1.out.lt (Nat.zero_lt_succ _))
  have HC : Hid (∀ wr, Below W.heap.size W wr → wr.cell? ⟨g, 0, none⟩ = some (.slice p.pa PL p.pc) ∧ wr.rangeAt (g + 1) 0 [.int .i64 op, .int .i64 f, .int .i64 b, .int .i64 tob, .int .i64 other, .int .i64 pos, .int .i64 id, .int .i64 kind, .int .i64 dst, .int .i64 a, .int .i64 b2, .int .i64 c, .int .i64 f2, .int .i64 n, .int .i64 x0, .int .i64 x1, .int .i64 x2] ∧ True) := Lib.hid fun wr hb => ⟨((HX0.out.below hb HL0.out) 0 _ rfl).1, (HX1.out.below hb HL1.out).range, trivial⟩
  have HBN : Hid (Below W.heap.size W W) := Lib.hid (Below.refl _ _)
  obtain ⟨k0, -, -⟩ := HC.out _ HBN.out
  go_enter Tryz.func9, Tryz.ntmps9
  go_upto_region 4 with (first
    | (go_at_call 47; refine (HAW.out _ (HRP.out.on HBN.out)).mono ?_; rintro x wa ⟨rfl, hbn⟩; have hbx := HBN.out.trans (hbn.mono HBN.out.size); clear HBN hbn k0; have HBN := Lib.hid hbx; clear hbx; obtain ⟨k0, -, -⟩ := HC.out _ HBN.out)
    | (go_at_call 14; refine (HFE.out _ (HRP.out.on HBN.out)).mono ?_; rintro x wb ⟨rfl, hbn⟩; have hbx := HBN.out.trans (hbn.mono HBN.out.size); clear HBN hbn k0; have HBN := Lib.hid hbx; clear hbx; obtain ⟨k0, -, -⟩ := HC.out _ HBN.out)
    | (go_at_call 23; refine (HSA.out _ (HRP.out.on HBN.out)).mono ?_; rintro x wc ⟨rfl, hbn⟩; have hbx := HBN.out.trans (hbn.mono HBN.out.size); clear HBN hbn k0; have HBN := Lib.hid hbx; clear hbx; obtain ⟨k0, -, -⟩ := HC.out _ HBN.out))
  go_upto_region 5 with (first
    | (go_at_call 49; refine (HAP.out _ (HRP.out.on HBN.out)).mono ?_; rintro x we ⟨q, rfl, hqi, -, hqd, hbn⟩; have HQI := Lib.hid hqi; have HQD := Lib.hid hqd; clear hqi hqd; have hbx := HBN.out.trans (hbn.mono HBN.out.size); clear HBN hbn k0; have HBN := Lib.hid hbx; clear hbx; obtain ⟨k0, -, -⟩ := HC.out _ HBN.out)
    | ((with_reducible apply wpList_load_w (ty := 55) (b := g + 1) (o := 0) (cs := [.int .i64 op, .int .i64 f, .int .i64 b, .int .i64 tob, .int .i64 other, .int .i64 pos, .int .i64 id, .int .i64 kind, .int .i64 dst, .int .i64 a, .int .i64 b2, .int .i64 c, .int .i64 f2, .int .i64 n, .int .i64 x0, .int .i64 x1, .int .i64 x2])); rotate_left; rfl; rfl; exact (HC.out _ HBN.out).2.1; exact Tryz.underlying55; rfl; kernel_rfl; rotate_left; rfl; simp only [Act.put, List.setIfInBounds_toArray, List.set_cons_zero, List.set_cons_succ]))
  obtain ⟨QL, hQL⟩ : ∃ QL, q.funs.length = QL := ⟨_, rfl⟩
  have HQL := Lib.hid hQL
  have hfa := HFA.out q HQD.out
  simp only [hQL] at hfa ⊢
  clear hQL HFA
  obtain ⟨tn, rfl, hf1, hf2, hf3⟩ := hfa
  have HO := Lib.hid hf3
  clear hf3
  have hb_ := below1 we (.cells #[.slice q.pa QL q.pc] 24)
  have HXgq : Hid (BoxL (we.alloc (.cells #[.slice q.pa QL q.pc] 24)) we.heap.size [.slice q.pa QL q.pc]) := Lib.hid (BoxL.new we _ _)
  have HRQ := Lib.hid (show Rd (we.alloc (.cells #[.slice q.pa QL q.pc] 24)) q from (show Rd we q from ⟨HQI.out, (HRP.out.on HBN.out).2.1, (HRP.out.on HBN.out).2.2⟩).on hb_)
  have HBM := Lib.hid (HBN.out.trans (hb_.mono HBN.out.size))
  clear hb_ HBN k0
  generalize we.alloc (.cells #[.slice q.pa QL q.pc] 24) = W5 at *
  generalize we.heap.size = gq at *
  have HLgq := Lib.hid (HXgq.out.lt (Nat.zero_lt_succ _))
  replace HRP := Lib.hid (HRP.out.on HBM.out)
  have HBW1 := Lib.hid (HBb.out.trans (HBM.out.mono (by rw [← hg]; exact HBb.out.size)))
  have HC1 : Hid (∀ wr, Below W5.heap.size W5 wr → wr.cell? ⟨g, 0, none⟩ = some (.slice p.pa PL p.pc) ∧ wr.rangeAt (g + 1) 0 [.int .i64 op, .int .i64 f, .int .i64 b, .int .i64 tob, .int .i64 other, .int .i64 pos, .int .i64 id, .int .i64 kind, .int .i64 dst, .int .i64 a, .int .i64 b2, .int .i64 c, .int .i64 f2, .int .i64 n, .int .i64 x0, .int .i64 x1, .int .i64 x2] ∧ wr.cell? ⟨gq, 0, none⟩ = some (.slice q.pa QL q.pc) ∧ True) := Lib.hid fun wr hb => have h := HC.out wr (HBM.out.trans (hb.mono HBM.out.size)); ⟨h.1, h.2.1, ((HXgq.out.below hb HLgq.out) 0 _ rfl).1, trivial⟩
  clear HC HBM
  have HBN : Hid (Below W5.heap.size W5 W5) := Lib.hid (Below.refl _ _)
  obtain ⟨k0, -, k2, -⟩ := HC1.out _ HBN.out
  go_upto_region 6 with (first
    | (go_at_call 41; refine (HTO.out _ (HRP.out.on HBN.out) [(tn : Int)] rfl).mono ?_; rintro x wt ⟨⟨ta, rfl, hti⟩, hbn⟩; have HTI := Lib.hid hti; clear hti; have hbx := HBN.out.trans (hbn.mono HBN.out.size); clear HBN hbn k0 k2; have HBN := Lib.hid hbx; clear hbx; obtain ⟨k0, -, k2, -⟩ := HC1.out _ HBN.out)
    | ((with_reducible apply wpList_load_w (ty := 55) (b := g + 1) (o := 0) (cs := [.int .i64 op, .int .i64 f, .int .i64 b, .int .i64 tob, .int .i64 other, .int .i64 pos, .int .i64 id, .int .i64 kind, .int .i64 dst, .int .i64 a, .int .i64 b2, .int .i64 c, .int .i64 f2, .int .i64 n, .int .i64 x0, .int .i64 x1, .int .i64 x2])); rotate_left; rfl; rfl; exact (HC1.out _ HBN.out).2.1; exact Tryz.underlying55; rfl; kernel_rfl; rotate_left; rfl; simp only [Act.put, List.setIfInBounds_toArray, List.set_cons_zero, List.set_cons_succ]))
  have HB6 := Lib.hid (HBW1.out.trans (HBN.out.mono (by rw [← hg]; exact HBW1.out.size)))
  generalize wt = W6 at *
  have HC6 : Hid (∀ wr, Below W6.heap.size W6 wr → wr.cell? ⟨g, 0, none⟩ = some (.slice p.pa PL p.pc) ∧ wr.rangeAt (g + 1) 0 [.int .i64 op, .int .i64 f, .int .i64 b, .int .i64 tob, .int .i64 other, .int .i64 pos, .int .i64 id, .int .i64 kind, .int .i64 dst, .int .i64 a, .int .i64 b2, .int .i64 c, .int .i64 f2, .int .i64 n, .int .i64 x0, .int .i64 x1, .int .i64 x2] ∧ wr.cell? ⟨gq, 0, none⟩ = some (.slice q.pa QL q.pc) ∧ True) := Lib.hid fun wr hb => HC1.out wr (HBN.out.trans (hb.mono HBN.out.size))
  have HRP6 := Lib.hid (HRP.out.on HBN.out)
  have HRQ6 := Lib.hid (HRQ.out.on HBN.out)
  obtain ⟨tb, to_, hte, htlt, htc⟩ := HTI.out 0 (by simp)
  subst hte
  replace htc : W6.cell? ⟨tb, to_ + 0, none⟩ = some (.int .i64 (tn : Nat)) := htc
  rw [Nat.add_zero] at htc
  have HTC := Lib.hid htc
  have HTL := Lib.hid htlt
  clear htc htlt
  clear HBN HTI k0 k2
  have HBN : Hid (Below W6.heap.size W6 W6) := Lib.hid (Below.refl _ _)
  obtain ⟨k0, -, k2, -⟩ := HC6.out _ HBN.out
  have hd1 : decide (QL < PL) = false := decide_eq_false (by omega)
  have hd2 : decide ((PL : Int) + 1 < (QL : Int)) = false := decide_eq_false (by omega)
  go_wp2_with fail
  go_loopw [9] (fun i wr => ∃ x : Nat, x ≤ QL ∧ i = .int .i64 x ∧ Hid (Below W6.heap.size W6 wr)) (fun i _ => QL - (intOf i).toNat)
  case atStart => exact ⟨0, Nat.zero_le _, rfl, Below.refl _ _⟩
  case round =>
    obtain ⟨x, hx, rfl, HBR⟩ := hrel
    clear k0 k2
    obtain ⟨k0, -, k2, -⟩ := HC6.out _ HBR.out
    by_cases hlt : x < QL
    rotate_left
    · have hxe : QL = x := by omega
      subst hxe
      have hxi : ¬ ((QL : Int) < (QL : Int)) := by omega
      have HSM6 := Lib.hid (fun wr (hb : Below W6.heap.size W6 wr) => HSM.out wr (HRP6.out.on hb) q (HRQ6.out.on hb).1 HQD.out)
      unfold Pg.val at HSM6
      simp only [HQL.out] at HSM6
      go_wp2_with (first
        | (go_at_call 43; refine (HSE.out _ (HRP6.out.on HBR.out)).mono ?_; rintro x_ ws ⟨rfl, hbn⟩; have hbx := HBR.out.trans (hbn.mono HBR.out.size); clear HBR hbn k0 k2; have HBR := Lib.hid hbx; clear hbx; obtain ⟨k0, -, k2, -⟩ := HC6.out _ HBR.out)
        | (go_at_call 57; refine (HSM6.out _ HBR.out).mono ?_; rintro x_ wv ⟨rfl, hbn⟩; have hbx := HBR.out.trans (hbn.mono HBR.out.size); clear HBR hbn k0 k2; have HBR := Lib.hid hbx; clear hbx; obtain ⟨k0, -, k2, -⟩ := HC6.out _ HBR.out)
        | ((with_reducible apply wpList_load_w (ty := 55) (b := g + 1) (o := 0) (cs := [.int .i64 op, .int .i64 f, .int .i64 b, .int .i64 tob, .int .i64 other, .int .i64 pos, .int .i64 id, .int .i64 kind, .int .i64 dst, .int .i64 a, .int .i64 b2, .int .i64 c, .int .i64 f2, .int .i64 n, .int .i64 x0, .int .i64 x1, .int .i64 x2])); rotate_left; rfl; rfl; exact (HC6.out _ HBR.out).2.1; exact Tryz.underlying55; rfl; kernel_rfl; rotate_left; rfl; simp only [Act.put, List.setIfInBounds_toArray, List.set_cons_zero, List.set_cons_succ]))
      go_ret
      exact ⟨rfl, HB6.out.trans (HBR.out.mono (by rw [← hg]; exact HB6.out.size))⟩
    have hxi : (x : Int) < (QL : Int) := by omega
    have hxq : x < q.funs.length := by rw [HQL.out]; exact hlt
    have m0 := (HBR.out.cell (p := ⟨tb, to_, none⟩) HTL.out).trans HTC.out
    by_cases hxt : x = tn
    · subst hxt
      go_wp2_with fail
      go_roundw
      case rel => exact ⟨x + 1, by omega, by go_num, HBR⟩
      case measure => simp [intOf]; omega
    have hxt2 : ¬ ((tn : Int) = (x : Int)) := by omega
    obtain ⟨hxp, hxd⟩ := HO.out x hlt hxt
    have hxpi : (x : Int) < (PL : Int) := by omega
    have hxd1 : decide ((PL : Int) ≤ (x : Int)) = false := decide_eq_false (by omega)
    have hxd2 : decide (PL ≤ x) = false := decide_eq_false (by omega)
    have hxpl : x < p.funs.length := by rw [HPL.out]; exact hxp
    have hRP := HRP6.out.on HBR.out
    have hRQ := HRQ6.out.on HBR.out
    obtain ⟨pb, po, hpa, hpb, c0, c1, c2, hfp⟩ := hRP.1 x hxpl
    obtain ⟨qb, qo, hqa, hqb, d0, d1, d2, hfq⟩ := hRQ.1 x hxq
    have hfw1 := few_one HFW.out x
    obtain ⟨fp, hfpe⟩ : ∃ f, fdAt p.funs x = f := ⟨_, rfl⟩
    obtain ⟨fq, hfqe⟩ : ∃ f, fdAt q.funs x = f := ⟨_, rfl⟩
    rw [hfpe] at c0 c1 c2 hfp hxd hfw1
    rw [hfqe] at d0 d1 d2 hfq hxd
    clear hfpe hfqe
    have HFP := Lib.hid hfp
    have HFQ := Lib.hid hfq
    have HXD := Lib.hid hxd
    have HF1 := Lib.hid hfw1
    obtain ⟨ar, vr, ba, bc, bl⟩ := fp
    obtain ⟨ar2, vr2, ba2, bc2, bl2⟩ := fq
    dsimp only at c0 c1 c2 d0 d1 d2
    have HSF : Hid (∀ w', Below wr.heap.size wr w' → w'.cell? ⟨g, 0, none⟩ = some (.slice (some ⟨pb, po, none⟩) PL p.pc) ∧ w'.cell? ⟨gq, 0, none⟩ = some (.slice (some ⟨qb, qo, none⟩) QL q.pc) ∧ w'.cell? ⟨pb, po + x * 3, none⟩ = some (.int .i64 ar) ∧ w'.cell? ⟨pb, po + x * 3 + 1, none⟩ = some (.int .i64 vr) ∧ w'.cell? ⟨pb, po + x * 3 + 2, none⟩ = some (.slice ba bl.length bc) ∧ w'.cell? ⟨qb, qo + x * 3, none⟩ = some (.int .i64 ar2) ∧ w'.cell? ⟨qb, qo + x * 3 + 1, none⟩ = some (.int .i64 vr2) ∧ w'.cell? ⟨qb, qo + x * 3 + 2, none⟩ = some (.slice ba2 bl2.length bc2)) := Lib.hid fun w' hb => ⟨by rw [← hpa]; exact (HC6.out w' (HBR.out.trans (hb.mono HBR.out.size))).1, by rw [← hqa]; exact (HC6.out w' (HBR.out.trans (hb.mono HBR.out.size))).2.2.1, (hb.cell (p := ⟨pb, po + x * 3, none⟩) hpb).trans c0, (hb.cell (p := ⟨pb, po + x * 3 + 1, none⟩) hpb).trans c1, (hb.cell (p := ⟨pb, po + x * 3 + 2, none⟩) hpb).trans c2, (hb.cell (p := ⟨qb, qo + x * 3, none⟩) hqb).trans d0, (hb.cell (p := ⟨qb, qo + x * 3 + 1, none⟩) hqb).trans d1, (hb.cell (p := ⟨qb, qo + x * 3 + 2, none⟩) hqb).trans d2⟩
    clear hfp hfq hxd hfw1 c0 c1 c2 d0 d1 d2 hpb hqb hpa hqa
    have HB1o := Lib.hid (show Below wr.heap.size wr ((wr.alloc (.cells #[.int .i64 ar, .int .i64 vr, .slice ba bl.length bc] 29)).alloc (.cells #[.int .i64 ar2, .int .i64 vr2, .slice ba2 bl2.length bc2] 29)).drew from (below2 wr (.cells #[.int .i64 ar, .int .i64 vr, .slice ba bl.length bc] 29) (.cells #[.int .i64 ar2, .int .i64 vr2, .slice ba2 bl2.length bc2] 29)).drew)
    have HB2o := Lib.hid (show Below wr.heap.size wr ((wr.alloc (.cells #[.int .i64 ar2, .int .i64 vr2, .slice ba2 bl2.length bc2] 29)).alloc (.cells #[.int .i64 ar, .int .i64 vr, .slice ba bl.length bc] 29)).drew from (below2 wr (.cells #[.int .i64 ar2, .int .i64 vr2, .slice ba2 bl2.length bc2] 29) (.cells #[.int .i64 ar, .int .i64 vr, .slice ba bl.length bc] 29)).drew)
    have HSO1 := Lib.hid (show Calls Tryz.prog 57 #[.agg #[.slice (some ⟨wr.heap.size, 0, none⟩) 1 1], .agg #[.slice (some ⟨wr.heap.size + 1, 0, none⟩) 1 1]] ((wr.alloc (.cells #[.int .i64 ar, .int .i64 vr, .slice ba bl.length bc] 29)).alloc (.cells #[.int .i64 ar2, .int .i64 vr2, .slice ba2 bl2.length bc2] 29)).drew fun e w' => e = .returned (.bool true) ∧ Below ((wr.alloc (.cells #[.int .i64 ar, .int .i64 vr, .slice ba bl.length bc] 29)).alloc (.cells #[.int .i64 ar2, .int .i64 vr2, .slice ba2 bl2.length bc2] 29)).drew.heap.size ((wr.alloc (.cells #[.int .i64 ar, .int .i64 vr, .slice ba bl.length bc] 29)).alloc (.cells #[.int .i64 ar2, .int .i64 vr2, .slice ba2 bl2.length bc2] 29)).drew w' from
      Same_any ⟨some ⟨wr.heap.size, 0, none⟩, 1, [⟨ar, vr, ba, bc, bl⟩]⟩ ⟨some ⟨wr.heap.size + 1, 0, none⟩, 1, [⟨ar2, vr2, ba2, bc2, bl2⟩]⟩ _ ((one_is wr _ HFP.out 29).on (below1 _ _).drew) ((one_is2 wr (.cells #[.int .i64 ar, .int .i64 vr, .slice ba bl.length bc] 29) _ HFQ.out 29).on (Below.refl _ _).drew) (HF1.out _ _) true (iff_of_true rfl (d_one HXD.out)))
    have HSO2 := Lib.hid (show Calls Tryz.prog 57 #[.agg #[.slice (some ⟨wr.heap.size + 1, 0, none⟩) 1 1], .agg #[.slice (some ⟨wr.heap.size, 0, none⟩) 1 1]] ((wr.alloc (.cells #[.int .i64 ar2, .int .i64 vr2, .slice ba2 bl2.length bc2] 29)).alloc (.cells #[.int .i64 ar, .int .i64 vr, .slice ba bl.length bc] 29)).drew fun e w' => e = .returned (.bool true) ∧ Below ((wr.alloc (.cells #[.int .i64 ar2, .int .i64 vr2, .slice ba2 bl2.length bc2] 29)).alloc (.cells #[.int .i64 ar, .int .i64 vr, .slice ba bl.length bc] 29)).drew.heap.size ((wr.alloc (.cells #[.int .i64 ar2, .int .i64 vr2, .slice ba2 bl2.length bc2] 29)).alloc (.cells #[.int .i64 ar, .int .i64 vr, .slice ba bl.length bc] 29)).drew w' from
      Same_any ⟨some ⟨wr.heap.size + 1, 0, none⟩, 1, [⟨ar, vr, ba, bc, bl⟩]⟩ ⟨some ⟨wr.heap.size, 0, none⟩, 1, [⟨ar2, vr2, ba2, bc2, bl2⟩]⟩ _ ((one_is2 wr (.cells #[.int .i64 ar2, .int .i64 vr2, .slice ba2 bl2.length bc2] 29) _ HFP.out 29).on (Below.refl _ _).drew) ((one_is wr _ HFQ.out 29).on (below1 _ _).drew) (HF1.out _ _) true (iff_of_true rfl (d_one HXD.out)))
    clear k0 k2
    obtain ⟨k0, k2⟩ : wr.cell? ⟨g, 0, none⟩ = some (.slice (some ⟨pb, po, none⟩) PL p.pc) ∧ wr.cell? ⟨gq, 0, none⟩ = some (.slice (some ⟨qb, qo, none⟩) QL q.pc) := by
      have h := HSF.out _ (Below.refl _ _)
      exact ⟨h.1, h.2.1⟩
    have hxt3 : ¬ (tn = x) := fun h => hxt h.symm
    go_wp2_with fail
    clear k0 k2 m0
    have HBN : Hid (Below wr.heap.size wr wr.drew) := Lib.hid (Below.refl _ _).drew
    go_region_held3 (fun w' => w'.cell? ⟨g, 0, none⟩ = some (.slice (some ⟨pb, po, none⟩) PL p.pc) ∧ w'.cell? ⟨gq, 0, none⟩ = some (.slice (some ⟨qb, qo, none⟩) QL q.pc) ∧ w'.cell? ⟨pb, po + x * 3, none⟩ = some (.int .i64 ar) ∧ w'.cell? ⟨pb, po + x * 3 + 1, none⟩ = some (.int .i64 vr) ∧ w'.cell? ⟨pb, po + x * 3 + 2, none⟩ = some (.slice ba bl.length bc) ∧ w'.cell? ⟨qb, qo + x * 3, none⟩ = some (.int .i64 ar2) ∧ w'.cell? ⟨qb, qo + x * 3 + 1, none⟩ = some (.int .i64 vr2) ∧ w'.cell? ⟨qb, qo + x * 3 + 2, none⟩ = some (.slice ba2 bl2.length bc2))
      (first | exact HSF.out _ HBN.out | exact HSF.out _ (HBN.out.alloc HBN.out.size _) | exact HSF.out _ ((HBN.out.alloc HBN.out.size _).alloc (HBN.out.alloc HBN.out.size _).size _))
      (first
        | (go_at_call 57; with_reducible refine HSO1.out.mono ?_; rintro x_ wn ⟨rfl, hbn⟩; have hbx := HB1o.out.trans (hbn.mono HB1o.out.size); clear HBN hbn; have HBN := Lib.hid hbx; clear hbx)
        | (go_at_call 57; with_reducible refine HSO2.out.mono ?_; rintro x_ wn ⟨rfl, hbn⟩; have hbx := HB2o.out.trans (hbn.mono HB2o.out.size); clear HBN hbn; have HBN := Lib.hid hbx; clear hbx))
    all_goals
      go_wp2_with fail
      go_roundw
      case rel => exact ⟨x + 1, by omega, by go_num, Lib.hid (HBR.out.trans (HBN.out.mono HBR.out.size))⟩
      case measure => simp [intOf]; omega

set_option maxRecDepth 100000 in
set_option maxHeartbeats 16000000 in
theorem oneF (p : Pg) (e : Ed) (w : World) (h : Rd w p) (hwf : p.wf) (hfew : p.few) (hs : p.sane) (hc : chk p e = 0) (hsm : ¬ (e.op = 5 ∧ e.other = e.tob)) (hsam : samE p e = false) :
    Calls Tryz.prog 9 #[p.val, e.val] w fun x w' => x = .returned (.bool true) ∧ Below w.heap.size w w' := by
  have HAW := Lib.hid (fun wr (h : Rd wr p) => awake8_any wr h.2.1 h.2.2)
  have HFE := Lib.hid (fun wr (h : Rd wr p) => Few_any p wr h.1 true (by simp [hfew]))
  have HSA := Lib.hid (fun wr (h : Rd wr p) => Sane_any p wr h.1 h.2.1 h.2.2 hfew true (by simp [hs]))
  have her := hc
  have HAP := Lib.hid (fun wr (h : Rd wr p) => Apply_any p e wr h hfew hwf)
  simp only [AppRes, her] at HAP
  have HSE := Lib.hid (fun wr (h : Rd wr p) => SameE_any p e wr h hfew _ hsam)
  have HTO := Lib.hid (fun wr (h : Rd wr p) l hl => Touches_any p e wr h hfew l hl)
  have HFA := Lib.hid (fun (q : Pg) (hq : q.d = (appP p e).d) => one_facts hq hc)
  have HSM := Lib.hid (fun wr (h : Rd wr p) (q : Pg) (hr : PgIs wr.heap.size wr q) (hd : q.d = (appP p e).d) => Same_any p q wr h.1 hr hfew false (iff_of_false (fun h => nomatch h) (by rw [hd]; exact fun h => app_differs hc hsm h.symm)))
  clear hsam hsm
  have HFW := Lib.hid hfew
  have hlen10 := hfew.1
  have HRD0 := Lib.hid h
  clear h hfew hs hwf hc her
  obtain ⟨tl, htl⟩ : ∃ l, touE p e = l := ⟨_, rfl⟩
  rw [htl] at HTO
  simp only [htl] at HFA
  obtain ⟨A0, hA0⟩ : ∃ A0, appP p e = A0 := ⟨_, rfl⟩
  simp only [hA0] at HAP HFA HSM
  clear hA0 htl
  obtain ⟨op, f, b, tob, other, pos, ⟨id, kind, dst, a, b2, c, f2, n, x0, x1, x2⟩⟩ := e
  try dsimp only at *
  unfold Pg.val at HFE HSA HAP HTO HSE HSM
  unfold Ed.val at HAP HTO HSE
  unfold Pg.val Ed.val
  try dsimp only at *
  obtain ⟨PL, hPL⟩ : ∃ PL, p.funs.length = PL := ⟨_, rfl⟩
  simp only [hPL] at HFE HSA HAP HTO HSE HSM hlen10 HFA ⊢
  have HPL := Lib.hid hPL
  clear hPL
  have HBb := Lib.hid (below2 w (.cells #[.slice p.pa PL p.pc] 24) (.cells #[.int .i64 op, .int .i64 f, .int .i64 b, .int .i64 tob, .int .i64 other, .int .i64 pos, .int .i64 id, .int .i64 kind, .int .i64 dst, .int .i64 a, .int .i64 b2, .int .i64 c, .int .i64 f2, .int .i64 n, .int .i64 x0, .int .i64 x1, .int .i64 x2] 55))
  have hx0 := BoxL.new w [.slice p.pa PL p.pc] 24
  have HX0 := Lib.hid (show BoxL ((w.alloc (.cells #[.slice p.pa PL p.pc] 24)).alloc (.cells #[.int .i64 op, .int .i64 f, .int .i64 b, .int .i64 tob, .int .i64 other, .int .i64 pos, .int .i64 id, .int .i64 kind, .int .i64 dst, .int .i64 a, .int .i64 b2, .int .i64 c, .int .i64 f2, .int .i64 n, .int .i64 x0, .int .i64 x1, .int .i64 x2] 55)) (w.heap.size) [.slice p.pa PL p.pc] from (hx0).alloc (Nat.zero_lt_succ _) (.cells #[.int .i64 op, .int .i64 f, .int .i64 b, .int .i64 tob, .int .i64 other, .int .i64 pos, .int .i64 id, .int .i64 kind, .int .i64 dst, .int .i64 a, .int .i64 b2, .int .i64 c, .int .i64 f2, .int .i64 n, .int .i64 x0, .int .i64 x1, .int .i64 x2] 55))
  have hx1 := BoxL.new (w.alloc (.cells #[.slice p.pa PL p.pc] 24)) [.int .i64 op, .int .i64 f, .int .i64 b, .int .i64 tob, .int .i64 other, .int .i64 pos, .int .i64 id, .int .i64 kind, .int .i64 dst, .int .i64 a, .int .i64 b2, .int .i64 c, .int .i64 f2, .int .i64 n, .int .i64 x0, .int .i64 x1, .int .i64 x2] 55
  rw [World.size_alloc] at hx1
  have HX1 := Lib.hid (show BoxL ((w.alloc (.cells #[.slice p.pa PL p.pc] 24)).alloc (.cells #[.int .i64 op, .int .i64 f, .int .i64 b, .int .i64 tob, .int .i64 other, .int .i64 pos, .int .i64 id, .int .i64 kind, .int .i64 dst, .int .i64 a, .int .i64 b2, .int .i64 c, .int .i64 f2, .int .i64 n, .int .i64 x0, .int .i64 x1, .int .i64 x2] 55)) (w.heap.size + 1) [.int .i64 op, .int .i64 f, .int .i64 b, .int .i64 tob, .int .i64 other, .int .i64 pos, .int .i64 id, .int .i64 kind, .int .i64 dst, .int .i64 a, .int .i64 b2, .int .i64 c, .int .i64 f2, .int .i64 n, .int .i64 x0, .int .i64 x1, .int .i64 x2] from hx1)
  clear hx0 hx1
  have HRP := Lib.hid (HRD0.out.on HBb.out)
  generalize hW : ((w.alloc (.cells #[.slice p.pa PL p.pc] 24)).alloc (.cells #[.int .i64 op, .int .i64 f, .int .i64 b, .int .i64 tob, .int .i64 other, .int .i64 pos, .int .i64 id, .int .i64 kind, .int .i64 dst, .int .i64 a, .int .i64 b2, .int .i64 c, .int .i64 f2, .int .i64 n, .int .i64 x0, .int .i64 x1, .int .i64 x2] 55)) = W at HBb HX0 HX1 HRP
  obtain ⟨g, hg⟩ : ∃ g, w.heap.size = g := ⟨_, rfl⟩
  have HGL := Lib.hid HBb.out.size
  rw [hg] at HBb HGL HX0 HX1 ⊢
  have HL0 := Lib.hid (HX0.out.lt (Nat.zero_lt_succ _))
  have HL1 := Lib.hid (HX1.out.lt (Nat.zero_lt_succ _))
  have HC : Hid (∀ wr, Below W.heap.size W wr → wr.cell? ⟨g, 0, none⟩ = some (.slice p.pa PL p.pc) ∧ wr.rangeAt (g + 1) 0 [.int .i64 op, .int .i64 f, .int .i64 b, .int .i64 tob, .int .i64 other, .int .i64 pos, .int .i64 id, .int .i64 kind, .int .i64 dst, .int .i64 a, .int .i64 b2, .int .i64 c, .int .i64 f2, .int .i64 n, .int .i64 x0, .int .i64 x1, .int .i64 x2] ∧ True) := Lib.hid fun wr hb => ⟨((HX0.out.below hb HL0.out) 0 _ rfl).1, (HX1.out.below hb HL1.out).range, trivial⟩
  have HBN : Hid (Below W.heap.size W W) := Lib.hid (Below.refl _ _)
  obtain ⟨k0, -, -⟩ := HC.out _ HBN.out
  go_enter Tryz.func9, Tryz.ntmps9
  go_upto_region 4 with (first
    | (go_at_call 47; refine (HAW.out _ (HRP.out.on HBN.out)).mono ?_; rintro x wa ⟨rfl, hbn⟩; have hbx := HBN.out.trans (hbn.mono HBN.out.size); clear HBN hbn k0; have HBN := Lib.hid hbx; clear hbx; obtain ⟨k0, -, -⟩ := HC.out _ HBN.out)
    | (go_at_call 14; refine (HFE.out _ (HRP.out.on HBN.out)).mono ?_; rintro x wb ⟨rfl, hbn⟩; have hbx := HBN.out.trans (hbn.mono HBN.out.size); clear HBN hbn k0; have HBN := Lib.hid hbx; clear hbx; obtain ⟨k0, -, -⟩ := HC.out _ HBN.out)
    | (go_at_call 23; refine (HSA.out _ (HRP.out.on HBN.out)).mono ?_; rintro x wc ⟨rfl, hbn⟩; have hbx := HBN.out.trans (hbn.mono HBN.out.size); clear HBN hbn k0; have HBN := Lib.hid hbx; clear hbx; obtain ⟨k0, -, -⟩ := HC.out _ HBN.out))
  go_upto_region 5 with (first
    | (go_at_call 49; refine (HAP.out _ (HRP.out.on HBN.out)).mono ?_; rintro x we ⟨q, rfl, hqi, -, hqd, hbn⟩; have HQI := Lib.hid hqi; have HQD := Lib.hid hqd; clear hqi hqd; have hbx := HBN.out.trans (hbn.mono HBN.out.size); clear HBN hbn k0; have HBN := Lib.hid hbx; clear hbx; obtain ⟨k0, -, -⟩ := HC.out _ HBN.out)
    | ((with_reducible apply wpList_load_w (ty := 55) (b := g + 1) (o := 0) (cs := [.int .i64 op, .int .i64 f, .int .i64 b, .int .i64 tob, .int .i64 other, .int .i64 pos, .int .i64 id, .int .i64 kind, .int .i64 dst, .int .i64 a, .int .i64 b2, .int .i64 c, .int .i64 f2, .int .i64 n, .int .i64 x0, .int .i64 x1, .int .i64 x2])); rotate_left; rfl; rfl; exact (HC.out _ HBN.out).2.1; exact Tryz.underlying55; rfl; kernel_rfl; rotate_left; rfl; simp only [Act.put, List.setIfInBounds_toArray, List.set_cons_zero, List.set_cons_succ]))
  obtain ⟨QL, hQL⟩ : ∃ QL, q.funs.length = QL := ⟨_, rfl⟩
  have HQL := Lib.hid hQL
  have hfa := HFA.out q HQD.out
  simp only [hQL] at hfa ⊢
  clear hQL HFA
  obtain ⟨tn, rfl, hf1, hf2, hf3⟩ := hfa
  have HO := Lib.hid hf3
  clear hf3
  have hb_ := below1 we (.cells #[.slice q.pa QL q.pc] 24)
  have HXgq : Hid (BoxL (we.alloc (.cells #[.slice q.pa QL q.pc] 24)) we.heap.size [.slice q.pa QL q.pc]) := Lib.hid (BoxL.new we _ _)
  have HRQ := Lib.hid (show Rd (we.alloc (.cells #[.slice q.pa QL q.pc] 24)) q from (show Rd we q from ⟨HQI.out, (HRP.out.on HBN.out).2.1, (HRP.out.on HBN.out).2.2⟩).on hb_)
  have HBM := Lib.hid (HBN.out.trans (hb_.mono HBN.out.size))
  clear hb_ HBN k0
  generalize we.alloc (.cells #[.slice q.pa QL q.pc] 24) = W5 at *
  generalize we.heap.size = gq at *
  have HLgq := Lib.hid (HXgq.out.lt (Nat.zero_lt_succ _))
  replace HRP := Lib.hid (HRP.out.on HBM.out)
  have HBW1 := Lib.hid (HBb.out.trans (HBM.out.mono (by rw [← hg]; exact HBb.out.size)))
  have HC1 : Hid (∀ wr, Below W5.heap.size W5 wr → wr.cell? ⟨g, 0, none⟩ = some (.slice p.pa PL p.pc) ∧ wr.rangeAt (g + 1) 0 [.int .i64 op, .int .i64 f, .int .i64 b, .int .i64 tob, .int .i64 other, .int .i64 pos, .int .i64 id, .int .i64 kind, .int .i64 dst, .int .i64 a, .int .i64 b2, .int .i64 c, .int .i64 f2, .int .i64 n, .int .i64 x0, .int .i64 x1, .int .i64 x2] ∧ wr.cell? ⟨gq, 0, none⟩ = some (.slice q.pa QL q.pc) ∧ True) := Lib.hid fun wr hb => have h := HC.out wr (HBM.out.trans (hb.mono HBM.out.size)); ⟨h.1, h.2.1, ((HXgq.out.below hb HLgq.out) 0 _ rfl).1, trivial⟩
  clear HC HBM
  have HBN : Hid (Below W5.heap.size W5 W5) := Lib.hid (Below.refl _ _)
  obtain ⟨k0, -, k2, -⟩ := HC1.out _ HBN.out
  go_upto_region 6 with (first
    | (go_at_call 41; refine (HTO.out _ (HRP.out.on HBN.out) [(tn : Int)] rfl).mono ?_; rintro x wt ⟨⟨ta, rfl, hti⟩, hbn⟩; have HTI := Lib.hid hti; clear hti; have hbx := HBN.out.trans (hbn.mono HBN.out.size); clear HBN hbn k0 k2; have HBN := Lib.hid hbx; clear hbx; obtain ⟨k0, -, k2, -⟩ := HC1.out _ HBN.out)
    | ((with_reducible apply wpList_load_w (ty := 55) (b := g + 1) (o := 0) (cs := [.int .i64 op, .int .i64 f, .int .i64 b, .int .i64 tob, .int .i64 other, .int .i64 pos, .int .i64 id, .int .i64 kind, .int .i64 dst, .int .i64 a, .int .i64 b2, .int .i64 c, .int .i64 f2, .int .i64 n, .int .i64 x0, .int .i64 x1, .int .i64 x2])); rotate_left; rfl; rfl; exact (HC1.out _ HBN.out).2.1; exact Tryz.underlying55; rfl; kernel_rfl; rotate_left; rfl; simp only [Act.put, List.setIfInBounds_toArray, List.set_cons_zero, List.set_cons_succ]))
  have HB6 := Lib.hid (HBW1.out.trans (HBN.out.mono (by rw [← hg]; exact HBW1.out.size)))
  generalize wt = W6 at *
  have HC6 : Hid (∀ wr, Below W6.heap.size W6 wr → wr.cell? ⟨g, 0, none⟩ = some (.slice p.pa PL p.pc) ∧ wr.rangeAt (g + 1) 0 [.int .i64 op, .int .i64 f, .int .i64 b, .int .i64 tob, .int .i64 other, .int .i64 pos, .int .i64 id, .int .i64 kind, .int .i64 dst, .int .i64 a, .int .i64 b2, .int .i64 c, .int .i64 f2, .int .i64 n, .int .i64 x0, .int .i64 x1, .int .i64 x2] ∧ wr.cell? ⟨gq, 0, none⟩ = some (.slice q.pa QL q.pc) ∧ True) := Lib.hid fun wr hb => HC1.out wr (HBN.out.trans (hb.mono HBN.out.size))
  have HRP6 := Lib.hid (HRP.out.on HBN.out)
  have HRQ6 := Lib.hid (HRQ.out.on HBN.out)
  obtain ⟨tb, to_, hte, htlt, htc⟩ := HTI.out 0 (by simp)
  subst hte
  replace htc : W6.cell? ⟨tb, to_ + 0, none⟩ = some (.int .i64 (tn : Nat)) := htc
  rw [Nat.add_zero] at htc
  have HTC := Lib.hid htc
  have HTL := Lib.hid htlt
  clear htc htlt
  clear HBN HTI k0 k2
  have HBN : Hid (Below W6.heap.size W6 W6) := Lib.hid (Below.refl _ _)
  obtain ⟨k0, -, k2, -⟩ := HC6.out _ HBN.out
  have hd1 : decide (QL < PL) = false := decide_eq_false (by omega)
  have hd2 : decide ((PL : Int) + 1 < (QL : Int)) = false := decide_eq_false (by omega)
  go_wp2_with fail
  go_loopw [9] (fun i wr => ∃ x : Nat, x ≤ QL ∧ i = .int .i64 x ∧ Hid (Below W6.heap.size W6 wr)) (fun i _ => QL - (intOf i).toNat)
  case atStart => exact ⟨0, Nat.zero_le _, rfl, Below.refl _ _⟩
  case round =>
    obtain ⟨x, hx, rfl, HBR⟩ := hrel
    clear k0 k2
    obtain ⟨k0, -, k2, -⟩ := HC6.out _ HBR.out
    by_cases hlt : x < QL
    rotate_left
    · have hxe : QL = x := by omega
      subst hxe
      have hxi : ¬ ((QL : Int) < (QL : Int)) := by omega
      have HSM6 := Lib.hid (fun wr (hb : Below W6.heap.size W6 wr) => HSM.out wr (HRP6.out.on hb) q (HRQ6.out.on hb).1 HQD.out)
      unfold Pg.val at HSM6
      simp only [HQL.out] at HSM6
      go_wp2_with (first
        | (go_at_call 43; refine (HSE.out _ (HRP6.out.on HBR.out)).mono ?_; rintro x_ ws ⟨rfl, hbn⟩; have hbx := HBR.out.trans (hbn.mono HBR.out.size); clear HBR hbn k0 k2; have HBR := Lib.hid hbx; clear hbx; obtain ⟨k0, -, k2, -⟩ := HC6.out _ HBR.out)
        | (go_at_call 57; refine (HSM6.out _ HBR.out).mono ?_; rintro x_ wv ⟨rfl, hbn⟩; have hbx := HBR.out.trans (hbn.mono HBR.out.size); clear HBR hbn k0 k2; have HBR := Lib.hid hbx; clear hbx; obtain ⟨k0, -, k2, -⟩ := HC6.out _ HBR.out)
        | ((with_reducible apply wpList_load_w (ty := 55) (b := g + 1) (o := 0) (cs := [.int .i64 op, .int .i64 f, .int .i64 b, .int .i64 tob, .int .i64 other, .int .i64 pos, .int .i64 id, .int .i64 kind, .int .i64 dst, .int .i64 a, .int .i64 b2, .int .i64 c, .int .i64 f2, .int .i64 n, .int .i64 x0, .int .i64 x1, .int .i64 x2])); rotate_left; rfl; rfl; exact (HC6.out _ HBR.out).2.1; exact Tryz.underlying55; rfl; kernel_rfl; rotate_left; rfl; simp only [Act.put, List.setIfInBounds_toArray, List.set_cons_zero, List.set_cons_succ]))
      go_ret
      exact ⟨rfl, HB6.out.trans (HBR.out.mono (by rw [← hg]; exact HB6.out.size))⟩
    have hxi : (x : Int) < (QL : Int) := by omega
    have hxq : x < q.funs.length := by rw [HQL.out]; exact hlt
    have m0 := (HBR.out.cell (p := ⟨tb, to_, none⟩) HTL.out).trans HTC.out
    by_cases hxt : x = tn
    · subst hxt
      go_wp2_with fail
      go_roundw
      case rel => exact ⟨x + 1, by omega, by go_num, HBR⟩
      case measure => simp [intOf]; omega
    have hxt2 : ¬ ((tn : Int) = (x : Int)) := by omega
    obtain ⟨hxp, hxd⟩ := HO.out x hlt hxt
    have hxpi : (x : Int) < (PL : Int) := by omega
    have hxd1 : decide ((PL : Int) ≤ (x : Int)) = false := decide_eq_false (by omega)
    have hxd2 : decide (PL ≤ x) = false := decide_eq_false (by omega)
    have hxpl : x < p.funs.length := by rw [HPL.out]; exact hxp
    have hRP := HRP6.out.on HBR.out
    have hRQ := HRQ6.out.on HBR.out
    obtain ⟨pb, po, hpa, hpb, c0, c1, c2, hfp⟩ := hRP.1 x hxpl
    obtain ⟨qb, qo, hqa, hqb, d0, d1, d2, hfq⟩ := hRQ.1 x hxq
    have hfw1 := few_one HFW.out x
    obtain ⟨fp, hfpe⟩ : ∃ f, fdAt p.funs x = f := ⟨_, rfl⟩
    obtain ⟨fq, hfqe⟩ : ∃ f, fdAt q.funs x = f := ⟨_, rfl⟩
    rw [hfpe] at c0 c1 c2 hfp hxd hfw1
    rw [hfqe] at d0 d1 d2 hfq hxd
    clear hfpe hfqe
    have HFP := Lib.hid hfp
    have HFQ := Lib.hid hfq
    have HXD := Lib.hid hxd
    have HF1 := Lib.hid hfw1
    obtain ⟨ar, vr, ba, bc, bl⟩ := fp
    obtain ⟨ar2, vr2, ba2, bc2, bl2⟩ := fq
    dsimp only at c0 c1 c2 d0 d1 d2
    have HSF : Hid (∀ w', Below wr.heap.size wr w' → w'.cell? ⟨g, 0, none⟩ = some (.slice (some ⟨pb, po, none⟩) PL p.pc) ∧ w'.cell? ⟨gq, 0, none⟩ = some (.slice (some ⟨qb, qo, none⟩) QL q.pc) ∧ w'.cell? ⟨pb, po + x * 3, none⟩ = some (.int .i64 ar) ∧ w'.cell? ⟨pb, po + x * 3 + 1, none⟩ = some (.int .i64 vr) ∧ w'.cell? ⟨pb, po + x * 3 + 2, none⟩ = some (.slice ba bl.length bc) ∧ w'.cell? ⟨qb, qo + x * 3, none⟩ = some (.int .i64 ar2) ∧ w'.cell? ⟨qb, qo + x * 3 + 1, none⟩ = some (.int .i64 vr2) ∧ w'.cell? ⟨qb, qo + x * 3 + 2, none⟩ = some (.slice ba2 bl2.length bc2)) := Lib.hid fun w' hb => ⟨by rw [← hpa]; exact (HC6.out w' (HBR.out.trans (hb.mono HBR.out.size))).1, by rw [← hqa]; exact (HC6.out w' (HBR.out.trans (hb.mono HBR.out.size))).2.2.1, (hb.cell (p := ⟨pb, po + x * 3, none⟩) hpb).trans c0, (hb.cell (p := ⟨pb, po + x * 3 + 1, none⟩) hpb).trans c1, (hb.cell (p := ⟨pb, po + x * 3 + 2, none⟩) hpb).trans c2, (hb.cell (p := ⟨qb, qo + x * 3, none⟩) hqb).trans d0, (hb.cell (p := ⟨qb, qo + x * 3 + 1, none⟩) hqb).trans d1, (hb.cell (p := ⟨qb, qo + x * 3 + 2, none⟩) hqb).trans d2⟩
    clear hfp hfq hxd hfw1 c0 c1 c2 d0 d1 d2 hpb hqb hpa hqa
    have HB1o := Lib.hid (show Below wr.heap.size wr ((wr.alloc (.cells #[.int .i64 ar, .int .i64 vr, .slice ba bl.length bc] 29)).alloc (.cells #[.int .i64 ar2, .int .i64 vr2, .slice ba2 bl2.length bc2] 29)).drew from (below2 wr (.cells #[.int .i64 ar, .int .i64 vr, .slice ba bl.length bc] 29) (.cells #[.int .i64 ar2, .int .i64 vr2, .slice ba2 bl2.length bc2] 29)).drew)
    have HB2o := Lib.hid (show Below wr.heap.size wr ((wr.alloc (.cells #[.int .i64 ar2, .int .i64 vr2, .slice ba2 bl2.length bc2] 29)).alloc (.cells #[.int .i64 ar, .int .i64 vr, .slice ba bl.length bc] 29)).drew from (below2 wr (.cells #[.int .i64 ar2, .int .i64 vr2, .slice ba2 bl2.length bc2] 29) (.cells #[.int .i64 ar, .int .i64 vr, .slice ba bl.length bc] 29)).drew)
    have HSO1 := Lib.hid (show Calls Tryz.prog 57 #[.agg #[.slice (some ⟨wr.heap.size, 0, none⟩) 1 1], .agg #[.slice (some ⟨wr.heap.size + 1, 0, none⟩) 1 1]] ((wr.alloc (.cells #[.int .i64 ar, .int .i64 vr, .slice ba bl.length bc] 29)).alloc (.cells #[.int .i64 ar2, .int .i64 vr2, .slice ba2 bl2.length bc2] 29)).drew fun e w' => e = .returned (.bool true) ∧ Below ((wr.alloc (.cells #[.int .i64 ar, .int .i64 vr, .slice ba bl.length bc] 29)).alloc (.cells #[.int .i64 ar2, .int .i64 vr2, .slice ba2 bl2.length bc2] 29)).drew.heap.size ((wr.alloc (.cells #[.int .i64 ar, .int .i64 vr, .slice ba bl.length bc] 29)).alloc (.cells #[.int .i64 ar2, .int .i64 vr2, .slice ba2 bl2.length bc2] 29)).drew w' from
      Same_any ⟨some ⟨wr.heap.size, 0, none⟩, 1, [⟨ar, vr, ba, bc, bl⟩]⟩ ⟨some ⟨wr.heap.size + 1, 0, none⟩, 1, [⟨ar2, vr2, ba2, bc2, bl2⟩]⟩ _ ((one_is wr _ HFP.out 29).on (below1 _ _).drew) ((one_is2 wr (.cells #[.int .i64 ar, .int .i64 vr, .slice ba bl.length bc] 29) _ HFQ.out 29).on (Below.refl _ _).drew) (HF1.out _ _) true (iff_of_true rfl (d_one HXD.out)))
    have HSO2 := Lib.hid (show Calls Tryz.prog 57 #[.agg #[.slice (some ⟨wr.heap.size + 1, 0, none⟩) 1 1], .agg #[.slice (some ⟨wr.heap.size, 0, none⟩) 1 1]] ((wr.alloc (.cells #[.int .i64 ar2, .int .i64 vr2, .slice ba2 bl2.length bc2] 29)).alloc (.cells #[.int .i64 ar, .int .i64 vr, .slice ba bl.length bc] 29)).drew fun e w' => e = .returned (.bool true) ∧ Below ((wr.alloc (.cells #[.int .i64 ar2, .int .i64 vr2, .slice ba2 bl2.length bc2] 29)).alloc (.cells #[.int .i64 ar, .int .i64 vr, .slice ba bl.length bc] 29)).drew.heap.size ((wr.alloc (.cells #[.int .i64 ar2, .int .i64 vr2, .slice ba2 bl2.length bc2] 29)).alloc (.cells #[.int .i64 ar, .int .i64 vr, .slice ba bl.length bc] 29)).drew w' from
      Same_any ⟨some ⟨wr.heap.size + 1, 0, none⟩, 1, [⟨ar, vr, ba, bc, bl⟩]⟩ ⟨some ⟨wr.heap.size, 0, none⟩, 1, [⟨ar2, vr2, ba2, bc2, bl2⟩]⟩ _ ((one_is2 wr (.cells #[.int .i64 ar2, .int .i64 vr2, .slice ba2 bl2.length bc2] 29) _ HFP.out 29).on (Below.refl _ _).drew) ((one_is wr _ HFQ.out 29).on (below1 _ _).drew) (HF1.out _ _) true (iff_of_true rfl (d_one HXD.out)))
    clear k0 k2
    obtain ⟨k0, k2⟩ : wr.cell? ⟨g, 0, none⟩ = some (.slice (some ⟨pb, po, none⟩) PL p.pc) ∧ wr.cell? ⟨gq, 0, none⟩ = some (.slice (some ⟨qb, qo, none⟩) QL q.pc) := by
      have h := HSF.out _ (Below.refl _ _)
      exact ⟨h.1, h.2.1⟩
    have hxt3 : ¬ (tn = x) := fun h => hxt h.symm
    go_wp2_with fail
    clear k0 k2 m0
    have HBN : Hid (Below wr.heap.size wr wr.drew) := Lib.hid (Below.refl _ _).drew
    go_region_held3 (fun w' => w'.cell? ⟨g, 0, none⟩ = some (.slice (some ⟨pb, po, none⟩) PL p.pc) ∧ w'.cell? ⟨gq, 0, none⟩ = some (.slice (some ⟨qb, qo, none⟩) QL q.pc) ∧ w'.cell? ⟨pb, po + x * 3, none⟩ = some (.int .i64 ar) ∧ w'.cell? ⟨pb, po + x * 3 + 1, none⟩ = some (.int .i64 vr) ∧ w'.cell? ⟨pb, po + x * 3 + 2, none⟩ = some (.slice ba bl.length bc) ∧ w'.cell? ⟨qb, qo + x * 3, none⟩ = some (.int .i64 ar2) ∧ w'.cell? ⟨qb, qo + x * 3 + 1, none⟩ = some (.int .i64 vr2) ∧ w'.cell? ⟨qb, qo + x * 3 + 2, none⟩ = some (.slice ba2 bl2.length bc2))
      (first | exact HSF.out _ HBN.out | exact HSF.out _ (HBN.out.alloc HBN.out.size _) | exact HSF.out _ ((HBN.out.alloc HBN.out.size _).alloc (HBN.out.alloc HBN.out.size _).size _))
      (first
        | (go_at_call 57; with_reducible refine HSO1.out.mono ?_; rintro x_ wn ⟨rfl, hbn⟩; have hbx := HB1o.out.trans (hbn.mono HB1o.out.size); clear HBN hbn; have HBN := Lib.hid hbx; clear hbx)
        | (go_at_call 57; with_reducible refine HSO2.out.mono ?_; rintro x_ wn ⟨rfl, hbn⟩; have hbx := HB2o.out.trans (hbn.mono HB2o.out.size); clear HBN hbn; have HBN := Lib.hid hbx; clear hbx))
    all_goals
      go_wp2_with fail
      go_roundw
      case rel => exact ⟨x + 1, by omega, by go_num, Lib.hid (HBR.out.trans (HBN.out.mono HBR.out.size))⟩
      case measure => simp [intOf]; omega

theorem applyOne_any (p : Pg) (e : Ed) (w : World) (h : Rd w p) (hwf : p.wf) :
    Calls Tryz.prog 9 #[p.val, e.val] w fun x w' => x = .returned (.bool true) ∧ Below w.heap.size w w' := by
  by_cases hfew : p.few
  rotate_left
  · exact oneN p e w h hfew
  by_cases hs : p.sane
  rotate_left
  · exact oneS p e w h hfew hs
  by_cases hc : chk p e = 0
  rotate_left
  · exact oneE p e w h hwf hfew hs hc
  by_cases hsm : e.op = 5 ∧ e.other = e.tob
  · exact oneT p e w h hwf hfew hs hc hsm (by unfold samE; simp [hsm, hc])
  · refine oneF p e w h hwf hfew hs hc hsm ?_
    unfold samE
    by_cases h1 : e.op = 5
    · have h2 : ¬ e.other = e.tob := fun h => hsm ⟨h1, h⟩
      simp [h2]
    · simp [h1]
end Go.Proofs.YtbddjneinfkmpaaGreatDoor
