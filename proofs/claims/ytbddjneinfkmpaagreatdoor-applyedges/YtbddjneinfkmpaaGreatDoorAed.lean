/- ApplyEdges: its walk. -/
import Derived.Test.YtbddjneinfkmpaaGreatDoorApQ
import Derived.Test.YtbddjneinfkmpaaGreatDoorAppG
import Derived.Test.YtbddjneinfkmpaaGreatDoorSmG
import Derived.Test.YtbddjneinfkmpaaGreatDoorAwA
namespace Go.Proofs.YtbddjneinfkmpaaGreatDoor
open Go Go.RowKit Go.Sort

set_option maxHeartbeats 4000000 in
theorem Has8_any (a : Option Addr) (l : List Int) (cap : Nat) (n : Int) (w : World) (B : Nat) (hIs : Is B w a l) (L : Nat) (hL : l.length = L) (hl : L ≤ 1000) :
    Calls Tryz.prog 58 #[.slice a L cap, .int .i64 n] w fun e w' => e = .returned (.bool (decide (n ∈ l))) ∧ w' = w := by
  have HIs := Lib.hid hIs
  have HL := Lib.hid hL
  clear hIs hL
  obtain ⟨r, hr⟩ : ∃ r, decide (n ∈ l) = r := ⟨_, rfl⟩
  rw [hr]
  have HR := Lib.hid hr
  clear hr
  go_enter Tryz.func58, Tryz.ntmps58
  go_wp2
  go_loop [5] (fun i => ∃ q : Nat, q ≤ L ∧ i = .int .i64 q ∧ Hid (∀ j : Nat, j < q → l[j]?.getD 0 ≠ n)) (fun i => L - (intOf i).toNat)
  case atStart => exact ⟨0, Nat.zero_le _, rfl, fun j hj => absurd hj (Nat.not_lt_zero _)⟩
  case round =>
    obtain ⟨q, hq, rfl, hne⟩ := hrel
    by_cases hlt : q < L
    · obtain ⟨b, o, rfl, hbl, hcell⟩ := HIs.out q (by rw [HL.out]; exact hlt)
      obtain ⟨y, hy⟩ : ∃ y, l[q]?.getD 0 = y := ⟨_, rfl⟩
      rw [hy] at hcell
      have HY := Lib.hid hy
      clear hy hbl
      have hqi : (q : Int) < (L : Int) := by omega
      by_cases hxy : y = n
      · subst hxy
        go_wp2
        go_ret
        have hrt : r = true := by
          rw [← HR.out, decide_eq_true_eq]
          have hq2 : q < l.length := by rw [HL.out]; exact hlt
          have e := HY.out
          rw [List.getElem?_eq_getElem hq2] at e
          simp at e
          exact e ▸ List.getElem_mem hq2
        exact ⟨by rw [hrt]; rfl, rfl⟩
      · go_wp2
        refine ⟨⟨q + 1, by omega, by go_num, fun j hj => ?_⟩, by simp [intOf]; omega⟩
        rcases Nat.lt_succ_iff_lt_or_eq.1 hj with h | rfl
        · exact hne.out j h
        · rw [HY.out]; exact hxy
    · have hqe : L = q := by omega
      subst hqe
      have hqi : ¬ ((L : Int) < (L : Int)) := by omega
      go_wp2
      go_ret
      have hrf : r = false := by
        rw [← HR.out, decide_eq_false_iff_not]
        intro h
        obtain ⟨j, hj, e⟩ := List.getElem_of_mem h
        exact absurd (by rw [List.getElem?_eq_getElem hj]; simpa using e) (hne.out j (by rw [← HL.out]; exact hj))
      exact ⟨by rw [hrf]; rfl, rfl⟩

set_option maxRecDepth 100000 in
set_option maxHeartbeats 16000000 in
theorem edgesN (p : Pg) (e : Ed) (b1 t1 : Int) (w : World) (h : Rd w p) (hfew : ¬ p.few) :
    Calls Tryz.prog 11 #[p.val, e.val, .int .i64 b1, .int .i64 t1] w fun x w' => x = .returned (.bool true) ∧ Below w.heap.size w w' := by
  have HAW := Lib.hid (fun wr (h : Rd wr p) => awake8_any wr h.2.1 h.2.2)
  have HFE := Lib.hid (fun wr (h : Rd wr p) => Few_any p wr h.1 false (by simp [hfew]))
  have HRD0 := Lib.hid h
  clear h hfew
  obtain ⟨op, f, b, tob, other, pos, ⟨id, kind, dst, a, b2, c, f2, n, x0, x1, x2⟩⟩ := e
  try dsimp only at *
  unfold Pg.val at HFE
  unfold Pg.val Ed.val
  try dsimp only at *
  obtain ⟨PL, hPL⟩ : ∃ PL, p.funs.length = PL := ⟨_, rfl⟩
  simp only [hPL] at HFE ⊢
  clear hPL
  have HBb := Lib.hid (below2 w (.cells #[.slice p.pa PL p.pc] 24) (.cells #[.int .i64 op, .int .i64 f, .int .i64 b, .int .i64 tob, .int .i64 other, .int .i64 pos, .int .i64 id, .int .i64 kind, .int .i64 dst, .int .i64 a, .int .i64 b2, .int .i64 c, .int .i64 f2, .int .i64 n, .int .i64 x0, .int .i64 x1, .int .i64 x2] 55))
  have hx0 := BoxL.new w [.slice p.pa PL p.pc] 24
  have HX0 := Lib.hid (show BoxL ((w.alloc (.cells #[.slice p.pa PL p.pc] 24)).alloc (.cells #[.int .i64 op, .int .i64 f, .int .i64 b, .int .i64 tob, .int .i64 other, .int .i64 pos, .int .i64 id, .int .i64 kind, .int .i64 dst, .int .i64 a, .int .i64 b2, .int .i64 c, .int .i64 f2, .int .i64 n, .int .i64 x0, .int .i64 x1, .int .i64 x2] 55)) (w.heap.size) [.slice p.pa PL p.pc] from (hx0).alloc (Nat.zero_lt_succ _) (.cells #[.int .i64 op, .int .i64 f, .int .i64 b, .int .i64 tob, .int .i64 other, .int .i64 pos, .int .i64 id, .int .i64 kind, .int .i64 dst, .int .i64 a, .int .i64 b2, .int .i64 c, .int .i64 f2, .int .i64 n, .int .i64 x0, .int .i64 x1, .int .i64 x2] 55))
  have hx1 := BoxL.new (w.alloc (.cells #[.slice p.pa PL p.pc] 24)) [.int .i64 op, .int .i64 f, .int .i64 b, .int .i64 tob, .int .i64 other, .int .i64 pos, .int .i64 id, .int .i64 kind, .int .i64 dst, .int .i64 a, .int .i64 b2, .int .i64 c, .int .i64 f2, .int .i64 n, .int .i64 x0, .int .i64 x1, .int .i64 x2] 55
  rw [World.size_alloc] at hx1
  have HX1 := Lib.hid (show BoxL ((w.alloc (.cells #[.slice p.pa PL p.pc] 24)).alloc (.cells #[.int .i64 op, .int .i64 f, .int .i64 b, .int .i64 tob, .int .i64 other, .int .i64 pos, .int .i64 id, .int .i64 kind, .int .i64 dst, .int .i64 a, .int .i64 b2, .int .i64 c, .int .i64 f2, .int .i64 n, .int .i64 x0, .int .i64 x1, .int .i64 x2] 55)) (w.heap.size + 1) [.int .i64 op, .int .i64 f, .int .i64 b, .int .i64 tob, .int .i64 other, .int .i64 pos, .int .i64 id, .int .i64 kind, .int .i64 dst, .int .i64 a, .int .i64 b2, .int .i64 c, .int .i64 f2, .int .i64 n, .int .i64 x0, .int .i64 x1, .int .i64 x2] from hx1)
  clear hx0 hx1
  have HRP := Lib.hid (HRD0.out.on HBb.out)
  generalize hW : ((w.alloc (.cells #[.slice p.pa PL p.pc] 24)).alloc (.cells #[.int .i64 op, .int .i64 f, .int .i64 b, .int .i64 tob, .int .i64 other, .int .i64 pos, .int .i64 id, .int .i64 kind, .int .i64 dst, .int .i64 a, .int .i64 b2, .int .i64 c, .int .i64 f2, .int .i64 n, .int .i64 x0, .int .i64 x1, .int .i64 x2] 55)) = W at HBb HX0 HX1 HRP
  obtain ⟨g, hg⟩ : ∃ g, w.heap.size = g := ⟨_, rfl⟩
  have HGL := Lib.hid HBb.out.size
  rw [hg] at HBb HGL HX0 HX1 ⊢
  have HL0 := Lib.hid (HX0.out.lt (Nat.zero_lt_succ _))
  have HL1 := Lib.hid (HX1.out.lt (Nat.zero_lt_succ _))
  have HC : Hid (∀ wr, Below W.heap.size W wr → wr.cell? ⟨g, 0, none⟩ = some (.slice p.pa PL p.pc) ∧ wr.cell? ⟨g + 1, 0, none⟩ = some (.int .i64 op) ∧ wr.cell? ⟨g + 1, 1, none⟩ = some (.int .i64 f) ∧ wr.cell? ⟨g + 1, 2, none⟩ = some (.int .i64 b) ∧ wr.cell? ⟨g + 1, 3, none⟩ = some (.int .i64 tob) ∧ wr.cell? ⟨g + 1, 4, none⟩ = some (.int .i64 other) ∧ wr.rangeAt (g + 1) 0 [.int .i64 op, .int .i64 f, .int .i64 b, .int .i64 tob, .int .i64 other, .int .i64 pos, .int .i64 id, .int .i64 kind, .int .i64 dst, .int .i64 a, .int .i64 b2, .int .i64 c, .int .i64 f2, .int .i64 n, .int .i64 x0, .int .i64 x1, .int .i64 x2] ∧ True) := Lib.hid fun wr hb => ⟨((HX0.out.below hb HL0.out) 0 _ rfl).1, ((HX1.out.below hb HL1.out) 0 _ rfl).1, ((HX1.out.below hb HL1.out) 1 _ rfl).1, ((HX1.out.below hb HL1.out) 2 _ rfl).1, ((HX1.out.below hb HL1.out) 3 _ rfl).1, ((HX1.out.below hb HL1.out) 4 _ rfl).1, (HX1.out.below hb HL1.out).range, trivial⟩
  have HBN : Hid (Below W.heap.size W W) := Lib.hid (Below.refl _ _)
  obtain ⟨k0, k1, k2, k3, k4, k5, -, -⟩ := HC.out _ HBN.out
  go_enter Tryz.func11, Tryz.ntmps11
  go_wp2_with (first
    | (go_at_call 47; refine (HAW.out _ (HRP.out.on HBN.out)).mono ?_; rintro x wa ⟨rfl, hbn⟩; have hbx := HBN.out.trans (hbn.mono HBN.out.size); clear HBN hbn k0 k1 k2 k3 k4 k5; have HBN := Lib.hid hbx; clear hbx; obtain ⟨k0, k1, k2, k3, k4, k5, -, -⟩ := HC.out _ HBN.out)
    | (go_at_call 14; refine (HFE.out _ (HRP.out.on HBN.out)).mono ?_; rintro x wb ⟨rfl, hbn⟩; have hbx := HBN.out.trans (hbn.mono HBN.out.size); clear HBN hbn k0 k1 k2 k3 k4 k5; have HBN := Lib.hid hbx; clear hbx; obtain ⟨k0, k1, k2, k3, k4, k5, -, -⟩ := HC.out _ HBN.out))
  go_ret
  exact ⟨rfl, HBb.out.trans (HBN.out.mono (by rw [← hg]; exact HBb.out.size))⟩

set_option maxRecDepth 100000 in
set_option maxHeartbeats 16000000 in
theorem edgesO (p : Pg) (e : Ed) (b1 t1 : Int) (w : World) (h : Rd w p) (hfew : p.few) (hop : e.op ≠ 3 ∧ e.op ≠ 4 ∧ e.op ≠ 5) :
    Calls Tryz.prog 11 #[p.val, e.val, .int .i64 b1, .int .i64 t1] w fun x w' => x = .returned (.bool true) ∧ Below w.heap.size w w' := by
  have HAW := Lib.hid (fun wr (h : Rd wr p) => awake8_any wr h.2.1 h.2.2)
  have HFE := Lib.hid (fun wr (h : Rd wr p) => Few_any p wr h.1 true (by simp [hfew]))
  have HRD0 := Lib.hid h
  clear h hfew
  obtain ⟨op, f, b, tob, other, pos, ⟨id, kind, dst, a, b2, c, f2, n, x0, x1, x2⟩⟩ := e
  try dsimp only at *
  have n3 : (op != 3) = true := by simp only [bne, beq_false_of_ne hop.1, Bool.not_false]
  have n4 : (op != 4) = true := by simp only [bne, beq_false_of_ne hop.2.1, Bool.not_false]
  have n5 : (op != 5) = true := by simp only [bne, beq_false_of_ne hop.2.2, Bool.not_false]
  clear hop
  unfold Pg.val at HFE
  unfold Pg.val Ed.val
  try dsimp only at *
  obtain ⟨PL, hPL⟩ : ∃ PL, p.funs.length = PL := ⟨_, rfl⟩
  simp only [hPL] at HFE ⊢
  clear hPL
  have HBb := Lib.hid (below2 w (.cells #[.slice p.pa PL p.pc] 24) (.cells #[.int .i64 op, .int .i64 f, .int .i64 b, .int .i64 tob, .int .i64 other, .int .i64 pos, .int .i64 id, .int .i64 kind, .int .i64 dst, .int .i64 a, .int .i64 b2, .int .i64 c, .int .i64 f2, .int .i64 n, .int .i64 x0, .int .i64 x1, .int .i64 x2] 55))
  have hx0 := BoxL.new w [.slice p.pa PL p.pc] 24
  have HX0 := Lib.hid (show BoxL ((w.alloc (.cells #[.slice p.pa PL p.pc] 24)).alloc (.cells #[.int .i64 op, .int .i64 f, .int .i64 b, .int .i64 tob, .int .i64 other, .int .i64 pos, .int .i64 id, .int .i64 kind, .int .i64 dst, .int .i64 a, .int .i64 b2, .int .i64 c, .int .i64 f2, .int .i64 n, .int .i64 x0, .int .i64 x1, .int .i64 x2] 55)) (w.heap.size) [.slice p.pa PL p.pc] from (hx0).alloc (Nat.zero_lt_succ _) (.cells #[.int .i64 op, .int .i64 f, .int .i64 b, .int .i64 tob, .int .i64 other, .int .i64 pos, .int .i64 id, .int .i64 kind, .int .i64 dst, .int .i64 a, .int .i64 b2, .int .i64 c, .int .i64 f2, .int .i64 n, .int .i64 x0, .int .i64 x1, .int .i64 x2] 55))
  have hx1 := BoxL.new (w.alloc (.cells #[.slice p.pa PL p.pc] 24)) [.int .i64 op, .int .i64 f, .int .i64 b, .int .i64 tob, .int .i64 other, .int .i64 pos, .int .i64 id, .int .i64 kind, .int .i64 dst, .int .i64 a, .int .i64 b2, .int .i64 c, .int .i64 f2, .int .i64 n, .int .i64 x0, .int .i64 x1, .int .i64 x2] 55
  rw [World.size_alloc] at hx1
  have HX1 := Lib.hid (show BoxL ((w.alloc (.cells #[.slice p.pa PL p.pc] 24)).alloc (.cells #[.int .i64 op, .int .i64 f, .int .i64 b, .int .i64 tob, .int .i64 other, .int .i64 pos, .int .i64 id, .int .i64 kind, .int .i64 dst, .int .i64 a, .int .i64 b2, .int .i64 c, .int .i64 f2, .int .i64 n, .int .i64 x0, .int .i64 x1, .int .i64 x2] 55)) (w.heap.size + 1) [.int .i64 op, .int .i64 f, .int .i64 b, .int .i64 tob, .int .i64 other, .int .i64 pos, .int .i64 id, .int .i64 kind, .int .i64 dst, .int .i64 a, .int .i64 b2, .int .i64 c, .int .i64 f2, .int .i64 n, .int .i64 x0, .int .i64 x1, .int .i64 x2] from hx1)
  clear hx0 hx1
  have HRP := Lib.hid (HRD0.out.on HBb.out)
  generalize hW : ((w.alloc (.cells #[.slice p.pa PL p.pc] 24)).alloc (.cells #[.int .i64 op, .int .i64 f, .int .i64 b, .int .i64 tob, .int .i64 other, .int .i64 pos, .int .i64 id, .int .i64 kind, .int .i64 dst, .int .i64 a, .int .i64 b2, .int .i64 c, .int .i64 f2, .int .i64 n, .int .i64 x0, .int .i64 x1, .int .i64 x2] 55)) = W at HBb HX0 HX1 HRP
  obtain ⟨g, hg⟩ : ∃ g, w.heap.size = g := ⟨_, rfl⟩
  have HGL := Lib.hid HBb.out.size
  rw [hg] at HBb HGL HX0 HX1 ⊢
  have HL0 := Lib.hid (HX0.out.lt (Nat.zero_lt_succ _))
  have HL1 := Lib.hid (HX1.out.lt (Nat.zero_lt_succ _))
  have HC : Hid (∀ wr, Below W.heap.size W wr → wr.cell? ⟨g, 0, none⟩ = some (.slice p.pa PL p.pc) ∧ wr.cell? ⟨g + 1, 0, none⟩ = some (.int .i64 op) ∧ wr.cell? ⟨g + 1, 1, none⟩ = some (.int .i64 f) ∧ wr.cell? ⟨g + 1, 2, none⟩ = some (.int .i64 b) ∧ wr.cell? ⟨g + 1, 3, none⟩ = some (.int .i64 tob) ∧ wr.cell? ⟨g + 1, 4, none⟩ = some (.int .i64 other) ∧ wr.rangeAt (g + 1) 0 [.int .i64 op, .int .i64 f, .int .i64 b, .int .i64 tob, .int .i64 other, .int .i64 pos, .int .i64 id, .int .i64 kind, .int .i64 dst, .int .i64 a, .int .i64 b2, .int .i64 c, .int .i64 f2, .int .i64 n, .int .i64 x0, .int .i64 x1, .int .i64 x2] ∧ True) := Lib.hid fun wr hb => ⟨((HX0.out.below hb HL0.out) 0 _ rfl).1, ((HX1.out.below hb HL1.out) 0 _ rfl).1, ((HX1.out.below hb HL1.out) 1 _ rfl).1, ((HX1.out.below hb HL1.out) 2 _ rfl).1, ((HX1.out.below hb HL1.out) 3 _ rfl).1, ((HX1.out.below hb HL1.out) 4 _ rfl).1, (HX1.out.below hb HL1.out).range, trivial⟩
  have HBN : Hid (Below W.heap.size W W) := Lib.hid (Below.refl _ _)
  obtain ⟨k0, k1, k2, k3, k4, k5, -, -⟩ := HC.out _ HBN.out
  go_enter Tryz.func11, Tryz.ntmps11
  go_wp2_with (first
    | (go_at_call 47; refine (HAW.out _ (HRP.out.on HBN.out)).mono ?_; rintro x wa ⟨rfl, hbn⟩; have hbx := HBN.out.trans (hbn.mono HBN.out.size); clear HBN hbn k0 k1 k2 k3 k4 k5; have HBN := Lib.hid hbx; clear hbx; obtain ⟨k0, k1, k2, k3, k4, k5, -, -⟩ := HC.out _ HBN.out)
    | (go_at_call 14; refine (HFE.out _ (HRP.out.on HBN.out)).mono ?_; rintro x wb ⟨rfl, hbn⟩; have hbx := HBN.out.trans (hbn.mono HBN.out.size); clear HBN hbn k0 k1 k2 k3 k4 k5; have HBN := Lib.hid hbx; clear hbx; obtain ⟨k0, k1, k2, k3, k4, k5, -, -⟩ := HC.out _ HBN.out))
  go_ret
  exact ⟨rfl, HBb.out.trans (HBN.out.mono (by rw [← hg]; exact HBb.out.size))⟩

set_option maxRecDepth 100000 in
set_option maxHeartbeats 16000000 in
theorem edgesE3 (p : Pg) (e : Ed) (b1 t1 : Int) (w : World) (h : Rd w p) (hwf : p.wf) (hfew : p.few) (hop : e.op = 3) (hc : ¬ chk p e = 0) :
    Calls Tryz.prog 11 #[p.val, e.val, .int .i64 b1, .int .i64 t1] w fun x w' => x = .returned (.bool true) ∧ Below w.heap.size w w' := by
  have HAW := Lib.hid (fun wr (h : Rd wr p) => awake8_any wr h.2.1 h.2.2)
  have HFE := Lib.hid (fun wr (h : Rd wr p) => Few_any p wr h.1 true (by simp [hfew]))
  obtain ⟨er, her⟩ : ∃ er, chk p e = er := ⟨_, rfl⟩
  have hrb : (er != 0) = true := by simp only [bne, beq_false_of_ne (show er ≠ 0 from fun h => hc (her.trans h)), Bool.not_false]
  have HAP := Lib.hid (fun wr (h : Rd wr p) => Apply_any p e wr h hfew hwf)
  simp only [AppRes, her] at HAP
  have HSM := Lib.hid (fun wr (h : Rd wr p) (q : Pg) (hr : PgIs wr.heap.size wr q) (hd : q.d = (appP p e).d) => Same_any p q wr h.1 hr hfew true (iff_of_true rfl (by rw [hd, app_same hc])))
  have HRD0 := Lib.hid h
  clear h hfew hwf hc her
  obtain ⟨op, f, b, tob, other, pos, ⟨id, kind, dst, a, b2, c, f2, n, x0, x1, x2⟩⟩ := e
  try dsimp only at *
  subst hop
  unfold Pg.val at HFE HAP HSM
  unfold Ed.val at HAP
  unfold Pg.val Ed.val
  try dsimp only at *
  obtain ⟨PL, hPL⟩ : ∃ PL, p.funs.length = PL := ⟨_, rfl⟩
  simp only [hPL] at HFE HAP HSM ⊢
  clear hPL
  have HBb := Lib.hid (below2 w (.cells #[.slice p.pa PL p.pc] 24) (.cells #[.int .i64 3, .int .i64 f, .int .i64 b, .int .i64 tob, .int .i64 other, .int .i64 pos, .int .i64 id, .int .i64 kind, .int .i64 dst, .int .i64 a, .int .i64 b2, .int .i64 c, .int .i64 f2, .int .i64 n, .int .i64 x0, .int .i64 x1, .int .i64 x2] 55))
  have hx0 := BoxL.new w [.slice p.pa PL p.pc] 24
  have HX0 := Lib.hid (show BoxL ((w.alloc (.cells #[.slice p.pa PL p.pc] 24)).alloc (.cells #[.int .i64 3, .int .i64 f, .int .i64 b, .int .i64 tob, .int .i64 other, .int .i64 pos, .int .i64 id, .int .i64 kind, .int .i64 dst, .int .i64 a, .int .i64 b2, .int .i64 c, .int .i64 f2, .int .i64 n, .int .i64 x0, .int .i64 x1, .int .i64 x2] 55)) (w.heap.size) [.slice p.pa PL p.pc] from (hx0).alloc (Nat.zero_lt_succ _) (.cells #[.int .i64 3, .int .i64 f, .int .i64 b, .int .i64 tob, .int .i64 other, .int .i64 pos, .int .i64 id, .int .i64 kind, .int .i64 dst, .int .i64 a, .int .i64 b2, .int .i64 c, .int .i64 f2, .int .i64 n, .int .i64 x0, .int .i64 x1, .int .i64 x2] 55))
  have hx1 := BoxL.new (w.alloc (.cells #[.slice p.pa PL p.pc] 24)) [.int .i64 3, .int .i64 f, .int .i64 b, .int .i64 tob, .int .i64 other, .int .i64 pos, .int .i64 id, .int .i64 kind, .int .i64 dst, .int .i64 a, .int .i64 b2, .int .i64 c, .int .i64 f2, .int .i64 n, .int .i64 x0, .int .i64 x1, .int .i64 x2] 55
  rw [World.size_alloc] at hx1
  have HX1 := Lib.hid (show BoxL ((w.alloc (.cells #[.slice p.pa PL p.pc] 24)).alloc (.cells #[.int .i64 3, .int .i64 f, .int .i64 b, .int .i64 tob, .int .i64 other, .int .i64 pos, .int .i64 id, .int .i64 kind, .int .i64 dst, .int .i64 a, .int .i64 b2, .int .i64 c, .int .i64 f2, .int .i64 n, .int .i64 x0, .int .i64 x1, .int .i64 x2] 55)) (w.heap.size + 1) [.int .i64 3, .int .i64 f, .int .i64 b, .int .i64 tob, .int .i64 other, .int .i64 pos, .int .i64 id, .int .i64 kind, .int .i64 dst, .int .i64 a, .int .i64 b2, .int .i64 c, .int .i64 f2, .int .i64 n, .int .i64 x0, .int .i64 x1, .int .i64 x2] from hx1)
  clear hx0 hx1
  have HRP := Lib.hid (HRD0.out.on HBb.out)
  generalize hW : ((w.alloc (.cells #[.slice p.pa PL p.pc] 24)).alloc (.cells #[.int .i64 3, .int .i64 f, .int .i64 b, .int .i64 tob, .int .i64 other, .int .i64 pos, .int .i64 id, .int .i64 kind, .int .i64 dst, .int .i64 a, .int .i64 b2, .int .i64 c, .int .i64 f2, .int .i64 n, .int .i64 x0, .int .i64 x1, .int .i64 x2] 55)) = W at HBb HX0 HX1 HRP
  obtain ⟨g, hg⟩ : ∃ g, w.heap.size = g := ⟨_, rfl⟩
  have HGL := Lib.hid HBb.out.size
  rw [hg] at HBb HGL HX0 HX1 ⊢
  have HL0 := Lib.hid (HX0.out.lt (Nat.zero_lt_succ _))
  have HL1 := Lib.hid (HX1.out.lt (Nat.zero_lt_succ _))
  have HC : Hid (∀ wr, Below W.heap.size W wr → wr.cell? ⟨g, 0, none⟩ = some (.slice p.pa PL p.pc) ∧ wr.cell? ⟨g + 1, 0, none⟩ = some (.int .i64 3) ∧ wr.cell? ⟨g + 1, 1, none⟩ = some (.int .i64 f) ∧ wr.cell? ⟨g + 1, 2, none⟩ = some (.int .i64 b) ∧ wr.cell? ⟨g + 1, 3, none⟩ = some (.int .i64 tob) ∧ wr.cell? ⟨g + 1, 4, none⟩ = some (.int .i64 other) ∧ wr.rangeAt (g + 1) 0 [.int .i64 3, .int .i64 f, .int .i64 b, .int .i64 tob, .int .i64 other, .int .i64 pos, .int .i64 id, .int .i64 kind, .int .i64 dst, .int .i64 a, .int .i64 b2, .int .i64 c, .int .i64 f2, .int .i64 n, .int .i64 x0, .int .i64 x1, .int .i64 x2] ∧ True) := Lib.hid fun wr hb => ⟨((HX0.out.below hb HL0.out) 0 _ rfl).1, ((HX1.out.below hb HL1.out) 0 _ rfl).1, ((HX1.out.below hb HL1.out) 1 _ rfl).1, ((HX1.out.below hb HL1.out) 2 _ rfl).1, ((HX1.out.below hb HL1.out) 3 _ rfl).1, ((HX1.out.below hb HL1.out) 4 _ rfl).1, (HX1.out.below hb HL1.out).range, trivial⟩
  have HBN : Hid (Below W.heap.size W W) := Lib.hid (Below.refl _ _)
  obtain ⟨k0, k1, k2, k3, k4, k5, -, -⟩ := HC.out _ HBN.out
  go_enter Tryz.func11, Tryz.ntmps11
  go_upto_region 4 with (first
    | (go_at_call 47; refine (HAW.out _ (HRP.out.on HBN.out)).mono ?_; rintro x wa ⟨rfl, hbn⟩; have hbx := HBN.out.trans (hbn.mono HBN.out.size); clear HBN hbn k0 k1 k2 k3 k4 k5; have HBN := Lib.hid hbx; clear hbx; obtain ⟨k0, k1, k2, k3, k4, k5, -, -⟩ := HC.out _ HBN.out)
    | (go_at_call 14; refine (HFE.out _ (HRP.out.on HBN.out)).mono ?_; rintro x wb ⟨rfl, hbn⟩; have hbx := HBN.out.trans (hbn.mono HBN.out.size); clear HBN hbn k0 k1 k2 k3 k4 k5; have HBN := Lib.hid hbx; clear hbx; obtain ⟨k0, k1, k2, k3, k4, k5, -, -⟩ := HC.out _ HBN.out))
  go_upto_region 5 with (first
    | (go_at_call 49; refine (HAP.out _ (HRP.out.on HBN.out)).mono ?_; rintro x we ⟨q, rfl, hqi, -, hqd, hbn⟩; have HQI := Lib.hid hqi; have HQD := Lib.hid hqd; clear hqi hqd; have hbx := HBN.out.trans (hbn.mono HBN.out.size); clear HBN hbn k0 k1 k2 k3 k4 k5; have HBN := Lib.hid hbx; clear hbx; obtain ⟨k0, k1, k2, k3, k4, k5, -, -⟩ := HC.out _ HBN.out)
    | ((with_reducible apply wpList_load_w (ty := 55) (b := g + 1) (o := 0) (cs := [.int .i64 3, .int .i64 f, .int .i64 b, .int .i64 tob, .int .i64 other, .int .i64 pos, .int .i64 id, .int .i64 kind, .int .i64 dst, .int .i64 a, .int .i64 b2, .int .i64 c, .int .i64 f2, .int .i64 n, .int .i64 x0, .int .i64 x1, .int .i64 x2])); rotate_left; rfl; rfl; exact (HC.out _ HBN.out).2.2.2.2.2.2.1; exact Tryz.underlying55; rfl; kernel_rfl; rotate_left; rfl; simp only [Act.put, List.setIfInBounds_toArray, List.set_cons_zero, List.set_cons_succ]))
  obtain ⟨QL, hQL⟩ : ∃ QL, q.funs.length = QL := ⟨_, rfl⟩
  have HQL := Lib.hid hQL
  simp only [hQL]
  clear hQL
  have hb_ := below1 we (.cells #[.slice q.pa QL q.pc] 24)
  have HXgq : Hid (BoxL (we.alloc (.cells #[.slice q.pa QL q.pc] 24)) we.heap.size [.slice q.pa QL q.pc]) := Lib.hid (BoxL.new we _ _)
  have HRQ := Lib.hid (show Rd (we.alloc (.cells #[.slice q.pa QL q.pc] 24)) q from (show Rd we q from ⟨HQI.out, (HRP.out.on HBN.out).2.1, (HRP.out.on HBN.out).2.2⟩).on hb_)
  have HBM := Lib.hid (HBN.out.trans (hb_.mono HBN.out.size))
  clear hb_ HBN k0 k1 k2 k3 k4 k5
  generalize we.alloc (.cells #[.slice q.pa QL q.pc] 24) = W5 at *
  generalize we.heap.size = gq at *
  have HLgq := Lib.hid (HXgq.out.lt (Nat.zero_lt_succ _))
  replace HRP := Lib.hid (HRP.out.on HBM.out)
  have HBW1 := Lib.hid (HBb.out.trans (HBM.out.mono (by rw [← hg]; exact HBb.out.size)))
  have HC1 : Hid (∀ wr, Below W5.heap.size W5 wr → wr.cell? ⟨g, 0, none⟩ = some (.slice p.pa PL p.pc) ∧ wr.cell? ⟨g + 1, 0, none⟩ = some (.int .i64 3) ∧ wr.cell? ⟨g + 1, 1, none⟩ = some (.int .i64 f) ∧ wr.cell? ⟨g + 1, 2, none⟩ = some (.int .i64 b) ∧ wr.cell? ⟨g + 1, 3, none⟩ = some (.int .i64 tob) ∧ wr.cell? ⟨g + 1, 4, none⟩ = some (.int .i64 other) ∧ wr.rangeAt (g + 1) 0 [.int .i64 3, .int .i64 f, .int .i64 b, .int .i64 tob, .int .i64 other, .int .i64 pos, .int .i64 id, .int .i64 kind, .int .i64 dst, .int .i64 a, .int .i64 b2, .int .i64 c, .int .i64 f2, .int .i64 n, .int .i64 x0, .int .i64 x1, .int .i64 x2] ∧ wr.cell? ⟨gq, 0, none⟩ = some (.slice q.pa QL q.pc) ∧ True) := Lib.hid fun wr hb => have h := HC.out wr (HBM.out.trans (hb.mono HBM.out.size)); ⟨h.1, h.2.1, h.2.2.1, h.2.2.2.1, h.2.2.2.2.1, h.2.2.2.2.2.1, h.2.2.2.2.2.2.1, ((HXgq.out.below hb HLgq.out) 0 _ rfl).1, trivial⟩
  clear HC HBM
  have HBN : Hid (Below W5.heap.size W5 W5) := Lib.hid (Below.refl _ _)
  obtain ⟨k0, k1, k2, k3, k4, k5, -, k7, -⟩ := HC1.out _ HBN.out
  have HSM7 := Lib.hid (fun wr (hb : Below W5.heap.size W5 wr) => HSM.out wr (HRP.out.on hb) q (HRQ.out.on hb).1 HQD.out)
  unfold Pg.val at HSM7
  simp only [HQL.out] at HSM7
  go_wp2_with (go_at_call 57; refine (HSM7.out _ HBN.out).mono ?_; rintro x ws ⟨rfl, hbn⟩; have hbx := HBN.out.trans (hbn.mono HBN.out.size); clear HBN hbn k0 k1 k2 k3 k4 k5 k7; have HBN := Lib.hid hbx; clear hbx; obtain ⟨k0, k1, k2, k3, k4, k5, -, k7, -⟩ := HC1.out _ HBN.out)
  go_ret
  exact ⟨rfl, HBW1.out.trans (HBN.out.mono (by rw [← hg]; exact HBW1.out.size))⟩

set_option maxRecDepth 100000 in
set_option maxHeartbeats 16000000 in
theorem edgesE4 (p : Pg) (e : Ed) (b1 t1 : Int) (w : World) (h : Rd w p) (hwf : p.wf) (hfew : p.few) (hop : e.op = 4) (hc : ¬ chk p e = 0) :
    Calls Tryz.prog 11 #[p.val, e.val, .int .i64 b1, .int .i64 t1] w fun x w' => x = .returned (.bool true) ∧ Below w.heap.size w w' := by
  have HAW := Lib.hid (fun wr (h : Rd wr p) => awake8_any wr h.2.1 h.2.2)
  have HFE := Lib.hid (fun wr (h : Rd wr p) => Few_any p wr h.1 true (by simp [hfew]))
  obtain ⟨er, her⟩ : ∃ er, chk p e = er := ⟨_, rfl⟩
  have hrb : (er != 0) = true := by simp only [bne, beq_false_of_ne (show er ≠ 0 from fun h => hc (her.trans h)), Bool.not_false]
  have HAP := Lib.hid (fun wr (h : Rd wr p) => Apply_any p e wr h hfew hwf)
  simp only [AppRes, her] at HAP
  have HSM := Lib.hid (fun wr (h : Rd wr p) (q : Pg) (hr : PgIs wr.heap.size wr q) (hd : q.d = (appP p e).d) => Same_any p q wr h.1 hr hfew true (iff_of_true rfl (by rw [hd, app_same hc])))
  have HRD0 := Lib.hid h
  clear h hfew hwf hc her
  obtain ⟨op, f, b, tob, other, pos, ⟨id, kind, dst, a, b2, c, f2, n, x0, x1, x2⟩⟩ := e
  try dsimp only at *
  subst hop
  unfold Pg.val at HFE HAP HSM
  unfold Ed.val at HAP
  unfold Pg.val Ed.val
  try dsimp only at *
  obtain ⟨PL, hPL⟩ : ∃ PL, p.funs.length = PL := ⟨_, rfl⟩
  simp only [hPL] at HFE HAP HSM ⊢
  clear hPL
  have HBb := Lib.hid (below2 w (.cells #[.slice p.pa PL p.pc] 24) (.cells #[.int .i64 4, .int .i64 f, .int .i64 b, .int .i64 tob, .int .i64 other, .int .i64 pos, .int .i64 id, .int .i64 kind, .int .i64 dst, .int .i64 a, .int .i64 b2, .int .i64 c, .int .i64 f2, .int .i64 n, .int .i64 x0, .int .i64 x1, .int .i64 x2] 55))
  have hx0 := BoxL.new w [.slice p.pa PL p.pc] 24
  have HX0 := Lib.hid (show BoxL ((w.alloc (.cells #[.slice p.pa PL p.pc] 24)).alloc (.cells #[.int .i64 4, .int .i64 f, .int .i64 b, .int .i64 tob, .int .i64 other, .int .i64 pos, .int .i64 id, .int .i64 kind, .int .i64 dst, .int .i64 a, .int .i64 b2, .int .i64 c, .int .i64 f2, .int .i64 n, .int .i64 x0, .int .i64 x1, .int .i64 x2] 55)) (w.heap.size) [.slice p.pa PL p.pc] from (hx0).alloc (Nat.zero_lt_succ _) (.cells #[.int .i64 4, .int .i64 f, .int .i64 b, .int .i64 tob, .int .i64 other, .int .i64 pos, .int .i64 id, .int .i64 kind, .int .i64 dst, .int .i64 a, .int .i64 b2, .int .i64 c, .int .i64 f2, .int .i64 n, .int .i64 x0, .int .i64 x1, .int .i64 x2] 55))
  have hx1 := BoxL.new (w.alloc (.cells #[.slice p.pa PL p.pc] 24)) [.int .i64 4, .int .i64 f, .int .i64 b, .int .i64 tob, .int .i64 other, .int .i64 pos, .int .i64 id, .int .i64 kind, .int .i64 dst, .int .i64 a, .int .i64 b2, .int .i64 c, .int .i64 f2, .int .i64 n, .int .i64 x0, .int .i64 x1, .int .i64 x2] 55
  rw [World.size_alloc] at hx1
  have HX1 := Lib.hid (show BoxL ((w.alloc (.cells #[.slice p.pa PL p.pc] 24)).alloc (.cells #[.int .i64 4, .int .i64 f, .int .i64 b, .int .i64 tob, .int .i64 other, .int .i64 pos, .int .i64 id, .int .i64 kind, .int .i64 dst, .int .i64 a, .int .i64 b2, .int .i64 c, .int .i64 f2, .int .i64 n, .int .i64 x0, .int .i64 x1, .int .i64 x2] 55)) (w.heap.size + 1) [.int .i64 4, .int .i64 f, .int .i64 b, .int .i64 tob, .int .i64 other, .int .i64 pos, .int .i64 id, .int .i64 kind, .int .i64 dst, .int .i64 a, .int .i64 b2, .int .i64 c, .int .i64 f2, .int .i64 n, .int .i64 x0, .int .i64 x1, .int .i64 x2] from hx1)
  clear hx0 hx1
  have HRP := Lib.hid (HRD0.out.on HBb.out)
  generalize hW : ((w.alloc (.cells #[.slice p.pa PL p.pc] 24)).alloc (.cells #[.int .i64 4, .int .i64 f, .int .i64 b, .int .i64 tob, .int .i64 other, .int .i64 pos, .int .i64 id, .int .i64 kind, .int .i64 dst, .int .i64 a, .int .i64 b2, .int .i64 c, .int .i64 f2, .int .i64 n, .int .i64 x0, .int .i64 x1, .int .i64 x2] 55)) = W at HBb HX0 HX1 HRP
  obtain ⟨g, hg⟩ : ∃ g, w.heap.size = g := ⟨_, rfl⟩
  have HGL := Lib.hid HBb.out.size
  rw [hg] at HBb HGL HX0 HX1 ⊢
  have HL0 := Lib.hid (HX0.out.lt (Nat.zero_lt_succ _))
  have HL1 := Lib.hid (HX1.out.lt (Nat.zero_lt_succ _))
  have HC : Hid (∀ wr, Below W.heap.size W wr → wr.cell? ⟨g, 0, none⟩ = some (.slice p.pa PL p.pc) ∧ wr.cell? ⟨g + 1, 0, none⟩ = some (.int .i64 4) ∧ wr.cell? ⟨g + 1, 1, none⟩ = some (.int .i64 f) ∧ wr.cell? ⟨g + 1, 2, none⟩ = some (.int .i64 b) ∧ wr.cell? ⟨g + 1, 3, none⟩ = some (.int .i64 tob) ∧ wr.cell? ⟨g + 1, 4, none⟩ = some (.int .i64 other) ∧ wr.rangeAt (g + 1) 0 [.int .i64 4, .int .i64 f, .int .i64 b, .int .i64 tob, .int .i64 other, .int .i64 pos, .int .i64 id, .int .i64 kind, .int .i64 dst, .int .i64 a, .int .i64 b2, .int .i64 c, .int .i64 f2, .int .i64 n, .int .i64 x0, .int .i64 x1, .int .i64 x2] ∧ True) := Lib.hid fun wr hb => ⟨((HX0.out.below hb HL0.out) 0 _ rfl).1, ((HX1.out.below hb HL1.out) 0 _ rfl).1, ((HX1.out.below hb HL1.out) 1 _ rfl).1, ((HX1.out.below hb HL1.out) 2 _ rfl).1, ((HX1.out.below hb HL1.out) 3 _ rfl).1, ((HX1.out.below hb HL1.out) 4 _ rfl).1, (HX1.out.below hb HL1.out).range, trivial⟩
  have HBN : Hid (Below W.heap.size W W) := Lib.hid (Below.refl _ _)
  obtain ⟨k0, k1, k2, k3, k4, k5, -, -⟩ := HC.out _ HBN.out
  go_enter Tryz.func11, Tryz.ntmps11
  go_upto_region 4 with (first
    | (go_at_call 47; refine (HAW.out _ (HRP.out.on HBN.out)).mono ?_; rintro x wa ⟨rfl, hbn⟩; have hbx := HBN.out.trans (hbn.mono HBN.out.size); clear HBN hbn k0 k1 k2 k3 k4 k5; have HBN := Lib.hid hbx; clear hbx; obtain ⟨k0, k1, k2, k3, k4, k5, -, -⟩ := HC.out _ HBN.out)
    | (go_at_call 14; refine (HFE.out _ (HRP.out.on HBN.out)).mono ?_; rintro x wb ⟨rfl, hbn⟩; have hbx := HBN.out.trans (hbn.mono HBN.out.size); clear HBN hbn k0 k1 k2 k3 k4 k5; have HBN := Lib.hid hbx; clear hbx; obtain ⟨k0, k1, k2, k3, k4, k5, -, -⟩ := HC.out _ HBN.out))
  go_upto_region 5 with (first
    | (go_at_call 49; refine (HAP.out _ (HRP.out.on HBN.out)).mono ?_; rintro x we ⟨q, rfl, hqi, -, hqd, hbn⟩; have HQI := Lib.hid hqi; have HQD := Lib.hid hqd; clear hqi hqd; have hbx := HBN.out.trans (hbn.mono HBN.out.size); clear HBN hbn k0 k1 k2 k3 k4 k5; have HBN := Lib.hid hbx; clear hbx; obtain ⟨k0, k1, k2, k3, k4, k5, -, -⟩ := HC.out _ HBN.out)
    | ((with_reducible apply wpList_load_w (ty := 55) (b := g + 1) (o := 0) (cs := [.int .i64 4, .int .i64 f, .int .i64 b, .int .i64 tob, .int .i64 other, .int .i64 pos, .int .i64 id, .int .i64 kind, .int .i64 dst, .int .i64 a, .int .i64 b2, .int .i64 c, .int .i64 f2, .int .i64 n, .int .i64 x0, .int .i64 x1, .int .i64 x2])); rotate_left; rfl; rfl; exact (HC.out _ HBN.out).2.2.2.2.2.2.1; exact Tryz.underlying55; rfl; kernel_rfl; rotate_left; rfl; simp only [Act.put, List.setIfInBounds_toArray, List.set_cons_zero, List.set_cons_succ]))
  obtain ⟨QL, hQL⟩ : ∃ QL, q.funs.length = QL := ⟨_, rfl⟩
  have HQL := Lib.hid hQL
  simp only [hQL]
  clear hQL
  have hb_ := below1 we (.cells #[.slice q.pa QL q.pc] 24)
  have HXgq : Hid (BoxL (we.alloc (.cells #[.slice q.pa QL q.pc] 24)) we.heap.size [.slice q.pa QL q.pc]) := Lib.hid (BoxL.new we _ _)
  have HRQ := Lib.hid (show Rd (we.alloc (.cells #[.slice q.pa QL q.pc] 24)) q from (show Rd we q from ⟨HQI.out, (HRP.out.on HBN.out).2.1, (HRP.out.on HBN.out).2.2⟩).on hb_)
  have HBM := Lib.hid (HBN.out.trans (hb_.mono HBN.out.size))
  clear hb_ HBN k0 k1 k2 k3 k4 k5
  generalize we.alloc (.cells #[.slice q.pa QL q.pc] 24) = W5 at *
  generalize we.heap.size = gq at *
  have HLgq := Lib.hid (HXgq.out.lt (Nat.zero_lt_succ _))
  replace HRP := Lib.hid (HRP.out.on HBM.out)
  have HBW1 := Lib.hid (HBb.out.trans (HBM.out.mono (by rw [← hg]; exact HBb.out.size)))
  have HC1 : Hid (∀ wr, Below W5.heap.size W5 wr → wr.cell? ⟨g, 0, none⟩ = some (.slice p.pa PL p.pc) ∧ wr.cell? ⟨g + 1, 0, none⟩ = some (.int .i64 4) ∧ wr.cell? ⟨g + 1, 1, none⟩ = some (.int .i64 f) ∧ wr.cell? ⟨g + 1, 2, none⟩ = some (.int .i64 b) ∧ wr.cell? ⟨g + 1, 3, none⟩ = some (.int .i64 tob) ∧ wr.cell? ⟨g + 1, 4, none⟩ = some (.int .i64 other) ∧ wr.rangeAt (g + 1) 0 [.int .i64 4, .int .i64 f, .int .i64 b, .int .i64 tob, .int .i64 other, .int .i64 pos, .int .i64 id, .int .i64 kind, .int .i64 dst, .int .i64 a, .int .i64 b2, .int .i64 c, .int .i64 f2, .int .i64 n, .int .i64 x0, .int .i64 x1, .int .i64 x2] ∧ wr.cell? ⟨gq, 0, none⟩ = some (.slice q.pa QL q.pc) ∧ True) := Lib.hid fun wr hb => have h := HC.out wr (HBM.out.trans (hb.mono HBM.out.size)); ⟨h.1, h.2.1, h.2.2.1, h.2.2.2.1, h.2.2.2.2.1, h.2.2.2.2.2.1, h.2.2.2.2.2.2.1, ((HXgq.out.below hb HLgq.out) 0 _ rfl).1, trivial⟩
  clear HC HBM
  have HBN : Hid (Below W5.heap.size W5 W5) := Lib.hid (Below.refl _ _)
  obtain ⟨k0, k1, k2, k3, k4, k5, -, k7, -⟩ := HC1.out _ HBN.out
  have HSM7 := Lib.hid (fun wr (hb : Below W5.heap.size W5 wr) => HSM.out wr (HRP.out.on hb) q (HRQ.out.on hb).1 HQD.out)
  unfold Pg.val at HSM7
  simp only [HQL.out] at HSM7
  go_wp2_with (go_at_call 57; refine (HSM7.out _ HBN.out).mono ?_; rintro x ws ⟨rfl, hbn⟩; have hbx := HBN.out.trans (hbn.mono HBN.out.size); clear HBN hbn k0 k1 k2 k3 k4 k5 k7; have HBN := Lib.hid hbx; clear hbx; obtain ⟨k0, k1, k2, k3, k4, k5, -, k7, -⟩ := HC1.out _ HBN.out)
  go_ret
  exact ⟨rfl, HBW1.out.trans (HBN.out.mono (by rw [← hg]; exact HBW1.out.size))⟩

set_option maxRecDepth 100000 in
set_option maxHeartbeats 16000000 in
theorem edgesE5 (p : Pg) (e : Ed) (b1 t1 : Int) (w : World) (h : Rd w p) (hwf : p.wf) (hfew : p.few) (hop : e.op = 5) (hc : ¬ chk p e = 0) :
    Calls Tryz.prog 11 #[p.val, e.val, .int .i64 b1, .int .i64 t1] w fun x w' => x = .returned (.bool true) ∧ Below w.heap.size w w' := by
  have HAW := Lib.hid (fun wr (h : Rd wr p) => awake8_any wr h.2.1 h.2.2)
  have HFE := Lib.hid (fun wr (h : Rd wr p) => Few_any p wr h.1 true (by simp [hfew]))
  obtain ⟨er, her⟩ : ∃ er, chk p e = er := ⟨_, rfl⟩
  have hrb : (er != 0) = true := by simp only [bne, beq_false_of_ne (show er ≠ 0 from fun h => hc (her.trans h)), Bool.not_false]
  have HAP := Lib.hid (fun wr (h : Rd wr p) => Apply_any p e wr h hfew hwf)
  simp only [AppRes, her] at HAP
  have HSM := Lib.hid (fun wr (h : Rd wr p) (q : Pg) (hr : PgIs wr.heap.size wr q) (hd : q.d = (appP p e).d) => Same_any p q wr h.1 hr hfew true (iff_of_true rfl (by rw [hd, app_same hc])))
  have HRD0 := Lib.hid h
  clear h hfew hwf hc her
  obtain ⟨op, f, b, tob, other, pos, ⟨id, kind, dst, a, b2, c, f2, n, x0, x1, x2⟩⟩ := e
  try dsimp only at *
  subst hop
  unfold Pg.val at HFE HAP HSM
  unfold Ed.val at HAP
  unfold Pg.val Ed.val
  try dsimp only at *
  obtain ⟨PL, hPL⟩ : ∃ PL, p.funs.length = PL := ⟨_, rfl⟩
  simp only [hPL] at HFE HAP HSM ⊢
  clear hPL
  have HBb := Lib.hid (below2 w (.cells #[.slice p.pa PL p.pc] 24) (.cells #[.int .i64 5, .int .i64 f, .int .i64 b, .int .i64 tob, .int .i64 other, .int .i64 pos, .int .i64 id, .int .i64 kind, .int .i64 dst, .int .i64 a, .int .i64 b2, .int .i64 c, .int .i64 f2, .int .i64 n, .int .i64 x0, .int .i64 x1, .int .i64 x2] 55))
  have hx0 := BoxL.new w [.slice p.pa PL p.pc] 24
  have HX0 := Lib.hid (show BoxL ((w.alloc (.cells #[.slice p.pa PL p.pc] 24)).alloc (.cells #[.int .i64 5, .int .i64 f, .int .i64 b, .int .i64 tob, .int .i64 other, .int .i64 pos, .int .i64 id, .int .i64 kind, .int .i64 dst, .int .i64 a, .int .i64 b2, .int .i64 c, .int .i64 f2, .int .i64 n, .int .i64 x0, .int .i64 x1, .int .i64 x2] 55)) (w.heap.size) [.slice p.pa PL p.pc] from (hx0).alloc (Nat.zero_lt_succ _) (.cells #[.int .i64 5, .int .i64 f, .int .i64 b, .int .i64 tob, .int .i64 other, .int .i64 pos, .int .i64 id, .int .i64 kind, .int .i64 dst, .int .i64 a, .int .i64 b2, .int .i64 c, .int .i64 f2, .int .i64 n, .int .i64 x0, .int .i64 x1, .int .i64 x2] 55))
  have hx1 := BoxL.new (w.alloc (.cells #[.slice p.pa PL p.pc] 24)) [.int .i64 5, .int .i64 f, .int .i64 b, .int .i64 tob, .int .i64 other, .int .i64 pos, .int .i64 id, .int .i64 kind, .int .i64 dst, .int .i64 a, .int .i64 b2, .int .i64 c, .int .i64 f2, .int .i64 n, .int .i64 x0, .int .i64 x1, .int .i64 x2] 55
  rw [World.size_alloc] at hx1
  have HX1 := Lib.hid (show BoxL ((w.alloc (.cells #[.slice p.pa PL p.pc] 24)).alloc (.cells #[.int .i64 5, .int .i64 f, .int .i64 b, .int .i64 tob, .int .i64 other, .int .i64 pos, .int .i64 id, .int .i64 kind, .int .i64 dst, .int .i64 a, .int .i64 b2, .int .i64 c, .int .i64 f2, .int .i64 n, .int .i64 x0, .int .i64 x1, .int .i64 x2] 55)) (w.heap.size + 1) [.int .i64 5, .int .i64 f, .int .i64 b, .int .i64 tob, .int .i64 other, .int .i64 pos, .int .i64 id, .int .i64 kind, .int .i64 dst, .int .i64 a, .int .i64 b2, .int .i64 c, .int .i64 f2, .int .i64 n, .int .i64 x0, .int .i64 x1, .int .i64 x2] from hx1)
  clear hx0 hx1
  have HRP := Lib.hid (HRD0.out.on HBb.out)
  generalize hW : ((w.alloc (.cells #[.slice p.pa PL p.pc] 24)).alloc (.cells #[.int .i64 5, .int .i64 f, .int .i64 b, .int .i64 tob, .int .i64 other, .int .i64 pos, .int .i64 id, .int .i64 kind, .int .i64 dst, .int .i64 a, .int .i64 b2, .int .i64 c, .int .i64 f2, .int .i64 n, .int .i64 x0, .int .i64 x1, .int .i64 x2] 55)) = W at HBb HX0 HX1 HRP
  obtain ⟨g, hg⟩ : ∃ g, w.heap.size = g := ⟨_, rfl⟩
  have HGL := Lib.hid HBb.out.size
  rw [hg] at HBb HGL HX0 HX1 ⊢
  have HL0 := Lib.hid (HX0.out.lt (Nat.zero_lt_succ _))
  have HL1 := Lib.hid (HX1.out.lt (Nat.zero_lt_succ _))
  have HC : Hid (∀ wr, Below W.heap.size W wr → wr.cell? ⟨g, 0, none⟩ = some (.slice p.pa PL p.pc) ∧ wr.cell? ⟨g + 1, 0, none⟩ = some (.int .i64 5) ∧ wr.cell? ⟨g + 1, 1, none⟩ = some (.int .i64 f) ∧ wr.cell? ⟨g + 1, 2, none⟩ = some (.int .i64 b) ∧ wr.cell? ⟨g + 1, 3, none⟩ = some (.int .i64 tob) ∧ wr.cell? ⟨g + 1, 4, none⟩ = some (.int .i64 other) ∧ wr.rangeAt (g + 1) 0 [.int .i64 5, .int .i64 f, .int .i64 b, .int .i64 tob, .int .i64 other, .int .i64 pos, .int .i64 id, .int .i64 kind, .int .i64 dst, .int .i64 a, .int .i64 b2, .int .i64 c, .int .i64 f2, .int .i64 n, .int .i64 x0, .int .i64 x1, .int .i64 x2] ∧ True) := Lib.hid fun wr hb => ⟨((HX0.out.below hb HL0.out) 0 _ rfl).1, ((HX1.out.below hb HL1.out) 0 _ rfl).1, ((HX1.out.below hb HL1.out) 1 _ rfl).1, ((HX1.out.below hb HL1.out) 2 _ rfl).1, ((HX1.out.below hb HL1.out) 3 _ rfl).1, ((HX1.out.below hb HL1.out) 4 _ rfl).1, (HX1.out.below hb HL1.out).range, trivial⟩
  have HBN : Hid (Below W.heap.size W W) := Lib.hid (Below.refl _ _)
  obtain ⟨k0, k1, k2, k3, k4, k5, -, -⟩ := HC.out _ HBN.out
  go_enter Tryz.func11, Tryz.ntmps11
  go_upto_region 4 with (first
    | (go_at_call 47; refine (HAW.out _ (HRP.out.on HBN.out)).mono ?_; rintro x wa ⟨rfl, hbn⟩; have hbx := HBN.out.trans (hbn.mono HBN.out.size); clear HBN hbn k0 k1 k2 k3 k4 k5; have HBN := Lib.hid hbx; clear hbx; obtain ⟨k0, k1, k2, k3, k4, k5, -, -⟩ := HC.out _ HBN.out)
    | (go_at_call 14; refine (HFE.out _ (HRP.out.on HBN.out)).mono ?_; rintro x wb ⟨rfl, hbn⟩; have hbx := HBN.out.trans (hbn.mono HBN.out.size); clear HBN hbn k0 k1 k2 k3 k4 k5; have HBN := Lib.hid hbx; clear hbx; obtain ⟨k0, k1, k2, k3, k4, k5, -, -⟩ := HC.out _ HBN.out))
  go_upto_region 5 with (first
    | (go_at_call 49; refine (HAP.out _ (HRP.out.on HBN.out)).mono ?_; rintro x we ⟨q, rfl, hqi, -, hqd, hbn⟩; have HQI := Lib.hid hqi; have HQD := Lib.hid hqd; clear hqi hqd; have hbx := HBN.out.trans (hbn.mono HBN.out.size); clear HBN hbn k0 k1 k2 k3 k4 k5; have HBN := Lib.hid hbx; clear hbx; obtain ⟨k0, k1, k2, k3, k4, k5, -, -⟩ := HC.out _ HBN.out)
    | ((with_reducible apply wpList_load_w (ty := 55) (b := g + 1) (o := 0) (cs := [.int .i64 5, .int .i64 f, .int .i64 b, .int .i64 tob, .int .i64 other, .int .i64 pos, .int .i64 id, .int .i64 kind, .int .i64 dst, .int .i64 a, .int .i64 b2, .int .i64 c, .int .i64 f2, .int .i64 n, .int .i64 x0, .int .i64 x1, .int .i64 x2])); rotate_left; rfl; rfl; exact (HC.out _ HBN.out).2.2.2.2.2.2.1; exact Tryz.underlying55; rfl; kernel_rfl; rotate_left; rfl; simp only [Act.put, List.setIfInBounds_toArray, List.set_cons_zero, List.set_cons_succ]))
  obtain ⟨QL, hQL⟩ : ∃ QL, q.funs.length = QL := ⟨_, rfl⟩
  have HQL := Lib.hid hQL
  simp only [hQL]
  clear hQL
  have hb_ := below1 we (.cells #[.slice q.pa QL q.pc] 24)
  have HXgq : Hid (BoxL (we.alloc (.cells #[.slice q.pa QL q.pc] 24)) we.heap.size [.slice q.pa QL q.pc]) := Lib.hid (BoxL.new we _ _)
  have HRQ := Lib.hid (show Rd (we.alloc (.cells #[.slice q.pa QL q.pc] 24)) q from (show Rd we q from ⟨HQI.out, (HRP.out.on HBN.out).2.1, (HRP.out.on HBN.out).2.2⟩).on hb_)
  have HBM := Lib.hid (HBN.out.trans (hb_.mono HBN.out.size))
  clear hb_ HBN k0 k1 k2 k3 k4 k5
  generalize we.alloc (.cells #[.slice q.pa QL q.pc] 24) = W5 at *
  generalize we.heap.size = gq at *
  have HLgq := Lib.hid (HXgq.out.lt (Nat.zero_lt_succ _))
  replace HRP := Lib.hid (HRP.out.on HBM.out)
  have HBW1 := Lib.hid (HBb.out.trans (HBM.out.mono (by rw [← hg]; exact HBb.out.size)))
  have HC1 : Hid (∀ wr, Below W5.heap.size W5 wr → wr.cell? ⟨g, 0, none⟩ = some (.slice p.pa PL p.pc) ∧ wr.cell? ⟨g + 1, 0, none⟩ = some (.int .i64 5) ∧ wr.cell? ⟨g + 1, 1, none⟩ = some (.int .i64 f) ∧ wr.cell? ⟨g + 1, 2, none⟩ = some (.int .i64 b) ∧ wr.cell? ⟨g + 1, 3, none⟩ = some (.int .i64 tob) ∧ wr.cell? ⟨g + 1, 4, none⟩ = some (.int .i64 other) ∧ wr.rangeAt (g + 1) 0 [.int .i64 5, .int .i64 f, .int .i64 b, .int .i64 tob, .int .i64 other, .int .i64 pos, .int .i64 id, .int .i64 kind, .int .i64 dst, .int .i64 a, .int .i64 b2, .int .i64 c, .int .i64 f2, .int .i64 n, .int .i64 x0, .int .i64 x1, .int .i64 x2] ∧ wr.cell? ⟨gq, 0, none⟩ = some (.slice q.pa QL q.pc) ∧ True) := Lib.hid fun wr hb => have h := HC.out wr (HBM.out.trans (hb.mono HBM.out.size)); ⟨h.1, h.2.1, h.2.2.1, h.2.2.2.1, h.2.2.2.2.1, h.2.2.2.2.2.1, h.2.2.2.2.2.2.1, ((HXgq.out.below hb HLgq.out) 0 _ rfl).1, trivial⟩
  clear HC HBM
  have HBN : Hid (Below W5.heap.size W5 W5) := Lib.hid (Below.refl _ _)
  obtain ⟨k0, k1, k2, k3, k4, k5, -, k7, -⟩ := HC1.out _ HBN.out
  have HSM7 := Lib.hid (fun wr (hb : Below W5.heap.size W5 wr) => HSM.out wr (HRP.out.on hb) q (HRQ.out.on hb).1 HQD.out)
  unfold Pg.val at HSM7
  simp only [HQL.out] at HSM7
  go_wp2_with (go_at_call 57; refine (HSM7.out _ HBN.out).mono ?_; rintro x ws ⟨rfl, hbn⟩; have hbx := HBN.out.trans (hbn.mono HBN.out.size); clear HBN hbn k0 k1 k2 k3 k4 k5 k7; have HBN := Lib.hid hbx; clear hbx; obtain ⟨k0, k1, k2, k3, k4, k5, -, k7, -⟩ := HC1.out _ HBN.out)
  go_ret
  exact ⟨rfl, HBW1.out.trans (HBN.out.mono (by rw [← hg]; exact HBW1.out.size))⟩

set_option maxRecDepth 100000 in
set_option maxHeartbeats 16000000 in
theorem edges3 (p : Pg) (e : Ed) (b1 t1 : Int) (w : World) (h : Rd w p) (hwf : p.wf) (hfew : p.few) (hop : e.op = 3) (hc : chk p e = 0) :
    Calls Tryz.prog 11 #[p.val, e.val, .int .i64 b1, .int .i64 t1] w fun x w' => x = .returned (.bool true) ∧ Below w.heap.size w w' := by
  have HAW := Lib.hid (fun wr (h : Rd wr p) => awake8_any wr h.2.1 h.2.2)
  have HFE := Lib.hid (fun wr (h : Rd wr p) => Few_any p wr h.1 true (by simp [hfew]))
  have her := hc
  have HAP := Lib.hid (fun wr (h : Rd wr p) => Apply_any p e wr h hfew hwf)
  simp only [AppRes, her] at HAP
  have hae := app_edges hc (by omega)
  have HQF := Lib.hid (fun (q : Pg) (hq : q.d = (appP p e).d) => (Pg.few_of_d hq).2 (few_app hfew e))
  have HQE := Lib.hid (fun (q : Pg) (hq : q.d = (appP p e).d) (b t : Int) => show edgeB q e.f b t = edgeB (appP p e) e.f b t from by rw [← edgeB_d q, hq, edgeB_d])
  have HKP := Lib.hid (fun wr (h : Rd wr p) (b : Int) y hy r hr => Block_any p e.f b wr h.1 h.2.1 h.2.2 hfew y hy r hr)
  have HFW := Lib.hid hfew
  obtain ⟨A0, hA0⟩ : ∃ A0, appP p e = A0 := ⟨_, rfl⟩
  rw [hA0] at hae HQE HQF HAP
  clear hA0
  have HRD0 := Lib.hid h
  clear h hfew hwf hc her
  obtain ⟨op, f, b, tob, other, pos, ⟨id, kind, dst, a, b2, c, f2, n, x0, x1, x2⟩⟩ := e
  try dsimp only at *
  subst hop
  unfold Pg.val at HFE HAP HKP
  unfold Ed.val at HAP
  unfold Pg.val Ed.val
  try dsimp only at *
  obtain ⟨PL, hPL⟩ : ∃ PL, p.funs.length = PL := ⟨_, rfl⟩
  simp only [hPL] at HFE HAP HKP ⊢
  clear hPL
  have HBb := Lib.hid (below2 w (.cells #[.slice p.pa PL p.pc] 24) (.cells #[.int .i64 3, .int .i64 f, .int .i64 b, .int .i64 tob, .int .i64 other, .int .i64 pos, .int .i64 id, .int .i64 kind, .int .i64 dst, .int .i64 a, .int .i64 b2, .int .i64 c, .int .i64 f2, .int .i64 n, .int .i64 x0, .int .i64 x1, .int .i64 x2] 55))
  have hx0 := BoxL.new w [.slice p.pa PL p.pc] 24
  have HX0 := Lib.hid (show BoxL ((w.alloc (.cells #[.slice p.pa PL p.pc] 24)).alloc (.cells #[.int .i64 3, .int .i64 f, .int .i64 b, .int .i64 tob, .int .i64 other, .int .i64 pos, .int .i64 id, .int .i64 kind, .int .i64 dst, .int .i64 a, .int .i64 b2, .int .i64 c, .int .i64 f2, .int .i64 n, .int .i64 x0, .int .i64 x1, .int .i64 x2] 55)) (w.heap.size) [.slice p.pa PL p.pc] from (hx0).alloc (Nat.zero_lt_succ _) (.cells #[.int .i64 3, .int .i64 f, .int .i64 b, .int .i64 tob, .int .i64 other, .int .i64 pos, .int .i64 id, .int .i64 kind, .int .i64 dst, .int .i64 a, .int .i64 b2, .int .i64 c, .int .i64 f2, .int .i64 n, .int .i64 x0, .int .i64 x1, .int .i64 x2] 55))
  have hx1 := BoxL.new (w.alloc (.cells #[.slice p.pa PL p.pc] 24)) [.int .i64 3, .int .i64 f, .int .i64 b, .int .i64 tob, .int .i64 other, .int .i64 pos, .int .i64 id, .int .i64 kind, .int .i64 dst, .int .i64 a, .int .i64 b2, .int .i64 c, .int .i64 f2, .int .i64 n, .int .i64 x0, .int .i64 x1, .int .i64 x2] 55
  rw [World.size_alloc] at hx1
  have HX1 := Lib.hid (show BoxL ((w.alloc (.cells #[.slice p.pa PL p.pc] 24)).alloc (.cells #[.int .i64 3, .int .i64 f, .int .i64 b, .int .i64 tob, .int .i64 other, .int .i64 pos, .int .i64 id, .int .i64 kind, .int .i64 dst, .int .i64 a, .int .i64 b2, .int .i64 c, .int .i64 f2, .int .i64 n, .int .i64 x0, .int .i64 x1, .int .i64 x2] 55)) (w.heap.size + 1) [.int .i64 3, .int .i64 f, .int .i64 b, .int .i64 tob, .int .i64 other, .int .i64 pos, .int .i64 id, .int .i64 kind, .int .i64 dst, .int .i64 a, .int .i64 b2, .int .i64 c, .int .i64 f2, .int .i64 n, .int .i64 x0, .int .i64 x1, .int .i64 x2] from hx1)
  clear hx0 hx1
  have HRP := Lib.hid (HRD0.out.on HBb.out)
  generalize hW : ((w.alloc (.cells #[.slice p.pa PL p.pc] 24)).alloc (.cells #[.int .i64 3, .int .i64 f, .int .i64 b, .int .i64 tob, .int .i64 other, .int .i64 pos, .int .i64 id, .int .i64 kind, .int .i64 dst, .int .i64 a, .int .i64 b2, .int .i64 c, .int .i64 f2, .int .i64 n, .int .i64 x0, .int .i64 x1, .int .i64 x2] 55)) = W at HBb HX0 HX1 HRP
  obtain ⟨g, hg⟩ : ∃ g, w.heap.size = g := ⟨_, rfl⟩
  have HGL := Lib.hid HBb.out.size
  rw [hg] at HBb HGL HX0 HX1 ⊢
  have HL0 := Lib.hid (HX0.out.lt (Nat.zero_lt_succ _))
  have HL1 := Lib.hid (HX1.out.lt (Nat.zero_lt_succ _))
  have HC : Hid (∀ wr, Below W.heap.size W wr → wr.cell? ⟨g, 0, none⟩ = some (.slice p.pa PL p.pc) ∧ wr.cell? ⟨g + 1, 0, none⟩ = some (.int .i64 3) ∧ wr.cell? ⟨g + 1, 1, none⟩ = some (.int .i64 f) ∧ wr.cell? ⟨g + 1, 2, none⟩ = some (.int .i64 b) ∧ wr.cell? ⟨g + 1, 3, none⟩ = some (.int .i64 tob) ∧ wr.cell? ⟨g + 1, 4, none⟩ = some (.int .i64 other) ∧ wr.rangeAt (g + 1) 0 [.int .i64 3, .int .i64 f, .int .i64 b, .int .i64 tob, .int .i64 other, .int .i64 pos, .int .i64 id, .int .i64 kind, .int .i64 dst, .int .i64 a, .int .i64 b2, .int .i64 c, .int .i64 f2, .int .i64 n, .int .i64 x0, .int .i64 x1, .int .i64 x2] ∧ True) := Lib.hid fun wr hb => ⟨((HX0.out.below hb HL0.out) 0 _ rfl).1, ((HX1.out.below hb HL1.out) 0 _ rfl).1, ((HX1.out.below hb HL1.out) 1 _ rfl).1, ((HX1.out.below hb HL1.out) 2 _ rfl).1, ((HX1.out.below hb HL1.out) 3 _ rfl).1, ((HX1.out.below hb HL1.out) 4 _ rfl).1, (HX1.out.below hb HL1.out).range, trivial⟩
  have HBN : Hid (Below W.heap.size W W) := Lib.hid (Below.refl _ _)
  obtain ⟨k0, k1, k2, k3, k4, k5, -, -⟩ := HC.out _ HBN.out
  go_enter Tryz.func11, Tryz.ntmps11
  go_upto_region 4 with (first
    | (go_at_call 47; refine (HAW.out _ (HRP.out.on HBN.out)).mono ?_; rintro x wa ⟨rfl, hbn⟩; have hbx := HBN.out.trans (hbn.mono HBN.out.size); clear HBN hbn k0 k1 k2 k3 k4 k5; have HBN := Lib.hid hbx; clear hbx; obtain ⟨k0, k1, k2, k3, k4, k5, -, -⟩ := HC.out _ HBN.out)
    | (go_at_call 14; refine (HFE.out _ (HRP.out.on HBN.out)).mono ?_; rintro x wb ⟨rfl, hbn⟩; have hbx := HBN.out.trans (hbn.mono HBN.out.size); clear HBN hbn k0 k1 k2 k3 k4 k5; have HBN := Lib.hid hbx; clear hbx; obtain ⟨k0, k1, k2, k3, k4, k5, -, -⟩ := HC.out _ HBN.out))
  go_upto_region 5 with (first
    | (go_at_call 49; refine (HAP.out _ (HRP.out.on HBN.out)).mono ?_; rintro x we ⟨q, rfl, hqi, -, hqd, hbn⟩; have HQI := Lib.hid hqi; have HQD := Lib.hid hqd; clear hqi hqd; have hbx := HBN.out.trans (hbn.mono HBN.out.size); clear HBN hbn k0 k1 k2 k3 k4 k5; have HBN := Lib.hid hbx; clear hbx; obtain ⟨k0, k1, k2, k3, k4, k5, -, -⟩ := HC.out _ HBN.out)
    | ((with_reducible apply wpList_load_w (ty := 55) (b := g + 1) (o := 0) (cs := [.int .i64 3, .int .i64 f, .int .i64 b, .int .i64 tob, .int .i64 other, .int .i64 pos, .int .i64 id, .int .i64 kind, .int .i64 dst, .int .i64 a, .int .i64 b2, .int .i64 c, .int .i64 f2, .int .i64 n, .int .i64 x0, .int .i64 x1, .int .i64 x2])); rotate_left; rfl; rfl; exact (HC.out _ HBN.out).2.2.2.2.2.2.1; exact Tryz.underlying55; rfl; kernel_rfl; rotate_left; rfl; simp only [Act.put, List.setIfInBounds_toArray, List.set_cons_zero, List.set_cons_succ]))
  obtain ⟨QL, hQL⟩ : ∃ QL, q.funs.length = QL := ⟨_, rfl⟩
  have HQL := Lib.hid hQL
  simp only [hQL]
  clear hQL
  have hb_ := below1 we (.cells #[.slice q.pa QL q.pc] 24)
  have HXgq : Hid (BoxL (we.alloc (.cells #[.slice q.pa QL q.pc] 24)) we.heap.size [.slice q.pa QL q.pc]) := Lib.hid (BoxL.new we _ _)
  have HRQ := Lib.hid (show Rd (we.alloc (.cells #[.slice q.pa QL q.pc] 24)) q from (show Rd we q from ⟨HQI.out, (HRP.out.on HBN.out).2.1, (HRP.out.on HBN.out).2.2⟩).on hb_)
  have HBM := Lib.hid (HBN.out.trans (hb_.mono HBN.out.size))
  clear hb_ HBN k0 k1 k2 k3 k4 k5
  generalize we.alloc (.cells #[.slice q.pa QL q.pc] 24) = W5 at *
  generalize we.heap.size = gq at *
  have HLgq := Lib.hid (HXgq.out.lt (Nat.zero_lt_succ _))
  replace HRP := Lib.hid (HRP.out.on HBM.out)
  have HBW1 := Lib.hid (HBb.out.trans (HBM.out.mono (by rw [← hg]; exact HBb.out.size)))
  have HC1 : Hid (∀ wr, Below W5.heap.size W5 wr → wr.cell? ⟨g, 0, none⟩ = some (.slice p.pa PL p.pc) ∧ wr.cell? ⟨g + 1, 0, none⟩ = some (.int .i64 3) ∧ wr.cell? ⟨g + 1, 1, none⟩ = some (.int .i64 f) ∧ wr.cell? ⟨g + 1, 2, none⟩ = some (.int .i64 b) ∧ wr.cell? ⟨g + 1, 3, none⟩ = some (.int .i64 tob) ∧ wr.cell? ⟨g + 1, 4, none⟩ = some (.int .i64 other) ∧ wr.rangeAt (g + 1) 0 [.int .i64 3, .int .i64 f, .int .i64 b, .int .i64 tob, .int .i64 other, .int .i64 pos, .int .i64 id, .int .i64 kind, .int .i64 dst, .int .i64 a, .int .i64 b2, .int .i64 c, .int .i64 f2, .int .i64 n, .int .i64 x0, .int .i64 x1, .int .i64 x2] ∧ wr.cell? ⟨gq, 0, none⟩ = some (.slice q.pa QL q.pc) ∧ True) := Lib.hid fun wr hb => have h := HC.out wr (HBM.out.trans (hb.mono HBM.out.size)); ⟨h.1, h.2.1, h.2.2.1, h.2.2.2.1, h.2.2.2.2.1, h.2.2.2.2.2.1, h.2.2.2.2.2.2.1, ((HXgq.out.below hb HLgq.out) 0 _ rfl).1, trivial⟩
  clear HC HBM
  have HBN : Hid (Below W5.heap.size W5 W5) := Lib.hid (Below.refl _ _)
  obtain ⟨k0, k1, k2, k3, k4, k5, -, k7, -⟩ := HC1.out _ HBN.out
  have hqf := HQF.out q HQD.out
  have HKQ := Lib.hid (fun wr (h : Rd wr q) (b : Int) y hy r hr => Block_any q f b wr h.1 h.2.1 h.2.2 hqf y hy r hr)
  have HQFW := Lib.hid hqf
  unfold Pg.val at HKQ
  simp only [HQL.out] at HKQ
  clear hqf
  obtain ⟨yx, hyx⟩ : ∃ y, blkR p f b1 = y := ⟨_, rfl⟩
  have HEx := Lib.hid (show ∀ t, decide (t ∈ yx.succ) = edgeB p f b1 t from fun t => by rw [← hyx]; rfl)
  have HIx := Lib.hid (fun wr (h : Rd wr p) => show Is wr.heap.size wr yx.sa yx.succ from hyx ▸ (blkR_is h.1 f b1).2)
  have h30x : yx.succ.length ≤ 30 := hyx ▸ (blkR_few HFW.out f b1).2
  obtain ⟨rbx, hrbx⟩ : ∃ r, blkB p f b1 = r := ⟨_, rfl⟩
  have HKx := Lib.hid (fun wr (h : Rd wr p) => HKP.out wr h b1 yx hyx rbx hrbx)
  clear hyx hrbx
  obtain ⟨lvx, cax, ccx, codex, sax, scx, succx⟩ := yx
  unfold Blk.val at HKx
  dsimp only at HEx HIx h30x HKx
  obtain ⟨SLx, hSLx⟩ : ∃ n, succx.length = n := ⟨_, rfl⟩
  obtain ⟨CLx, hCLx⟩ : ∃ n, codex.length = n := ⟨_, rfl⟩
  have HSLx := Lib.hid hSLx
  simp only [hSLx, hCLx] at HKx
  rw [hSLx] at h30x
  clear hSLx hCLx
  go_upto_region 8 with (go_at_call 17; refine (HKx.out _ (HRP.out.on HBN.out)).mono ?_; rintro x wx ⟨rfl, hbn⟩; have hbx := HBN.out.trans (hbn.mono HBN.out.size); clear HBN hbn k0 k1 k2 k3 k4 k5 k7; have HBN := Lib.hid hbx; clear hbx; obtain ⟨k0, k1, k2, k3, k4, k5, -, k7, -⟩ := HC1.out _ HBN.out)
  have hb_ := below1 wx (.cells #[.bool lvx, .slice cax CLx ccx, .slice sax SLx scx] 35)
  have HXgx : Hid (BoxL (wx.alloc (.cells #[.bool lvx, .slice cax CLx ccx, .slice sax SLx scx] 35)) wx.heap.size [.bool lvx, .slice cax CLx ccx, .slice sax SLx scx]) := Lib.hid (BoxL.new wx _ _)
  have HBM := Lib.hid (HBN.out.trans (hb_.mono HBN.out.size))
  clear hb_ HBN k0 k1 k2 k3 k4 k5 k7
  generalize wx.alloc (.cells #[.bool lvx, .slice cax CLx ccx, .slice sax SLx scx] 35) = W6 at *
  generalize wx.heap.size = gx at *
  have HLgx := Lib.hid (HXgx.out.lt (Nat.zero_lt_succ _))
  replace HRP := Lib.hid (HRP.out.on HBM.out)
  replace HRQ := Lib.hid (HRQ.out.on HBM.out)
  have HBW2 := Lib.hid (HBW1.out.trans (HBM.out.mono (by rw [← hg]; exact HBW1.out.size)))
  have HC2 : Hid (∀ wr, Below W6.heap.size W6 wr → wr.cell? ⟨g, 0, none⟩ = some (.slice p.pa PL p.pc) ∧ wr.cell? ⟨g + 1, 0, none⟩ = some (.int .i64 3) ∧ wr.cell? ⟨g + 1, 1, none⟩ = some (.int .i64 f) ∧ wr.cell? ⟨g + 1, 2, none⟩ = some (.int .i64 b) ∧ wr.cell? ⟨g + 1, 3, none⟩ = some (.int .i64 tob) ∧ wr.cell? ⟨g + 1, 4, none⟩ = some (.int .i64 other) ∧ wr.rangeAt (g + 1) 0 [.int .i64 3, .int .i64 f, .int .i64 b, .int .i64 tob, .int .i64 other, .int .i64 pos, .int .i64 id, .int .i64 kind, .int .i64 dst, .int .i64 a, .int .i64 b2, .int .i64 c, .int .i64 f2, .int .i64 n, .int .i64 x0, .int .i64 x1, .int .i64 x2] ∧ wr.cell? ⟨gq, 0, none⟩ = some (.slice q.pa QL q.pc) ∧ wr.cell? ⟨gx, 0, none⟩ = some (.bool lvx) ∧ wr.cell? ⟨gx, 1, none⟩ = some (.slice cax CLx ccx) ∧ wr.cell? ⟨gx, 2, none⟩ = some (.slice sax SLx scx) ∧ True) := Lib.hid fun wr hb => have h := HC1.out wr (HBM.out.trans (hb.mono HBM.out.size)); ⟨h.1, h.2.1, h.2.2.1, h.2.2.2.1, h.2.2.2.2.1, h.2.2.2.2.2.1, h.2.2.2.2.2.2.1, h.2.2.2.2.2.2.2.1, ((HXgx.out.below hb HLgx.out) 0 _ rfl).1, ((HXgx.out.below hb HLgx.out) 1 _ rfl).1, ((HXgx.out.below hb HLgx.out) 2 _ rfl).1, trivial⟩
  clear HC1 HBM
  have HBN : Hid (Below W6.heap.size W6 W6) := Lib.hid (Below.refl _ _)
  obtain ⟨k0, k1, k2, k3, k4, k5, -, k7, k8, k9, k10, -⟩ := HC2.out _ HBN.out
  obtain ⟨yy, hyy⟩ : ∃ y, blkR q f b1 = y := ⟨_, rfl⟩
  have HEy := Lib.hid (show ∀ t, decide (t ∈ yy.succ) = edgeB q f b1 t from fun t => by rw [← hyy]; rfl)
  have HIy := Lib.hid (fun wr (h : Rd wr q) => show Is wr.heap.size wr yy.sa yy.succ from hyy ▸ (blkR_is h.1 f b1).2)
  have h30y : yy.succ.length ≤ 30 := hyy ▸ (blkR_few HQFW.out f b1).2
  obtain ⟨rby, hrby⟩ : ∃ r, blkB q f b1 = r := ⟨_, rfl⟩
  have HKy := Lib.hid (fun wr (h : Rd wr q) => HKQ.out wr h b1 yy hyy rby hrby)
  clear hyy hrby
  obtain ⟨lvy, cay, ccy, codey, say, scy, succy⟩ := yy
  unfold Blk.val at HKy
  dsimp only at HEy HIy h30y HKy
  obtain ⟨SLy, hSLy⟩ : ∃ n, succy.length = n := ⟨_, rfl⟩
  obtain ⟨CLy, hCLy⟩ : ∃ n, codey.length = n := ⟨_, rfl⟩
  have HSLy := Lib.hid hSLy
  simp only [hSLy, hCLy] at HKy
  rw [hSLy] at h30y
  clear hSLy hCLy
  go_upto_region 9 with (go_at_call 17; refine (HKy.out _ (HRQ.out.on HBN.out)).mono ?_; rintro x wy ⟨rfl, hbn⟩; have hbx := HBN.out.trans (hbn.mono HBN.out.size); clear HBN hbn k0 k1 k2 k3 k4 k5 k7 k8 k9 k10; have HBN := Lib.hid hbx; clear hbx; obtain ⟨k0, k1, k2, k3, k4, k5, -, k7, k8, k9, k10, -⟩ := HC2.out _ HBN.out)
  have hb_ := below1 wy (.cells #[.bool lvy, .slice cay CLy ccy, .slice say SLy scy] 35)
  have HXgy : Hid (BoxL (wy.alloc (.cells #[.bool lvy, .slice cay CLy ccy, .slice say SLy scy] 35)) wy.heap.size [.bool lvy, .slice cay CLy ccy, .slice say SLy scy]) := Lib.hid (BoxL.new wy _ _)
  have HBM := Lib.hid (HBN.out.trans (hb_.mono HBN.out.size))
  clear hb_ HBN k0 k1 k2 k3 k4 k5 k7 k8 k9 k10
  generalize wy.alloc (.cells #[.bool lvy, .slice cay CLy ccy, .slice say SLy scy] 35) = W7 at *
  generalize wy.heap.size = gy at *
  have HLgy := Lib.hid (HXgy.out.lt (Nat.zero_lt_succ _))
  replace HRP := Lib.hid (HRP.out.on HBM.out)
  replace HRQ := Lib.hid (HRQ.out.on HBM.out)
  have HBW3 := Lib.hid (HBW2.out.trans (HBM.out.mono (by rw [← hg]; exact HBW2.out.size)))
  have HC3 : Hid (∀ wr, Below W7.heap.size W7 wr → wr.cell? ⟨g, 0, none⟩ = some (.slice p.pa PL p.pc) ∧ wr.cell? ⟨g + 1, 0, none⟩ = some (.int .i64 3) ∧ wr.cell? ⟨g + 1, 1, none⟩ = some (.int .i64 f) ∧ wr.cell? ⟨g + 1, 2, none⟩ = some (.int .i64 b) ∧ wr.cell? ⟨g + 1, 3, none⟩ = some (.int .i64 tob) ∧ wr.cell? ⟨g + 1, 4, none⟩ = some (.int .i64 other) ∧ wr.rangeAt (g + 1) 0 [.int .i64 3, .int .i64 f, .int .i64 b, .int .i64 tob, .int .i64 other, .int .i64 pos, .int .i64 id, .int .i64 kind, .int .i64 dst, .int .i64 a, .int .i64 b2, .int .i64 c, .int .i64 f2, .int .i64 n, .int .i64 x0, .int .i64 x1, .int .i64 x2] ∧ wr.cell? ⟨gq, 0, none⟩ = some (.slice q.pa QL q.pc) ∧ wr.cell? ⟨gx, 0, none⟩ = some (.bool lvx) ∧ wr.cell? ⟨gx, 1, none⟩ = some (.slice cax CLx ccx) ∧ wr.cell? ⟨gx, 2, none⟩ = some (.slice sax SLx scx) ∧ wr.cell? ⟨gy, 0, none⟩ = some (.bool lvy) ∧ wr.cell? ⟨gy, 1, none⟩ = some (.slice cay CLy ccy) ∧ wr.cell? ⟨gy, 2, none⟩ = some (.slice say SLy scy) ∧ True) := Lib.hid fun wr hb => have h := HC2.out wr (HBM.out.trans (hb.mono HBM.out.size)); ⟨h.1, h.2.1, h.2.2.1, h.2.2.2.1, h.2.2.2.2.1, h.2.2.2.2.2.1, h.2.2.2.2.2.2.1, h.2.2.2.2.2.2.2.1, h.2.2.2.2.2.2.2.2.1, h.2.2.2.2.2.2.2.2.2.1, h.2.2.2.2.2.2.2.2.2.2.1, ((HXgy.out.below hb HLgy.out) 0 _ rfl).1, ((HXgy.out.below hb HLgy.out) 1 _ rfl).1, ((HXgy.out.below hb HLgy.out) 2 _ rfl).1, trivial⟩
  clear HC2 HBM
  have HBN : Hid (Below W7.heap.size W7 W7) := Lib.hid (Below.refl _ _)
  obtain ⟨k0, k1, k2, k3, k4, k5, -, k7, k8, k9, k10, k11, k12, k13, -⟩ := HC3.out _ HBN.out
  go_upto_region 10 with (first | (go_at_call 58; refine (Has8_any sax succx scx t1 _ _ (HIx.out _ (HRP.out.on HBN.out)) SLx HSLx.out (by omega)).mono ?_; rintro x w_ ⟨rfl, rfl⟩; skip))
  go_upto_region 11 with (first | (go_at_call 58; refine (Has8_any say succy scy t1 _ _ (HIy.out _ (HRQ.out.on HBN.out)) SLy HSLy.out (by omega)).mono ?_; rintro x w_ ⟨rfl, rfl⟩; skip))
  obtain ⟨yz, hyz⟩ : ∃ y, blkR q f b = y := ⟨_, rfl⟩
  have HEz := Lib.hid (show ∀ t, decide (t ∈ yz.succ) = edgeB q f b t from fun t => by rw [← hyz]; rfl)
  have HIz := Lib.hid (fun wr (h : Rd wr q) => show Is wr.heap.size wr yz.sa yz.succ from hyz ▸ (blkR_is h.1 f b).2)
  have h30z : yz.succ.length ≤ 30 := hyz ▸ (blkR_few HQFW.out f b).2
  obtain ⟨rbz, hrbz⟩ : ∃ r, blkB q f b = r := ⟨_, rfl⟩
  have HKz := Lib.hid (fun wr (h : Rd wr q) => HKQ.out wr h b yz hyz rbz hrbz)
  clear hyz hrbz
  obtain ⟨lvz, caz, ccz, codez, saz, scz, succz⟩ := yz
  unfold Blk.val at HKz
  dsimp only at HEz HIz h30z HKz
  obtain ⟨SLz, hSLz⟩ : ∃ n, succz.length = n := ⟨_, rfl⟩
  obtain ⟨CLz, hCLz⟩ : ∃ n, codez.length = n := ⟨_, rfl⟩
  have HSLz := Lib.hid hSLz
  simp only [hSLz, hCLz] at HKz
  rw [hSLz] at h30z
  clear hSLz hCLz
  go_upto_region 12 with (go_at_call 17; refine (HKz.out _ (HRQ.out.on HBN.out)).mono ?_; rintro x wz ⟨rfl, hbn⟩; have hbx := HBN.out.trans (hbn.mono HBN.out.size); clear HBN hbn k0 k1 k2 k3 k4 k5 k7 k8 k9 k10 k11 k12 k13; have HBN := Lib.hid hbx; clear hbx; obtain ⟨k0, k1, k2, k3, k4, k5, -, k7, k8, k9, k10, k11, k12, k13, -⟩ := HC3.out _ HBN.out)
  have hb_ := below1 wz (.cells #[.bool lvz, .slice caz CLz ccz, .slice saz SLz scz] 35)
  have HXgz : Hid (BoxL (wz.alloc (.cells #[.bool lvz, .slice caz CLz ccz, .slice saz SLz scz] 35)) wz.heap.size [.bool lvz, .slice caz CLz ccz, .slice saz SLz scz]) := Lib.hid (BoxL.new wz _ _)
  have HBM := Lib.hid (HBN.out.trans (hb_.mono HBN.out.size))
  clear hb_ HBN k0 k1 k2 k3 k4 k5 k7 k8 k9 k10 k11 k12 k13
  generalize wz.alloc (.cells #[.bool lvz, .slice caz CLz ccz, .slice saz SLz scz] 35) = W8 at *
  generalize wz.heap.size = gz at *
  have HLgz := Lib.hid (HXgz.out.lt (Nat.zero_lt_succ _))
  replace HRP := Lib.hid (HRP.out.on HBM.out)
  replace HRQ := Lib.hid (HRQ.out.on HBM.out)
  have HBW4 := Lib.hid (HBW3.out.trans (HBM.out.mono (by rw [← hg]; exact HBW3.out.size)))
  have HC4 : Hid (∀ wr, Below W8.heap.size W8 wr → wr.cell? ⟨g, 0, none⟩ = some (.slice p.pa PL p.pc) ∧ wr.cell? ⟨g + 1, 0, none⟩ = some (.int .i64 3) ∧ wr.cell? ⟨g + 1, 1, none⟩ = some (.int .i64 f) ∧ wr.cell? ⟨g + 1, 2, none⟩ = some (.int .i64 b) ∧ wr.cell? ⟨g + 1, 3, none⟩ = some (.int .i64 tob) ∧ wr.cell? ⟨g + 1, 4, none⟩ = some (.int .i64 other) ∧ wr.rangeAt (g + 1) 0 [.int .i64 3, .int .i64 f, .int .i64 b, .int .i64 tob, .int .i64 other, .int .i64 pos, .int .i64 id, .int .i64 kind, .int .i64 dst, .int .i64 a, .int .i64 b2, .int .i64 c, .int .i64 f2, .int .i64 n, .int .i64 x0, .int .i64 x1, .int .i64 x2] ∧ wr.cell? ⟨gq, 0, none⟩ = some (.slice q.pa QL q.pc) ∧ wr.cell? ⟨gx, 0, none⟩ = some (.bool lvx) ∧ wr.cell? ⟨gx, 1, none⟩ = some (.slice cax CLx ccx) ∧ wr.cell? ⟨gx, 2, none⟩ = some (.slice sax SLx scx) ∧ wr.cell? ⟨gy, 0, none⟩ = some (.bool lvy) ∧ wr.cell? ⟨gy, 1, none⟩ = some (.slice cay CLy ccy) ∧ wr.cell? ⟨gy, 2, none⟩ = some (.slice say SLy scy) ∧ wr.cell? ⟨gz, 0, none⟩ = some (.bool lvz) ∧ wr.cell? ⟨gz, 1, none⟩ = some (.slice caz CLz ccz) ∧ wr.cell? ⟨gz, 2, none⟩ = some (.slice saz SLz scz) ∧ True) := Lib.hid fun wr hb => have h := HC3.out wr (HBM.out.trans (hb.mono HBM.out.size)); ⟨h.1, h.2.1, h.2.2.1, h.2.2.2.1, h.2.2.2.2.1, h.2.2.2.2.2.1, h.2.2.2.2.2.2.1, h.2.2.2.2.2.2.2.1, h.2.2.2.2.2.2.2.2.1, h.2.2.2.2.2.2.2.2.2.1, h.2.2.2.2.2.2.2.2.2.2.1, h.2.2.2.2.2.2.2.2.2.2.2.1, h.2.2.2.2.2.2.2.2.2.2.2.2.1, h.2.2.2.2.2.2.2.2.2.2.2.2.2.1, ((HXgz.out.below hb HLgz.out) 0 _ rfl).1, ((HXgz.out.below hb HLgz.out) 1 _ rfl).1, ((HXgz.out.below hb HLgz.out) 2 _ rfl).1, trivial⟩
  clear HC3 HBM
  have HBN : Hid (Below W8.heap.size W8 W8) := Lib.hid (Below.refl _ _)
  obtain ⟨k0, k1, k2, k3, k4, k5, -, k7, k8, k9, k10, k11, k12, k13, k14, k15, k16, -⟩ := HC4.out _ HBN.out
  have hex := HEx.out t1
  have hey := HEy.out t1
  have hez1 := HEz.out tob
  have hez2 := HEz.out other
  rw [HQE.out q HQD.out] at hey hez1 hez2
  obtain ⟨hae3, hae4, hae5, haeo⟩ := hae
  have hao := haeo b1 t1
  obtain ⟨bx, hbx⟩ : ∃ r, decide (t1 ∈ succx) = r := ⟨_, rfl⟩
  obtain ⟨by', hby⟩ : ∃ r, decide (t1 ∈ succy) = r := ⟨_, rfl⟩
  obtain ⟨bz1, hbz1⟩ : ∃ r, decide (tob ∈ succz) = r := ⟨_, rfl⟩
  obtain ⟨bz2, hbz2⟩ : ∃ r, decide (other ∈ succz) = r := ⟨_, rfl⟩
  simp only [hbx, hby]
  rw [hbx] at hex
  rw [hby] at hey
  rw [hbz1] at hez1
  rw [hbz2] at hez2
  rw [← hex, ← hey] at hao
  clear haeo hex hey hbx hby
  have tok1 : True := trivial
  have tok2 : True := trivial
  have hz : bz1 = true := by rw [hez1]; exact hae3 (by trivial)
  subst hz
  clear hez1 hez2 hae3 hae4 hae5
  go_upto_region 14 with (first
    | (have _t := tok1; go_at_call 58; refine (Has8_any saz succz scz tob _ _ (HIz.out _ (HRQ.out.on HBN.out)) SLz HSLz.out (by omega)).mono ?_; rw [hbz1]; rintro x w_ ⟨rfl, rfl⟩; skip; clear _t tok1))
  clear tok2 hbz1 hbz2
  by_cases hb1 : b1 = b
  · subst hb1
    by_cases ht1 : t1 = tob
    · subst ht1
      clear hao
      go_wp2_with fail
      go_ret
      exact ⟨by simp, HBW4.out.trans (HBN.out.mono (by rw [← hg]; exact HBW4.out.size))⟩
    · have hab := hao (fun h => h.2.elim ht1 fun h => absurd h.1 (by decide))
      subst hab
      clear hao
      go_wp2_with fail
      go_ret
      exact ⟨by simp, HBW4.out.trans (HBN.out.mono (by rw [← hg]; exact HBW4.out.size))⟩
  · have hab := hao (fun h => hb1 h.1)
    subst hab
    clear hao
    go_wp2_with fail
    go_ret
    exact ⟨by simp, HBW4.out.trans (HBN.out.mono (by rw [← hg]; exact HBW4.out.size))⟩

set_option maxRecDepth 100000 in
set_option maxHeartbeats 16000000 in
theorem edges4 (p : Pg) (e : Ed) (b1 t1 : Int) (w : World) (h : Rd w p) (hwf : p.wf) (hfew : p.few) (hop : e.op = 4) (hc : chk p e = 0) :
    Calls Tryz.prog 11 #[p.val, e.val, .int .i64 b1, .int .i64 t1] w fun x w' => x = .returned (.bool true) ∧ Below w.heap.size w w' := by
  have HAW := Lib.hid (fun wr (h : Rd wr p) => awake8_any wr h.2.1 h.2.2)
  have HFE := Lib.hid (fun wr (h : Rd wr p) => Few_any p wr h.1 true (by simp [hfew]))
  have her := hc
  have HAP := Lib.hid (fun wr (h : Rd wr p) => Apply_any p e wr h hfew hwf)
  simp only [AppRes, her] at HAP
  have hae := app_edges hc (by omega)
  have HQF := Lib.hid (fun (q : Pg) (hq : q.d = (appP p e).d) => (Pg.few_of_d hq).2 (few_app hfew e))
  have HQE := Lib.hid (fun (q : Pg) (hq : q.d = (appP p e).d) (b t : Int) => show edgeB q e.f b t = edgeB (appP p e) e.f b t from by rw [← edgeB_d q, hq, edgeB_d])
  have HKP := Lib.hid (fun wr (h : Rd wr p) (b : Int) y hy r hr => Block_any p e.f b wr h.1 h.2.1 h.2.2 hfew y hy r hr)
  have HFW := Lib.hid hfew
  obtain ⟨A0, hA0⟩ : ∃ A0, appP p e = A0 := ⟨_, rfl⟩
  rw [hA0] at hae HQE HQF HAP
  clear hA0
  have HRD0 := Lib.hid h
  clear h hfew hwf hc her
  obtain ⟨op, f, b, tob, other, pos, ⟨id, kind, dst, a, b2, c, f2, n, x0, x1, x2⟩⟩ := e
  try dsimp only at *
  subst hop
  unfold Pg.val at HFE HAP HKP
  unfold Ed.val at HAP
  unfold Pg.val Ed.val
  try dsimp only at *
  obtain ⟨PL, hPL⟩ : ∃ PL, p.funs.length = PL := ⟨_, rfl⟩
  simp only [hPL] at HFE HAP HKP ⊢
  clear hPL
  have HBb := Lib.hid (below2 w (.cells #[.slice p.pa PL p.pc] 24) (.cells #[.int .i64 4, .int .i64 f, .int .i64 b, .int .i64 tob, .int .i64 other, .int .i64 pos, .int .i64 id, .int .i64 kind, .int .i64 dst, .int .i64 a, .int .i64 b2, .int .i64 c, .int .i64 f2, .int .i64 n, .int .i64 x0, .int .i64 x1, .int .i64 x2] 55))
  have hx0 := BoxL.new w [.slice p.pa PL p.pc] 24
  have HX0 := Lib.hid (show BoxL ((w.alloc (.cells #[.slice p.pa PL p.pc] 24)).alloc (.cells #[.int .i64 4, .int .i64 f, .int .i64 b, .int .i64 tob, .int .i64 other, .int .i64 pos, .int .i64 id, .int .i64 kind, .int .i64 dst, .int .i64 a, .int .i64 b2, .int .i64 c, .int .i64 f2, .int .i64 n, .int .i64 x0, .int .i64 x1, .int .i64 x2] 55)) (w.heap.size) [.slice p.pa PL p.pc] from (hx0).alloc (Nat.zero_lt_succ _) (.cells #[.int .i64 4, .int .i64 f, .int .i64 b, .int .i64 tob, .int .i64 other, .int .i64 pos, .int .i64 id, .int .i64 kind, .int .i64 dst, .int .i64 a, .int .i64 b2, .int .i64 c, .int .i64 f2, .int .i64 n, .int .i64 x0, .int .i64 x1, .int .i64 x2] 55))
  have hx1 := BoxL.new (w.alloc (.cells #[.slice p.pa PL p.pc] 24)) [.int .i64 4, .int .i64 f, .int .i64 b, .int .i64 tob, .int .i64 other, .int .i64 pos, .int .i64 id, .int .i64 kind, .int .i64 dst, .int .i64 a, .int .i64 b2, .int .i64 c, .int .i64 f2, .int .i64 n, .int .i64 x0, .int .i64 x1, .int .i64 x2] 55
  rw [World.size_alloc] at hx1
  have HX1 := Lib.hid (show BoxL ((w.alloc (.cells #[.slice p.pa PL p.pc] 24)).alloc (.cells #[.int .i64 4, .int .i64 f, .int .i64 b, .int .i64 tob, .int .i64 other, .int .i64 pos, .int .i64 id, .int .i64 kind, .int .i64 dst, .int .i64 a, .int .i64 b2, .int .i64 c, .int .i64 f2, .int .i64 n, .int .i64 x0, .int .i64 x1, .int .i64 x2] 55)) (w.heap.size + 1) [.int .i64 4, .int .i64 f, .int .i64 b, .int .i64 tob, .int .i64 other, .int .i64 pos, .int .i64 id, .int .i64 kind, .int .i64 dst, .int .i64 a, .int .i64 b2, .int .i64 c, .int .i64 f2, .int .i64 n, .int .i64 x0, .int .i64 x1, .int .i64 x2] from hx1)
  clear hx0 hx1
  have HRP := Lib.hid (HRD0.out.on HBb.out)
  generalize hW : ((w.alloc (.cells #[.slice p.pa PL p.pc] 24)).alloc (.cells #[.int .i64 4, .int .i64 f, .int .i64 b, .int .i64 tob, .int .i64 other, .int .i64 pos, .int .i64 id, .int .i64 kind, .int .i64 dst, .int .i64 a, .int .i64 b2, .int .i64 c, .int .i64 f2, .int .i64 n, .int .i64 x0, .int .i64 x1, .int .i64 x2] 55)) = W at HBb HX0 HX1 HRP
  obtain ⟨g, hg⟩ : ∃ g, w.heap.size = g := ⟨_, rfl⟩
  have HGL := Lib.hid HBb.out.size
  rw [hg] at HBb HGL HX0 HX1 ⊢
  have HL0 := Lib.hid (HX0.out.lt (Nat.zero_lt_succ _))
  have HL1 := Lib.hid (HX1.out.lt (Nat.zero_lt_succ _))
  have HC : Hid (∀ wr, Below W.heap.size W wr → wr.cell? ⟨g, 0, none⟩ = some (.slice p.pa PL p.pc) ∧ wr.cell? ⟨g + 1, 0, none⟩ = some (.int .i64 4) ∧ wr.cell? ⟨g + 1, 1, none⟩ = some (.int .i64 f) ∧ wr.cell? ⟨g + 1, 2, none⟩ = some (.int .i64 b) ∧ wr.cell? ⟨g + 1, 3, none⟩ = some (.int .i64 tob) ∧ wr.cell? ⟨g + 1, 4, none⟩ = some (.int .i64 other) ∧ wr.rangeAt (g + 1) 0 [.int .i64 4, .int .i64 f, .int .i64 b, .int .i64 tob, .int .i64 other, .int .i64 pos, .int .i64 id, .int .i64 kind, .int .i64 dst, .int .i64 a, .int .i64 b2, .int .i64 c, .int .i64 f2, .int .i64 n, .int .i64 x0, .int .i64 x1, .int .i64 x2] ∧ True) := Lib.hid fun wr hb => ⟨((HX0.out.below hb HL0.out) 0 _ rfl).1, ((HX1.out.below hb HL1.out) 0 _ rfl).1, ((HX1.out.below hb HL1.out) 1 _ rfl).1, ((HX1.out.below hb HL1.out) 2 _ rfl).1, ((HX1.out.below hb HL1.out) 3 _ rfl).1, ((HX1.out.below hb HL1.out) 4 _ rfl).1, (HX1.out.below hb HL1.out).range, trivial⟩
  have HBN : Hid (Below W.heap.size W W) := Lib.hid (Below.refl _ _)
  obtain ⟨k0, k1, k2, k3, k4, k5, -, -⟩ := HC.out _ HBN.out
  go_enter Tryz.func11, Tryz.ntmps11
  go_upto_region 4 with (first
    | (go_at_call 47; refine (HAW.out _ (HRP.out.on HBN.out)).mono ?_; rintro x wa ⟨rfl, hbn⟩; have hbx := HBN.out.trans (hbn.mono HBN.out.size); clear HBN hbn k0 k1 k2 k3 k4 k5; have HBN := Lib.hid hbx; clear hbx; obtain ⟨k0, k1, k2, k3, k4, k5, -, -⟩ := HC.out _ HBN.out)
    | (go_at_call 14; refine (HFE.out _ (HRP.out.on HBN.out)).mono ?_; rintro x wb ⟨rfl, hbn⟩; have hbx := HBN.out.trans (hbn.mono HBN.out.size); clear HBN hbn k0 k1 k2 k3 k4 k5; have HBN := Lib.hid hbx; clear hbx; obtain ⟨k0, k1, k2, k3, k4, k5, -, -⟩ := HC.out _ HBN.out))
  go_upto_region 5 with (first
    | (go_at_call 49; refine (HAP.out _ (HRP.out.on HBN.out)).mono ?_; rintro x we ⟨q, rfl, hqi, -, hqd, hbn⟩; have HQI := Lib.hid hqi; have HQD := Lib.hid hqd; clear hqi hqd; have hbx := HBN.out.trans (hbn.mono HBN.out.size); clear HBN hbn k0 k1 k2 k3 k4 k5; have HBN := Lib.hid hbx; clear hbx; obtain ⟨k0, k1, k2, k3, k4, k5, -, -⟩ := HC.out _ HBN.out)
    | ((with_reducible apply wpList_load_w (ty := 55) (b := g + 1) (o := 0) (cs := [.int .i64 4, .int .i64 f, .int .i64 b, .int .i64 tob, .int .i64 other, .int .i64 pos, .int .i64 id, .int .i64 kind, .int .i64 dst, .int .i64 a, .int .i64 b2, .int .i64 c, .int .i64 f2, .int .i64 n, .int .i64 x0, .int .i64 x1, .int .i64 x2])); rotate_left; rfl; rfl; exact (HC.out _ HBN.out).2.2.2.2.2.2.1; exact Tryz.underlying55; rfl; kernel_rfl; rotate_left; rfl; simp only [Act.put, List.setIfInBounds_toArray, List.set_cons_zero, List.set_cons_succ]))
  obtain ⟨QL, hQL⟩ : ∃ QL, q.funs.length = QL := ⟨_, rfl⟩
  have HQL := Lib.hid hQL
  simp only [hQL]
  clear hQL
  have hb_ := below1 we (.cells #[.slice q.pa QL q.pc] 24)
  have HXgq : Hid (BoxL (we.alloc (.cells #[.slice q.pa QL q.pc] 24)) we.heap.size [.slice q.pa QL q.pc]) := Lib.hid (BoxL.new we _ _)
  have HRQ := Lib.hid (show Rd (we.alloc (.cells #[.slice q.pa QL q.pc] 24)) q from (show Rd we q from ⟨HQI.out, (HRP.out.on HBN.out).2.1, (HRP.out.on HBN.out).2.2⟩).on hb_)
  have HBM := Lib.hid (HBN.out.trans (hb_.mono HBN.out.size))
  clear hb_ HBN k0 k1 k2 k3 k4 k5
  generalize we.alloc (.cells #[.slice q.pa QL q.pc] 24) = W5 at *
  generalize we.heap.size = gq at *
  have HLgq := Lib.hid (HXgq.out.lt (Nat.zero_lt_succ _))
  replace HRP := Lib.hid (HRP.out.on HBM.out)
  have HBW1 := Lib.hid (HBb.out.trans (HBM.out.mono (by rw [← hg]; exact HBb.out.size)))
  have HC1 : Hid (∀ wr, Below W5.heap.size W5 wr → wr.cell? ⟨g, 0, none⟩ = some (.slice p.pa PL p.pc) ∧ wr.cell? ⟨g + 1, 0, none⟩ = some (.int .i64 4) ∧ wr.cell? ⟨g + 1, 1, none⟩ = some (.int .i64 f) ∧ wr.cell? ⟨g + 1, 2, none⟩ = some (.int .i64 b) ∧ wr.cell? ⟨g + 1, 3, none⟩ = some (.int .i64 tob) ∧ wr.cell? ⟨g + 1, 4, none⟩ = some (.int .i64 other) ∧ wr.rangeAt (g + 1) 0 [.int .i64 4, .int .i64 f, .int .i64 b, .int .i64 tob, .int .i64 other, .int .i64 pos, .int .i64 id, .int .i64 kind, .int .i64 dst, .int .i64 a, .int .i64 b2, .int .i64 c, .int .i64 f2, .int .i64 n, .int .i64 x0, .int .i64 x1, .int .i64 x2] ∧ wr.cell? ⟨gq, 0, none⟩ = some (.slice q.pa QL q.pc) ∧ True) := Lib.hid fun wr hb => have h := HC.out wr (HBM.out.trans (hb.mono HBM.out.size)); ⟨h.1, h.2.1, h.2.2.1, h.2.2.2.1, h.2.2.2.2.1, h.2.2.2.2.2.1, h.2.2.2.2.2.2.1, ((HXgq.out.below hb HLgq.out) 0 _ rfl).1, trivial⟩
  clear HC HBM
  have HBN : Hid (Below W5.heap.size W5 W5) := Lib.hid (Below.refl _ _)
  obtain ⟨k0, k1, k2, k3, k4, k5, -, k7, -⟩ := HC1.out _ HBN.out
  have hqf := HQF.out q HQD.out
  have HKQ := Lib.hid (fun wr (h : Rd wr q) (b : Int) y hy r hr => Block_any q f b wr h.1 h.2.1 h.2.2 hqf y hy r hr)
  have HQFW := Lib.hid hqf
  unfold Pg.val at HKQ
  simp only [HQL.out] at HKQ
  clear hqf
  obtain ⟨yx, hyx⟩ : ∃ y, blkR p f b1 = y := ⟨_, rfl⟩
  have HEx := Lib.hid (show ∀ t, decide (t ∈ yx.succ) = edgeB p f b1 t from fun t => by rw [← hyx]; rfl)
  have HIx := Lib.hid (fun wr (h : Rd wr p) => show Is wr.heap.size wr yx.sa yx.succ from hyx ▸ (blkR_is h.1 f b1).2)
  have h30x : yx.succ.length ≤ 30 := hyx ▸ (blkR_few HFW.out f b1).2
  obtain ⟨rbx, hrbx⟩ : ∃ r, blkB p f b1 = r := ⟨_, rfl⟩
  have HKx := Lib.hid (fun wr (h : Rd wr p) => HKP.out wr h b1 yx hyx rbx hrbx)
  clear hyx hrbx
  obtain ⟨lvx, cax, ccx, codex, sax, scx, succx⟩ := yx
  unfold Blk.val at HKx
  dsimp only at HEx HIx h30x HKx
  obtain ⟨SLx, hSLx⟩ : ∃ n, succx.length = n := ⟨_, rfl⟩
  obtain ⟨CLx, hCLx⟩ : ∃ n, codex.length = n := ⟨_, rfl⟩
  have HSLx := Lib.hid hSLx
  simp only [hSLx, hCLx] at HKx
  rw [hSLx] at h30x
  clear hSLx hCLx
  go_upto_region 8 with (go_at_call 17; refine (HKx.out _ (HRP.out.on HBN.out)).mono ?_; rintro x wx ⟨rfl, hbn⟩; have hbx := HBN.out.trans (hbn.mono HBN.out.size); clear HBN hbn k0 k1 k2 k3 k4 k5 k7; have HBN := Lib.hid hbx; clear hbx; obtain ⟨k0, k1, k2, k3, k4, k5, -, k7, -⟩ := HC1.out _ HBN.out)
  have hb_ := below1 wx (.cells #[.bool lvx, .slice cax CLx ccx, .slice sax SLx scx] 35)
  have HXgx : Hid (BoxL (wx.alloc (.cells #[.bool lvx, .slice cax CLx ccx, .slice sax SLx scx] 35)) wx.heap.size [.bool lvx, .slice cax CLx ccx, .slice sax SLx scx]) := Lib.hid (BoxL.new wx _ _)
  have HBM := Lib.hid (HBN.out.trans (hb_.mono HBN.out.size))
  clear hb_ HBN k0 k1 k2 k3 k4 k5 k7
  generalize wx.alloc (.cells #[.bool lvx, .slice cax CLx ccx, .slice sax SLx scx] 35) = W6 at *
  generalize wx.heap.size = gx at *
  have HLgx := Lib.hid (HXgx.out.lt (Nat.zero_lt_succ _))
  replace HRP := Lib.hid (HRP.out.on HBM.out)
  replace HRQ := Lib.hid (HRQ.out.on HBM.out)
  have HBW2 := Lib.hid (HBW1.out.trans (HBM.out.mono (by rw [← hg]; exact HBW1.out.size)))
  have HC2 : Hid (∀ wr, Below W6.heap.size W6 wr → wr.cell? ⟨g, 0, none⟩ = some (.slice p.pa PL p.pc) ∧ wr.cell? ⟨g + 1, 0, none⟩ = some (.int .i64 4) ∧ wr.cell? ⟨g + 1, 1, none⟩ = some (.int .i64 f) ∧ wr.cell? ⟨g + 1, 2, none⟩ = some (.int .i64 b) ∧ wr.cell? ⟨g + 1, 3, none⟩ = some (.int .i64 tob) ∧ wr.cell? ⟨g + 1, 4, none⟩ = some (.int .i64 other) ∧ wr.rangeAt (g + 1) 0 [.int .i64 4, .int .i64 f, .int .i64 b, .int .i64 tob, .int .i64 other, .int .i64 pos, .int .i64 id, .int .i64 kind, .int .i64 dst, .int .i64 a, .int .i64 b2, .int .i64 c, .int .i64 f2, .int .i64 n, .int .i64 x0, .int .i64 x1, .int .i64 x2] ∧ wr.cell? ⟨gq, 0, none⟩ = some (.slice q.pa QL q.pc) ∧ wr.cell? ⟨gx, 0, none⟩ = some (.bool lvx) ∧ wr.cell? ⟨gx, 1, none⟩ = some (.slice cax CLx ccx) ∧ wr.cell? ⟨gx, 2, none⟩ = some (.slice sax SLx scx) ∧ True) := Lib.hid fun wr hb => have h := HC1.out wr (HBM.out.trans (hb.mono HBM.out.size)); ⟨h.1, h.2.1, h.2.2.1, h.2.2.2.1, h.2.2.2.2.1, h.2.2.2.2.2.1, h.2.2.2.2.2.2.1, h.2.2.2.2.2.2.2.1, ((HXgx.out.below hb HLgx.out) 0 _ rfl).1, ((HXgx.out.below hb HLgx.out) 1 _ rfl).1, ((HXgx.out.below hb HLgx.out) 2 _ rfl).1, trivial⟩
  clear HC1 HBM
  have HBN : Hid (Below W6.heap.size W6 W6) := Lib.hid (Below.refl _ _)
  obtain ⟨k0, k1, k2, k3, k4, k5, -, k7, k8, k9, k10, -⟩ := HC2.out _ HBN.out
  obtain ⟨yy, hyy⟩ : ∃ y, blkR q f b1 = y := ⟨_, rfl⟩
  have HEy := Lib.hid (show ∀ t, decide (t ∈ yy.succ) = edgeB q f b1 t from fun t => by rw [← hyy]; rfl)
  have HIy := Lib.hid (fun wr (h : Rd wr q) => show Is wr.heap.size wr yy.sa yy.succ from hyy ▸ (blkR_is h.1 f b1).2)
  have h30y : yy.succ.length ≤ 30 := hyy ▸ (blkR_few HQFW.out f b1).2
  obtain ⟨rby, hrby⟩ : ∃ r, blkB q f b1 = r := ⟨_, rfl⟩
  have HKy := Lib.hid (fun wr (h : Rd wr q) => HKQ.out wr h b1 yy hyy rby hrby)
  clear hyy hrby
  obtain ⟨lvy, cay, ccy, codey, say, scy, succy⟩ := yy
  unfold Blk.val at HKy
  dsimp only at HEy HIy h30y HKy
  obtain ⟨SLy, hSLy⟩ : ∃ n, succy.length = n := ⟨_, rfl⟩
  obtain ⟨CLy, hCLy⟩ : ∃ n, codey.length = n := ⟨_, rfl⟩
  have HSLy := Lib.hid hSLy
  simp only [hSLy, hCLy] at HKy
  rw [hSLy] at h30y
  clear hSLy hCLy
  go_upto_region 9 with (go_at_call 17; refine (HKy.out _ (HRQ.out.on HBN.out)).mono ?_; rintro x wy ⟨rfl, hbn⟩; have hbx := HBN.out.trans (hbn.mono HBN.out.size); clear HBN hbn k0 k1 k2 k3 k4 k5 k7 k8 k9 k10; have HBN := Lib.hid hbx; clear hbx; obtain ⟨k0, k1, k2, k3, k4, k5, -, k7, k8, k9, k10, -⟩ := HC2.out _ HBN.out)
  have hb_ := below1 wy (.cells #[.bool lvy, .slice cay CLy ccy, .slice say SLy scy] 35)
  have HXgy : Hid (BoxL (wy.alloc (.cells #[.bool lvy, .slice cay CLy ccy, .slice say SLy scy] 35)) wy.heap.size [.bool lvy, .slice cay CLy ccy, .slice say SLy scy]) := Lib.hid (BoxL.new wy _ _)
  have HBM := Lib.hid (HBN.out.trans (hb_.mono HBN.out.size))
  clear hb_ HBN k0 k1 k2 k3 k4 k5 k7 k8 k9 k10
  generalize wy.alloc (.cells #[.bool lvy, .slice cay CLy ccy, .slice say SLy scy] 35) = W7 at *
  generalize wy.heap.size = gy at *
  have HLgy := Lib.hid (HXgy.out.lt (Nat.zero_lt_succ _))
  replace HRP := Lib.hid (HRP.out.on HBM.out)
  replace HRQ := Lib.hid (HRQ.out.on HBM.out)
  have HBW3 := Lib.hid (HBW2.out.trans (HBM.out.mono (by rw [← hg]; exact HBW2.out.size)))
  have HC3 : Hid (∀ wr, Below W7.heap.size W7 wr → wr.cell? ⟨g, 0, none⟩ = some (.slice p.pa PL p.pc) ∧ wr.cell? ⟨g + 1, 0, none⟩ = some (.int .i64 4) ∧ wr.cell? ⟨g + 1, 1, none⟩ = some (.int .i64 f) ∧ wr.cell? ⟨g + 1, 2, none⟩ = some (.int .i64 b) ∧ wr.cell? ⟨g + 1, 3, none⟩ = some (.int .i64 tob) ∧ wr.cell? ⟨g + 1, 4, none⟩ = some (.int .i64 other) ∧ wr.rangeAt (g + 1) 0 [.int .i64 4, .int .i64 f, .int .i64 b, .int .i64 tob, .int .i64 other, .int .i64 pos, .int .i64 id, .int .i64 kind, .int .i64 dst, .int .i64 a, .int .i64 b2, .int .i64 c, .int .i64 f2, .int .i64 n, .int .i64 x0, .int .i64 x1, .int .i64 x2] ∧ wr.cell? ⟨gq, 0, none⟩ = some (.slice q.pa QL q.pc) ∧ wr.cell? ⟨gx, 0, none⟩ = some (.bool lvx) ∧ wr.cell? ⟨gx, 1, none⟩ = some (.slice cax CLx ccx) ∧ wr.cell? ⟨gx, 2, none⟩ = some (.slice sax SLx scx) ∧ wr.cell? ⟨gy, 0, none⟩ = some (.bool lvy) ∧ wr.cell? ⟨gy, 1, none⟩ = some (.slice cay CLy ccy) ∧ wr.cell? ⟨gy, 2, none⟩ = some (.slice say SLy scy) ∧ True) := Lib.hid fun wr hb => have h := HC2.out wr (HBM.out.trans (hb.mono HBM.out.size)); ⟨h.1, h.2.1, h.2.2.1, h.2.2.2.1, h.2.2.2.2.1, h.2.2.2.2.2.1, h.2.2.2.2.2.2.1, h.2.2.2.2.2.2.2.1, h.2.2.2.2.2.2.2.2.1, h.2.2.2.2.2.2.2.2.2.1, h.2.2.2.2.2.2.2.2.2.2.1, ((HXgy.out.below hb HLgy.out) 0 _ rfl).1, ((HXgy.out.below hb HLgy.out) 1 _ rfl).1, ((HXgy.out.below hb HLgy.out) 2 _ rfl).1, trivial⟩
  clear HC2 HBM
  have HBN : Hid (Below W7.heap.size W7 W7) := Lib.hid (Below.refl _ _)
  obtain ⟨k0, k1, k2, k3, k4, k5, -, k7, k8, k9, k10, k11, k12, k13, -⟩ := HC3.out _ HBN.out
  go_upto_region 10 with (first | (go_at_call 58; refine (Has8_any sax succx scx t1 _ _ (HIx.out _ (HRP.out.on HBN.out)) SLx HSLx.out (by omega)).mono ?_; rintro x w_ ⟨rfl, rfl⟩; skip))
  go_upto_region 11 with (first | (go_at_call 58; refine (Has8_any say succy scy t1 _ _ (HIy.out _ (HRQ.out.on HBN.out)) SLy HSLy.out (by omega)).mono ?_; rintro x w_ ⟨rfl, rfl⟩; skip))
  obtain ⟨yz, hyz⟩ : ∃ y, blkR q f b = y := ⟨_, rfl⟩
  have HEz := Lib.hid (show ∀ t, decide (t ∈ yz.succ) = edgeB q f b t from fun t => by rw [← hyz]; rfl)
  have HIz := Lib.hid (fun wr (h : Rd wr q) => show Is wr.heap.size wr yz.sa yz.succ from hyz ▸ (blkR_is h.1 f b).2)
  have h30z : yz.succ.length ≤ 30 := hyz ▸ (blkR_few HQFW.out f b).2
  obtain ⟨rbz, hrbz⟩ : ∃ r, blkB q f b = r := ⟨_, rfl⟩
  have HKz := Lib.hid (fun wr (h : Rd wr q) => HKQ.out wr h b yz hyz rbz hrbz)
  clear hyz hrbz
  obtain ⟨lvz, caz, ccz, codez, saz, scz, succz⟩ := yz
  unfold Blk.val at HKz
  dsimp only at HEz HIz h30z HKz
  obtain ⟨SLz, hSLz⟩ : ∃ n, succz.length = n := ⟨_, rfl⟩
  obtain ⟨CLz, hCLz⟩ : ∃ n, codez.length = n := ⟨_, rfl⟩
  have HSLz := Lib.hid hSLz
  simp only [hSLz, hCLz] at HKz
  rw [hSLz] at h30z
  clear hSLz hCLz
  go_upto_region 12 with (go_at_call 17; refine (HKz.out _ (HRQ.out.on HBN.out)).mono ?_; rintro x wz ⟨rfl, hbn⟩; have hbx := HBN.out.trans (hbn.mono HBN.out.size); clear HBN hbn k0 k1 k2 k3 k4 k5 k7 k8 k9 k10 k11 k12 k13; have HBN := Lib.hid hbx; clear hbx; obtain ⟨k0, k1, k2, k3, k4, k5, -, k7, k8, k9, k10, k11, k12, k13, -⟩ := HC3.out _ HBN.out)
  have hb_ := below1 wz (.cells #[.bool lvz, .slice caz CLz ccz, .slice saz SLz scz] 35)
  have HXgz : Hid (BoxL (wz.alloc (.cells #[.bool lvz, .slice caz CLz ccz, .slice saz SLz scz] 35)) wz.heap.size [.bool lvz, .slice caz CLz ccz, .slice saz SLz scz]) := Lib.hid (BoxL.new wz _ _)
  have HBM := Lib.hid (HBN.out.trans (hb_.mono HBN.out.size))
  clear hb_ HBN k0 k1 k2 k3 k4 k5 k7 k8 k9 k10 k11 k12 k13
  generalize wz.alloc (.cells #[.bool lvz, .slice caz CLz ccz, .slice saz SLz scz] 35) = W8 at *
  generalize wz.heap.size = gz at *
  have HLgz := Lib.hid (HXgz.out.lt (Nat.zero_lt_succ _))
  replace HRP := Lib.hid (HRP.out.on HBM.out)
  replace HRQ := Lib.hid (HRQ.out.on HBM.out)
  have HBW4 := Lib.hid (HBW3.out.trans (HBM.out.mono (by rw [← hg]; exact HBW3.out.size)))
  have HC4 : Hid (∀ wr, Below W8.heap.size W8 wr → wr.cell? ⟨g, 0, none⟩ = some (.slice p.pa PL p.pc) ∧ wr.cell? ⟨g + 1, 0, none⟩ = some (.int .i64 4) ∧ wr.cell? ⟨g + 1, 1, none⟩ = some (.int .i64 f) ∧ wr.cell? ⟨g + 1, 2, none⟩ = some (.int .i64 b) ∧ wr.cell? ⟨g + 1, 3, none⟩ = some (.int .i64 tob) ∧ wr.cell? ⟨g + 1, 4, none⟩ = some (.int .i64 other) ∧ wr.rangeAt (g + 1) 0 [.int .i64 4, .int .i64 f, .int .i64 b, .int .i64 tob, .int .i64 other, .int .i64 pos, .int .i64 id, .int .i64 kind, .int .i64 dst, .int .i64 a, .int .i64 b2, .int .i64 c, .int .i64 f2, .int .i64 n, .int .i64 x0, .int .i64 x1, .int .i64 x2] ∧ wr.cell? ⟨gq, 0, none⟩ = some (.slice q.pa QL q.pc) ∧ wr.cell? ⟨gx, 0, none⟩ = some (.bool lvx) ∧ wr.cell? ⟨gx, 1, none⟩ = some (.slice cax CLx ccx) ∧ wr.cell? ⟨gx, 2, none⟩ = some (.slice sax SLx scx) ∧ wr.cell? ⟨gy, 0, none⟩ = some (.bool lvy) ∧ wr.cell? ⟨gy, 1, none⟩ = some (.slice cay CLy ccy) ∧ wr.cell? ⟨gy, 2, none⟩ = some (.slice say SLy scy) ∧ wr.cell? ⟨gz, 0, none⟩ = some (.bool lvz) ∧ wr.cell? ⟨gz, 1, none⟩ = some (.slice caz CLz ccz) ∧ wr.cell? ⟨gz, 2, none⟩ = some (.slice saz SLz scz) ∧ True) := Lib.hid fun wr hb => have h := HC3.out wr (HBM.out.trans (hb.mono HBM.out.size)); ⟨h.1, h.2.1, h.2.2.1, h.2.2.2.1, h.2.2.2.2.1, h.2.2.2.2.2.1, h.2.2.2.2.2.2.1, h.2.2.2.2.2.2.2.1, h.2.2.2.2.2.2.2.2.1, h.2.2.2.2.2.2.2.2.2.1, h.2.2.2.2.2.2.2.2.2.2.1, h.2.2.2.2.2.2.2.2.2.2.2.1, h.2.2.2.2.2.2.2.2.2.2.2.2.1, h.2.2.2.2.2.2.2.2.2.2.2.2.2.1, ((HXgz.out.below hb HLgz.out) 0 _ rfl).1, ((HXgz.out.below hb HLgz.out) 1 _ rfl).1, ((HXgz.out.below hb HLgz.out) 2 _ rfl).1, trivial⟩
  clear HC3 HBM
  have HBN : Hid (Below W8.heap.size W8 W8) := Lib.hid (Below.refl _ _)
  obtain ⟨k0, k1, k2, k3, k4, k5, -, k7, k8, k9, k10, k11, k12, k13, k14, k15, k16, -⟩ := HC4.out _ HBN.out
  have hex := HEx.out t1
  have hey := HEy.out t1
  have hez1 := HEz.out tob
  have hez2 := HEz.out other
  rw [HQE.out q HQD.out] at hey hez1 hez2
  obtain ⟨hae3, hae4, hae5, haeo⟩ := hae
  have hao := haeo b1 t1
  obtain ⟨bx, hbx⟩ : ∃ r, decide (t1 ∈ succx) = r := ⟨_, rfl⟩
  obtain ⟨by', hby⟩ : ∃ r, decide (t1 ∈ succy) = r := ⟨_, rfl⟩
  obtain ⟨bz1, hbz1⟩ : ∃ r, decide (tob ∈ succz) = r := ⟨_, rfl⟩
  obtain ⟨bz2, hbz2⟩ : ∃ r, decide (other ∈ succz) = r := ⟨_, rfl⟩
  simp only [hbx, hby]
  rw [hbx] at hex
  rw [hby] at hey
  rw [hbz1] at hez1
  rw [hbz2] at hez2
  rw [← hex, ← hey] at hao
  clear haeo hex hey hbx hby
  have tok1 : True := trivial
  have tok2 : True := trivial
  have hz : bz1 = false := by rw [hez1]; exact hae4 (by trivial)
  subst hz
  clear hez1 hez2 hae3 hae4 hae5
  go_upto_region 14 with (first
    | (have _t := tok1; go_at_call 58; refine (Has8_any saz succz scz tob _ _ (HIz.out _ (HRQ.out.on HBN.out)) SLz HSLz.out (by omega)).mono ?_; rw [hbz1]; rintro x w_ ⟨rfl, rfl⟩; skip; clear _t tok1))
  clear tok2 hbz1 hbz2
  by_cases hb1 : b1 = b
  · subst hb1
    by_cases ht1 : t1 = tob
    · subst ht1
      clear hao
      go_wp2_with fail
      go_ret
      exact ⟨by simp, HBW4.out.trans (HBN.out.mono (by rw [← hg]; exact HBW4.out.size))⟩
    · have hab := hao (fun h => h.2.elim ht1 fun h => absurd h.1 (by decide))
      subst hab
      clear hao
      go_wp2_with fail
      go_ret
      exact ⟨by simp, HBW4.out.trans (HBN.out.mono (by rw [← hg]; exact HBW4.out.size))⟩
  · have hab := hao (fun h => hb1 h.1)
    subst hab
    clear hao
    go_wp2_with fail
    go_ret
    exact ⟨by simp, HBW4.out.trans (HBN.out.mono (by rw [← hg]; exact HBW4.out.size))⟩

set_option maxRecDepth 100000 in
set_option maxHeartbeats 16000000 in
theorem edges5 (p : Pg) (e : Ed) (b1 t1 : Int) (w : World) (h : Rd w p) (hwf : p.wf) (hfew : p.few) (hop : e.op = 5) (hc : chk p e = 0) :
    Calls Tryz.prog 11 #[p.val, e.val, .int .i64 b1, .int .i64 t1] w fun x w' => x = .returned (.bool true) ∧ Below w.heap.size w w' := by
  have HAW := Lib.hid (fun wr (h : Rd wr p) => awake8_any wr h.2.1 h.2.2)
  have HFE := Lib.hid (fun wr (h : Rd wr p) => Few_any p wr h.1 true (by simp [hfew]))
  have her := hc
  have HAP := Lib.hid (fun wr (h : Rd wr p) => Apply_any p e wr h hfew hwf)
  simp only [AppRes, her] at HAP
  have hae := app_edges hc (by omega)
  have HQF := Lib.hid (fun (q : Pg) (hq : q.d = (appP p e).d) => (Pg.few_of_d hq).2 (few_app hfew e))
  have HQE := Lib.hid (fun (q : Pg) (hq : q.d = (appP p e).d) (b t : Int) => show edgeB q e.f b t = edgeB (appP p e) e.f b t from by rw [← edgeB_d q, hq, edgeB_d])
  have HKP := Lib.hid (fun wr (h : Rd wr p) (b : Int) y hy r hr => Block_any p e.f b wr h.1 h.2.1 h.2.2 hfew y hy r hr)
  have HFW := Lib.hid hfew
  obtain ⟨A0, hA0⟩ : ∃ A0, appP p e = A0 := ⟨_, rfl⟩
  rw [hA0] at hae HQE HQF HAP
  clear hA0
  have HRD0 := Lib.hid h
  clear h hfew hwf hc her
  obtain ⟨op, f, b, tob, other, pos, ⟨id, kind, dst, a, b2, c, f2, n, x0, x1, x2⟩⟩ := e
  try dsimp only at *
  subst hop
  unfold Pg.val at HFE HAP HKP
  unfold Ed.val at HAP
  unfold Pg.val Ed.val
  try dsimp only at *
  obtain ⟨PL, hPL⟩ : ∃ PL, p.funs.length = PL := ⟨_, rfl⟩
  simp only [hPL] at HFE HAP HKP ⊢
  clear hPL
  have HBb := Lib.hid (below2 w (.cells #[.slice p.pa PL p.pc] 24) (.cells #[.int .i64 5, .int .i64 f, .int .i64 b, .int .i64 tob, .int .i64 other, .int .i64 pos, .int .i64 id, .int .i64 kind, .int .i64 dst, .int .i64 a, .int .i64 b2, .int .i64 c, .int .i64 f2, .int .i64 n, .int .i64 x0, .int .i64 x1, .int .i64 x2] 55))
  have hx0 := BoxL.new w [.slice p.pa PL p.pc] 24
  have HX0 := Lib.hid (show BoxL ((w.alloc (.cells #[.slice p.pa PL p.pc] 24)).alloc (.cells #[.int .i64 5, .int .i64 f, .int .i64 b, .int .i64 tob, .int .i64 other, .int .i64 pos, .int .i64 id, .int .i64 kind, .int .i64 dst, .int .i64 a, .int .i64 b2, .int .i64 c, .int .i64 f2, .int .i64 n, .int .i64 x0, .int .i64 x1, .int .i64 x2] 55)) (w.heap.size) [.slice p.pa PL p.pc] from (hx0).alloc (Nat.zero_lt_succ _) (.cells #[.int .i64 5, .int .i64 f, .int .i64 b, .int .i64 tob, .int .i64 other, .int .i64 pos, .int .i64 id, .int .i64 kind, .int .i64 dst, .int .i64 a, .int .i64 b2, .int .i64 c, .int .i64 f2, .int .i64 n, .int .i64 x0, .int .i64 x1, .int .i64 x2] 55))
  have hx1 := BoxL.new (w.alloc (.cells #[.slice p.pa PL p.pc] 24)) [.int .i64 5, .int .i64 f, .int .i64 b, .int .i64 tob, .int .i64 other, .int .i64 pos, .int .i64 id, .int .i64 kind, .int .i64 dst, .int .i64 a, .int .i64 b2, .int .i64 c, .int .i64 f2, .int .i64 n, .int .i64 x0, .int .i64 x1, .int .i64 x2] 55
  rw [World.size_alloc] at hx1
  have HX1 := Lib.hid (show BoxL ((w.alloc (.cells #[.slice p.pa PL p.pc] 24)).alloc (.cells #[.int .i64 5, .int .i64 f, .int .i64 b, .int .i64 tob, .int .i64 other, .int .i64 pos, .int .i64 id, .int .i64 kind, .int .i64 dst, .int .i64 a, .int .i64 b2, .int .i64 c, .int .i64 f2, .int .i64 n, .int .i64 x0, .int .i64 x1, .int .i64 x2] 55)) (w.heap.size + 1) [.int .i64 5, .int .i64 f, .int .i64 b, .int .i64 tob, .int .i64 other, .int .i64 pos, .int .i64 id, .int .i64 kind, .int .i64 dst, .int .i64 a, .int .i64 b2, .int .i64 c, .int .i64 f2, .int .i64 n, .int .i64 x0, .int .i64 x1, .int .i64 x2] from hx1)
  clear hx0 hx1
  have HRP := Lib.hid (HRD0.out.on HBb.out)
  generalize hW : ((w.alloc (.cells #[.slice p.pa PL p.pc] 24)).alloc (.cells #[.int .i64 5, .int .i64 f, .int .i64 b, .int .i64 tob, .int .i64 other, .int .i64 pos, .int .i64 id, .int .i64 kind, .int .i64 dst, .int .i64 a, .int .i64 b2, .int .i64 c, .int .i64 f2, .int .i64 n, .int .i64 x0, .int .i64 x1, .int .i64 x2] 55)) = W at HBb HX0 HX1 HRP
  obtain ⟨g, hg⟩ : ∃ g, w.heap.size = g := ⟨_, rfl⟩
  have HGL := Lib.hid HBb.out.size
  rw [hg] at HBb HGL HX0 HX1 ⊢
  have HL0 := Lib.hid (HX0.out.lt (Nat.zero_lt_succ _))
  have HL1 := Lib.hid (HX1.out.lt (Nat.zero_lt_succ _))
  have HC : Hid (∀ wr, Below W.heap.size W wr → wr.cell? ⟨g, 0, none⟩ = some (.slice p.pa PL p.pc) ∧ wr.cell? ⟨g + 1, 0, none⟩ = some (.int .i64 5) ∧ wr.cell? ⟨g + 1, 1, none⟩ = some (.int .i64 f) ∧ wr.cell? ⟨g + 1, 2, none⟩ = some (.int .i64 b) ∧ wr.cell? ⟨g + 1, 3, none⟩ = some (.int .i64 tob) ∧ wr.cell? ⟨g + 1, 4, none⟩ = some (.int .i64 other) ∧ wr.rangeAt (g + 1) 0 [.int .i64 5, .int .i64 f, .int .i64 b, .int .i64 tob, .int .i64 other, .int .i64 pos, .int .i64 id, .int .i64 kind, .int .i64 dst, .int .i64 a, .int .i64 b2, .int .i64 c, .int .i64 f2, .int .i64 n, .int .i64 x0, .int .i64 x1, .int .i64 x2] ∧ True) := Lib.hid fun wr hb => ⟨((HX0.out.below hb HL0.out) 0 _ rfl).1, ((HX1.out.below hb HL1.out) 0 _ rfl).1, ((HX1.out.below hb HL1.out) 1 _ rfl).1, ((HX1.out.below hb HL1.out) 2 _ rfl).1, ((HX1.out.below hb HL1.out) 3 _ rfl).1, ((HX1.out.below hb HL1.out) 4 _ rfl).1, (HX1.out.below hb HL1.out).range, trivial⟩
  have HBN : Hid (Below W.heap.size W W) := Lib.hid (Below.refl _ _)
  obtain ⟨k0, k1, k2, k3, k4, k5, -, -⟩ := HC.out _ HBN.out
  go_enter Tryz.func11, Tryz.ntmps11
  go_upto_region 4 with (first
    | (go_at_call 47; refine (HAW.out _ (HRP.out.on HBN.out)).mono ?_; rintro x wa ⟨rfl, hbn⟩; have hbx := HBN.out.trans (hbn.mono HBN.out.size); clear HBN hbn k0 k1 k2 k3 k4 k5; have HBN := Lib.hid hbx; clear hbx; obtain ⟨k0, k1, k2, k3, k4, k5, -, -⟩ := HC.out _ HBN.out)
    | (go_at_call 14; refine (HFE.out _ (HRP.out.on HBN.out)).mono ?_; rintro x wb ⟨rfl, hbn⟩; have hbx := HBN.out.trans (hbn.mono HBN.out.size); clear HBN hbn k0 k1 k2 k3 k4 k5; have HBN := Lib.hid hbx; clear hbx; obtain ⟨k0, k1, k2, k3, k4, k5, -, -⟩ := HC.out _ HBN.out))
  go_upto_region 5 with (first
    | (go_at_call 49; refine (HAP.out _ (HRP.out.on HBN.out)).mono ?_; rintro x we ⟨q, rfl, hqi, -, hqd, hbn⟩; have HQI := Lib.hid hqi; have HQD := Lib.hid hqd; clear hqi hqd; have hbx := HBN.out.trans (hbn.mono HBN.out.size); clear HBN hbn k0 k1 k2 k3 k4 k5; have HBN := Lib.hid hbx; clear hbx; obtain ⟨k0, k1, k2, k3, k4, k5, -, -⟩ := HC.out _ HBN.out)
    | ((with_reducible apply wpList_load_w (ty := 55) (b := g + 1) (o := 0) (cs := [.int .i64 5, .int .i64 f, .int .i64 b, .int .i64 tob, .int .i64 other, .int .i64 pos, .int .i64 id, .int .i64 kind, .int .i64 dst, .int .i64 a, .int .i64 b2, .int .i64 c, .int .i64 f2, .int .i64 n, .int .i64 x0, .int .i64 x1, .int .i64 x2])); rotate_left; rfl; rfl; exact (HC.out _ HBN.out).2.2.2.2.2.2.1; exact Tryz.underlying55; rfl; kernel_rfl; rotate_left; rfl; simp only [Act.put, List.setIfInBounds_toArray, List.set_cons_zero, List.set_cons_succ]))
  obtain ⟨QL, hQL⟩ : ∃ QL, q.funs.length = QL := ⟨_, rfl⟩
  have HQL := Lib.hid hQL
  simp only [hQL]
  clear hQL
  have hb_ := below1 we (.cells #[.slice q.pa QL q.pc] 24)
  have HXgq : Hid (BoxL (we.alloc (.cells #[.slice q.pa QL q.pc] 24)) we.heap.size [.slice q.pa QL q.pc]) := Lib.hid (BoxL.new we _ _)
  have HRQ := Lib.hid (show Rd (we.alloc (.cells #[.slice q.pa QL q.pc] 24)) q from (show Rd we q from ⟨HQI.out, (HRP.out.on HBN.out).2.1, (HRP.out.on HBN.out).2.2⟩).on hb_)
  have HBM := Lib.hid (HBN.out.trans (hb_.mono HBN.out.size))
  clear hb_ HBN k0 k1 k2 k3 k4 k5
  generalize we.alloc (.cells #[.slice q.pa QL q.pc] 24) = W5 at *
  generalize we.heap.size = gq at *
  have HLgq := Lib.hid (HXgq.out.lt (Nat.zero_lt_succ _))
  replace HRP := Lib.hid (HRP.out.on HBM.out)
  have HBW1 := Lib.hid (HBb.out.trans (HBM.out.mono (by rw [← hg]; exact HBb.out.size)))
  have HC1 : Hid (∀ wr, Below W5.heap.size W5 wr → wr.cell? ⟨g, 0, none⟩ = some (.slice p.pa PL p.pc) ∧ wr.cell? ⟨g + 1, 0, none⟩ = some (.int .i64 5) ∧ wr.cell? ⟨g + 1, 1, none⟩ = some (.int .i64 f) ∧ wr.cell? ⟨g + 1, 2, none⟩ = some (.int .i64 b) ∧ wr.cell? ⟨g + 1, 3, none⟩ = some (.int .i64 tob) ∧ wr.cell? ⟨g + 1, 4, none⟩ = some (.int .i64 other) ∧ wr.rangeAt (g + 1) 0 [.int .i64 5, .int .i64 f, .int .i64 b, .int .i64 tob, .int .i64 other, .int .i64 pos, .int .i64 id, .int .i64 kind, .int .i64 dst, .int .i64 a, .int .i64 b2, .int .i64 c, .int .i64 f2, .int .i64 n, .int .i64 x0, .int .i64 x1, .int .i64 x2] ∧ wr.cell? ⟨gq, 0, none⟩ = some (.slice q.pa QL q.pc) ∧ True) := Lib.hid fun wr hb => have h := HC.out wr (HBM.out.trans (hb.mono HBM.out.size)); ⟨h.1, h.2.1, h.2.2.1, h.2.2.2.1, h.2.2.2.2.1, h.2.2.2.2.2.1, h.2.2.2.2.2.2.1, ((HXgq.out.below hb HLgq.out) 0 _ rfl).1, trivial⟩
  clear HC HBM
  have HBN : Hid (Below W5.heap.size W5 W5) := Lib.hid (Below.refl _ _)
  obtain ⟨k0, k1, k2, k3, k4, k5, -, k7, -⟩ := HC1.out _ HBN.out
  have hqf := HQF.out q HQD.out
  have HKQ := Lib.hid (fun wr (h : Rd wr q) (b : Int) y hy r hr => Block_any q f b wr h.1 h.2.1 h.2.2 hqf y hy r hr)
  have HQFW := Lib.hid hqf
  unfold Pg.val at HKQ
  simp only [HQL.out] at HKQ
  clear hqf
  obtain ⟨yx, hyx⟩ : ∃ y, blkR p f b1 = y := ⟨_, rfl⟩
  have HEx := Lib.hid (show ∀ t, decide (t ∈ yx.succ) = edgeB p f b1 t from fun t => by rw [← hyx]; rfl)
  have HIx := Lib.hid (fun wr (h : Rd wr p) => show Is wr.heap.size wr yx.sa yx.succ from hyx ▸ (blkR_is h.1 f b1).2)
  have h30x : yx.succ.length ≤ 30 := hyx ▸ (blkR_few HFW.out f b1).2
  obtain ⟨rbx, hrbx⟩ : ∃ r, blkB p f b1 = r := ⟨_, rfl⟩
  have HKx := Lib.hid (fun wr (h : Rd wr p) => HKP.out wr h b1 yx hyx rbx hrbx)
  clear hyx hrbx
  obtain ⟨lvx, cax, ccx, codex, sax, scx, succx⟩ := yx
  unfold Blk.val at HKx
  dsimp only at HEx HIx h30x HKx
  obtain ⟨SLx, hSLx⟩ : ∃ n, succx.length = n := ⟨_, rfl⟩
  obtain ⟨CLx, hCLx⟩ : ∃ n, codex.length = n := ⟨_, rfl⟩
  have HSLx := Lib.hid hSLx
  simp only [hSLx, hCLx] at HKx
  rw [hSLx] at h30x
  clear hSLx hCLx
  go_upto_region 8 with (go_at_call 17; refine (HKx.out _ (HRP.out.on HBN.out)).mono ?_; rintro x wx ⟨rfl, hbn⟩; have hbx := HBN.out.trans (hbn.mono HBN.out.size); clear HBN hbn k0 k1 k2 k3 k4 k5 k7; have HBN := Lib.hid hbx; clear hbx; obtain ⟨k0, k1, k2, k3, k4, k5, -, k7, -⟩ := HC1.out _ HBN.out)
  have hb_ := below1 wx (.cells #[.bool lvx, .slice cax CLx ccx, .slice sax SLx scx] 35)
  have HXgx : Hid (BoxL (wx.alloc (.cells #[.bool lvx, .slice cax CLx ccx, .slice sax SLx scx] 35)) wx.heap.size [.bool lvx, .slice cax CLx ccx, .slice sax SLx scx]) := Lib.hid (BoxL.new wx _ _)
  have HBM := Lib.hid (HBN.out.trans (hb_.mono HBN.out.size))
  clear hb_ HBN k0 k1 k2 k3 k4 k5 k7
  generalize wx.alloc (.cells #[.bool lvx, .slice cax CLx ccx, .slice sax SLx scx] 35) = W6 at *
  generalize wx.heap.size = gx at *
  have HLgx := Lib.hid (HXgx.out.lt (Nat.zero_lt_succ _))
  replace HRP := Lib.hid (HRP.out.on HBM.out)
  replace HRQ := Lib.hid (HRQ.out.on HBM.out)
  have HBW2 := Lib.hid (HBW1.out.trans (HBM.out.mono (by rw [← hg]; exact HBW1.out.size)))
  have HC2 : Hid (∀ wr, Below W6.heap.size W6 wr → wr.cell? ⟨g, 0, none⟩ = some (.slice p.pa PL p.pc) ∧ wr.cell? ⟨g + 1, 0, none⟩ = some (.int .i64 5) ∧ wr.cell? ⟨g + 1, 1, none⟩ = some (.int .i64 f) ∧ wr.cell? ⟨g + 1, 2, none⟩ = some (.int .i64 b) ∧ wr.cell? ⟨g + 1, 3, none⟩ = some (.int .i64 tob) ∧ wr.cell? ⟨g + 1, 4, none⟩ = some (.int .i64 other) ∧ wr.rangeAt (g + 1) 0 [.int .i64 5, .int .i64 f, .int .i64 b, .int .i64 tob, .int .i64 other, .int .i64 pos, .int .i64 id, .int .i64 kind, .int .i64 dst, .int .i64 a, .int .i64 b2, .int .i64 c, .int .i64 f2, .int .i64 n, .int .i64 x0, .int .i64 x1, .int .i64 x2] ∧ wr.cell? ⟨gq, 0, none⟩ = some (.slice q.pa QL q.pc) ∧ wr.cell? ⟨gx, 0, none⟩ = some (.bool lvx) ∧ wr.cell? ⟨gx, 1, none⟩ = some (.slice cax CLx ccx) ∧ wr.cell? ⟨gx, 2, none⟩ = some (.slice sax SLx scx) ∧ True) := Lib.hid fun wr hb => have h := HC1.out wr (HBM.out.trans (hb.mono HBM.out.size)); ⟨h.1, h.2.1, h.2.2.1, h.2.2.2.1, h.2.2.2.2.1, h.2.2.2.2.2.1, h.2.2.2.2.2.2.1, h.2.2.2.2.2.2.2.1, ((HXgx.out.below hb HLgx.out) 0 _ rfl).1, ((HXgx.out.below hb HLgx.out) 1 _ rfl).1, ((HXgx.out.below hb HLgx.out) 2 _ rfl).1, trivial⟩
  clear HC1 HBM
  have HBN : Hid (Below W6.heap.size W6 W6) := Lib.hid (Below.refl _ _)
  obtain ⟨k0, k1, k2, k3, k4, k5, -, k7, k8, k9, k10, -⟩ := HC2.out _ HBN.out
  obtain ⟨yy, hyy⟩ : ∃ y, blkR q f b1 = y := ⟨_, rfl⟩
  have HEy := Lib.hid (show ∀ t, decide (t ∈ yy.succ) = edgeB q f b1 t from fun t => by rw [← hyy]; rfl)
  have HIy := Lib.hid (fun wr (h : Rd wr q) => show Is wr.heap.size wr yy.sa yy.succ from hyy ▸ (blkR_is h.1 f b1).2)
  have h30y : yy.succ.length ≤ 30 := hyy ▸ (blkR_few HQFW.out f b1).2
  obtain ⟨rby, hrby⟩ : ∃ r, blkB q f b1 = r := ⟨_, rfl⟩
  have HKy := Lib.hid (fun wr (h : Rd wr q) => HKQ.out wr h b1 yy hyy rby hrby)
  clear hyy hrby
  obtain ⟨lvy, cay, ccy, codey, say, scy, succy⟩ := yy
  unfold Blk.val at HKy
  dsimp only at HEy HIy h30y HKy
  obtain ⟨SLy, hSLy⟩ : ∃ n, succy.length = n := ⟨_, rfl⟩
  obtain ⟨CLy, hCLy⟩ : ∃ n, codey.length = n := ⟨_, rfl⟩
  have HSLy := Lib.hid hSLy
  simp only [hSLy, hCLy] at HKy
  rw [hSLy] at h30y
  clear hSLy hCLy
  go_upto_region 9 with (go_at_call 17; refine (HKy.out _ (HRQ.out.on HBN.out)).mono ?_; rintro x wy ⟨rfl, hbn⟩; have hbx := HBN.out.trans (hbn.mono HBN.out.size); clear HBN hbn k0 k1 k2 k3 k4 k5 k7 k8 k9 k10; have HBN := Lib.hid hbx; clear hbx; obtain ⟨k0, k1, k2, k3, k4, k5, -, k7, k8, k9, k10, -⟩ := HC2.out _ HBN.out)
  have hb_ := below1 wy (.cells #[.bool lvy, .slice cay CLy ccy, .slice say SLy scy] 35)
  have HXgy : Hid (BoxL (wy.alloc (.cells #[.bool lvy, .slice cay CLy ccy, .slice say SLy scy] 35)) wy.heap.size [.bool lvy, .slice cay CLy ccy, .slice say SLy scy]) := Lib.hid (BoxL.new wy _ _)
  have HBM := Lib.hid (HBN.out.trans (hb_.mono HBN.out.size))
  clear hb_ HBN k0 k1 k2 k3 k4 k5 k7 k8 k9 k10
  generalize wy.alloc (.cells #[.bool lvy, .slice cay CLy ccy, .slice say SLy scy] 35) = W7 at *
  generalize wy.heap.size = gy at *
  have HLgy := Lib.hid (HXgy.out.lt (Nat.zero_lt_succ _))
  replace HRP := Lib.hid (HRP.out.on HBM.out)
  replace HRQ := Lib.hid (HRQ.out.on HBM.out)
  have HBW3 := Lib.hid (HBW2.out.trans (HBM.out.mono (by rw [← hg]; exact HBW2.out.size)))
  have HC3 : Hid (∀ wr, Below W7.heap.size W7 wr → wr.cell? ⟨g, 0, none⟩ = some (.slice p.pa PL p.pc) ∧ wr.cell? ⟨g + 1, 0, none⟩ = some (.int .i64 5) ∧ wr.cell? ⟨g + 1, 1, none⟩ = some (.int .i64 f) ∧ wr.cell? ⟨g + 1, 2, none⟩ = some (.int .i64 b) ∧ wr.cell? ⟨g + 1, 3, none⟩ = some (.int .i64 tob) ∧ wr.cell? ⟨g + 1, 4, none⟩ = some (.int .i64 other) ∧ wr.rangeAt (g + 1) 0 [.int .i64 5, .int .i64 f, .int .i64 b, .int .i64 tob, .int .i64 other, .int .i64 pos, .int .i64 id, .int .i64 kind, .int .i64 dst, .int .i64 a, .int .i64 b2, .int .i64 c, .int .i64 f2, .int .i64 n, .int .i64 x0, .int .i64 x1, .int .i64 x2] ∧ wr.cell? ⟨gq, 0, none⟩ = some (.slice q.pa QL q.pc) ∧ wr.cell? ⟨gx, 0, none⟩ = some (.bool lvx) ∧ wr.cell? ⟨gx, 1, none⟩ = some (.slice cax CLx ccx) ∧ wr.cell? ⟨gx, 2, none⟩ = some (.slice sax SLx scx) ∧ wr.cell? ⟨gy, 0, none⟩ = some (.bool lvy) ∧ wr.cell? ⟨gy, 1, none⟩ = some (.slice cay CLy ccy) ∧ wr.cell? ⟨gy, 2, none⟩ = some (.slice say SLy scy) ∧ True) := Lib.hid fun wr hb => have h := HC2.out wr (HBM.out.trans (hb.mono HBM.out.size)); ⟨h.1, h.2.1, h.2.2.1, h.2.2.2.1, h.2.2.2.2.1, h.2.2.2.2.2.1, h.2.2.2.2.2.2.1, h.2.2.2.2.2.2.2.1, h.2.2.2.2.2.2.2.2.1, h.2.2.2.2.2.2.2.2.2.1, h.2.2.2.2.2.2.2.2.2.2.1, ((HXgy.out.below hb HLgy.out) 0 _ rfl).1, ((HXgy.out.below hb HLgy.out) 1 _ rfl).1, ((HXgy.out.below hb HLgy.out) 2 _ rfl).1, trivial⟩
  clear HC2 HBM
  have HBN : Hid (Below W7.heap.size W7 W7) := Lib.hid (Below.refl _ _)
  obtain ⟨k0, k1, k2, k3, k4, k5, -, k7, k8, k9, k10, k11, k12, k13, -⟩ := HC3.out _ HBN.out
  go_upto_region 10 with (first | (go_at_call 58; refine (Has8_any sax succx scx t1 _ _ (HIx.out _ (HRP.out.on HBN.out)) SLx HSLx.out (by omega)).mono ?_; rintro x w_ ⟨rfl, rfl⟩; skip))
  go_upto_region 11 with (first | (go_at_call 58; refine (Has8_any say succy scy t1 _ _ (HIy.out _ (HRQ.out.on HBN.out)) SLy HSLy.out (by omega)).mono ?_; rintro x w_ ⟨rfl, rfl⟩; skip))
  obtain ⟨yz, hyz⟩ : ∃ y, blkR q f b = y := ⟨_, rfl⟩
  have HEz := Lib.hid (show ∀ t, decide (t ∈ yz.succ) = edgeB q f b t from fun t => by rw [← hyz]; rfl)
  have HIz := Lib.hid (fun wr (h : Rd wr q) => show Is wr.heap.size wr yz.sa yz.succ from hyz ▸ (blkR_is h.1 f b).2)
  have h30z : yz.succ.length ≤ 30 := hyz ▸ (blkR_few HQFW.out f b).2
  obtain ⟨rbz, hrbz⟩ : ∃ r, blkB q f b = r := ⟨_, rfl⟩
  have HKz := Lib.hid (fun wr (h : Rd wr q) => HKQ.out wr h b yz hyz rbz hrbz)
  clear hyz hrbz
  obtain ⟨lvz, caz, ccz, codez, saz, scz, succz⟩ := yz
  unfold Blk.val at HKz
  dsimp only at HEz HIz h30z HKz
  obtain ⟨SLz, hSLz⟩ : ∃ n, succz.length = n := ⟨_, rfl⟩
  obtain ⟨CLz, hCLz⟩ : ∃ n, codez.length = n := ⟨_, rfl⟩
  have HSLz := Lib.hid hSLz
  simp only [hSLz, hCLz] at HKz
  rw [hSLz] at h30z
  clear hSLz hCLz
  go_upto_region 12 with (go_at_call 17; refine (HKz.out _ (HRQ.out.on HBN.out)).mono ?_; rintro x wz ⟨rfl, hbn⟩; have hbx := HBN.out.trans (hbn.mono HBN.out.size); clear HBN hbn k0 k1 k2 k3 k4 k5 k7 k8 k9 k10 k11 k12 k13; have HBN := Lib.hid hbx; clear hbx; obtain ⟨k0, k1, k2, k3, k4, k5, -, k7, k8, k9, k10, k11, k12, k13, -⟩ := HC3.out _ HBN.out)
  have hb_ := below1 wz (.cells #[.bool lvz, .slice caz CLz ccz, .slice saz SLz scz] 35)
  have HXgz : Hid (BoxL (wz.alloc (.cells #[.bool lvz, .slice caz CLz ccz, .slice saz SLz scz] 35)) wz.heap.size [.bool lvz, .slice caz CLz ccz, .slice saz SLz scz]) := Lib.hid (BoxL.new wz _ _)
  have HBM := Lib.hid (HBN.out.trans (hb_.mono HBN.out.size))
  clear hb_ HBN k0 k1 k2 k3 k4 k5 k7 k8 k9 k10 k11 k12 k13
  generalize wz.alloc (.cells #[.bool lvz, .slice caz CLz ccz, .slice saz SLz scz] 35) = W8 at *
  generalize wz.heap.size = gz at *
  have HLgz := Lib.hid (HXgz.out.lt (Nat.zero_lt_succ _))
  replace HRP := Lib.hid (HRP.out.on HBM.out)
  replace HRQ := Lib.hid (HRQ.out.on HBM.out)
  have HBW4 := Lib.hid (HBW3.out.trans (HBM.out.mono (by rw [← hg]; exact HBW3.out.size)))
  have HC4 : Hid (∀ wr, Below W8.heap.size W8 wr → wr.cell? ⟨g, 0, none⟩ = some (.slice p.pa PL p.pc) ∧ wr.cell? ⟨g + 1, 0, none⟩ = some (.int .i64 5) ∧ wr.cell? ⟨g + 1, 1, none⟩ = some (.int .i64 f) ∧ wr.cell? ⟨g + 1, 2, none⟩ = some (.int .i64 b) ∧ wr.cell? ⟨g + 1, 3, none⟩ = some (.int .i64 tob) ∧ wr.cell? ⟨g + 1, 4, none⟩ = some (.int .i64 other) ∧ wr.rangeAt (g + 1) 0 [.int .i64 5, .int .i64 f, .int .i64 b, .int .i64 tob, .int .i64 other, .int .i64 pos, .int .i64 id, .int .i64 kind, .int .i64 dst, .int .i64 a, .int .i64 b2, .int .i64 c, .int .i64 f2, .int .i64 n, .int .i64 x0, .int .i64 x1, .int .i64 x2] ∧ wr.cell? ⟨gq, 0, none⟩ = some (.slice q.pa QL q.pc) ∧ wr.cell? ⟨gx, 0, none⟩ = some (.bool lvx) ∧ wr.cell? ⟨gx, 1, none⟩ = some (.slice cax CLx ccx) ∧ wr.cell? ⟨gx, 2, none⟩ = some (.slice sax SLx scx) ∧ wr.cell? ⟨gy, 0, none⟩ = some (.bool lvy) ∧ wr.cell? ⟨gy, 1, none⟩ = some (.slice cay CLy ccy) ∧ wr.cell? ⟨gy, 2, none⟩ = some (.slice say SLy scy) ∧ wr.cell? ⟨gz, 0, none⟩ = some (.bool lvz) ∧ wr.cell? ⟨gz, 1, none⟩ = some (.slice caz CLz ccz) ∧ wr.cell? ⟨gz, 2, none⟩ = some (.slice saz SLz scz) ∧ True) := Lib.hid fun wr hb => have h := HC3.out wr (HBM.out.trans (hb.mono HBM.out.size)); ⟨h.1, h.2.1, h.2.2.1, h.2.2.2.1, h.2.2.2.2.1, h.2.2.2.2.2.1, h.2.2.2.2.2.2.1, h.2.2.2.2.2.2.2.1, h.2.2.2.2.2.2.2.2.1, h.2.2.2.2.2.2.2.2.2.1, h.2.2.2.2.2.2.2.2.2.2.1, h.2.2.2.2.2.2.2.2.2.2.2.1, h.2.2.2.2.2.2.2.2.2.2.2.2.1, h.2.2.2.2.2.2.2.2.2.2.2.2.2.1, ((HXgz.out.below hb HLgz.out) 0 _ rfl).1, ((HXgz.out.below hb HLgz.out) 1 _ rfl).1, ((HXgz.out.below hb HLgz.out) 2 _ rfl).1, trivial⟩
  clear HC3 HBM
  have HBN : Hid (Below W8.heap.size W8 W8) := Lib.hid (Below.refl _ _)
  obtain ⟨k0, k1, k2, k3, k4, k5, -, k7, k8, k9, k10, k11, k12, k13, k14, k15, k16, -⟩ := HC4.out _ HBN.out
  have hex := HEx.out t1
  have hey := HEy.out t1
  have hez1 := HEz.out tob
  have hez2 := HEz.out other
  rw [HQE.out q HQD.out] at hey hez1 hez2
  obtain ⟨hae3, hae4, hae5, haeo⟩ := hae
  have hao := haeo b1 t1
  obtain ⟨bx, hbx⟩ : ∃ r, decide (t1 ∈ succx) = r := ⟨_, rfl⟩
  obtain ⟨by', hby⟩ : ∃ r, decide (t1 ∈ succy) = r := ⟨_, rfl⟩
  obtain ⟨bz1, hbz1⟩ : ∃ r, decide (tob ∈ succz) = r := ⟨_, rfl⟩
  obtain ⟨bz2, hbz2⟩ : ∃ r, decide (other ∈ succz) = r := ⟨_, rfl⟩
  simp only [hbx, hby]
  rw [hbx] at hex
  rw [hby] at hey
  rw [hbz1] at hez1
  rw [hbz2] at hez2
  rw [← hex, ← hey] at hao
  clear haeo hex hey hbx hby
  have tok1 : True := trivial
  have tok2 : True := trivial
  have hz : bz2 = true := by rw [hez2]; exact (hae5 (by trivial)).1
  have hz1 : other ≠ tob → bz1 = false := fun h => by rw [hez1]; exact (hae5 (by trivial)).2 h
  clear hez1 hez2 hae3 hae4 hae5
  subst hz
  by_cases hot : other = tob
  · subst hot
    go_upto_region 14 with (first
    | (have _t := tok2; go_at_call 58; refine (Has8_any saz succz scz other _ _ (HIz.out _ (HRQ.out.on HBN.out)) SLz HSLz.out (by omega)).mono ?_; rw [hbz2]; rintro x w_ ⟨rfl, rfl⟩; skip; clear _t tok2))
    clear hbz1 hbz2
    by_cases hb1 : b1 = b
    · subst hb1
      by_cases ht1 : t1 = other
      · subst ht1
        clear hao
        go_wp2_with fail
        go_ret
        exact ⟨by simp, HBW4.out.trans (HBN.out.mono (by rw [← hg]; exact HBW4.out.size))⟩
      · by_cases ht2 : t1 = other
        · exact absurd ht2 ht1
        · have hab := hao (fun h => h.2.elim ht1 fun h => ht2 h.2)
          subst hab
          clear hao
          go_wp2_with fail
          go_ret
          exact ⟨by simp, HBW4.out.trans (HBN.out.mono (by rw [← hg]; exact HBW4.out.size))⟩
    · have hab := hao (fun h => hb1 h.1)
      subst hab
      clear hao
      go_wp2_with fail
      go_ret
      exact ⟨by simp, HBW4.out.trans (HBN.out.mono (by rw [← hg]; exact HBW4.out.size))⟩

  · have hz := hz1 hot
    subst hz
    go_upto_region 14 with (first
    | (have _t := tok2; go_at_call 58; refine (Has8_any saz succz scz other _ _ (HIz.out _ (HRQ.out.on HBN.out)) SLz HSLz.out (by omega)).mono ?_; rw [hbz2]; rintro x w_ ⟨rfl, rfl⟩; skip; clear _t tok2)
    | (have _t := tok1; go_at_call 58; refine (Has8_any saz succz scz tob _ _ (HIz.out _ (HRQ.out.on HBN.out)) SLz HSLz.out (by omega)).mono ?_; rw [hbz1]; rintro x w_ ⟨rfl, rfl⟩; skip; clear _t tok1))
    clear hbz1 hbz2
    by_cases hb1 : b1 = b
    · subst hb1
      by_cases ht1 : t1 = tob
      · subst ht1
        clear hao
        go_wp2_with fail
        go_ret
        exact ⟨by simp, HBW4.out.trans (HBN.out.mono (by rw [← hg]; exact HBW4.out.size))⟩
      · by_cases ht2 : t1 = other
        · subst ht2
          clear hao
          go_wp2_with fail
          go_ret
          exact ⟨by simp, HBW4.out.trans (HBN.out.mono (by rw [← hg]; exact HBW4.out.size))⟩
        · have hab := hao (fun h => h.2.elim ht1 fun h => ht2 h.2)
          subst hab
          clear hao
          go_wp2_with fail
          go_ret
          exact ⟨by simp, HBW4.out.trans (HBN.out.mono (by rw [← hg]; exact HBW4.out.size))⟩
    · have hab := hao (fun h => hb1 h.1)
      subst hab
      clear hao
      go_wp2_with fail
      go_ret
      exact ⟨by simp, HBW4.out.trans (HBN.out.mono (by rw [← hg]; exact HBW4.out.size))⟩
theorem applyEdges_any (p : Pg) (e : Ed) (b1 t1 : Int) (w : World) (h : Rd w p) (hwf : p.wf) :
    Calls Tryz.prog 11 #[p.val, e.val, .int .i64 b1, .int .i64 t1] w fun x w' => x = .returned (.bool true) ∧ Below w.heap.size w w' := by
  by_cases hfew : p.few
  rotate_left
  · exact edgesN p e b1 t1 w h hfew
  by_cases h3 : e.op = 3
  · by_cases hc : chk p e = 0
    · exact edges3 p e b1 t1 w h hwf hfew h3 hc
    · exact edgesE3 p e b1 t1 w h hwf hfew h3 hc
  by_cases h4 : e.op = 4
  · by_cases hc : chk p e = 0
    · exact edges4 p e b1 t1 w h hwf hfew h4 hc
    · exact edgesE4 p e b1 t1 w h hwf hfew h4 hc
  by_cases h5 : e.op = 5
  · by_cases hc : chk p e = 0
    · exact edges5 p e b1 t1 w h hwf hfew h5 hc
    · exact edgesE5 p e b1 t1 w h hwf hfew h5 hc
  exact edgesO p e b1 t1 w h hfew ⟨h3, h4, h5⟩
end Go.Proofs.YtbddjneinfkmpaaGreatDoor
