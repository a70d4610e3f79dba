/- The document's answer for layer 5: what an instruction makes of what is known. -/
import Derived.Deep.RegionHeld3
import Derived.Test.YtmcbedlmgffckaaGreatDoorRfC
import Derived.Test.YtmcbedlmgffckaaGreatDoorInsU
import Derived.Test.YtmcbedlmgffckaaGreatDoorInsS
import Derived.Test.YtmcbedlmgffckaaGreatDoorInsW
import Derived.Test.YtmcbedlmgffckaaGreatDoorInsT
import Derived.Test.YtmcbedlmgffckaaGreatDoorEnvTF
import Derived.Test.YtmcbedlmgffckaaGreatDoorEnvTS
import Derived.Test.YtmcbedlmgffckaaGreatDoorEnvUF
import Derived.Test.YtmcbedlmgffckaaGreatDoorEnvUS
import Derived.Test.YtmcbedlmgffckaaGreatDoorFlatF
import Derived.Test.YtmcbedlmgffckaaGreatDoorSigF
namespace Go.Proofs.YtmcbedlmgffckaaGreatDoor
open Go Go.RowKit Go.Sort

/-- What is read does not lie in a result's two cells. -/
theorem box_ne {W : World} {b : Nat} {v : Bool} {t : TypeId} {fr : Nat × Nat} (hb : W.heap[b]? = some (.cells #[.bool v, .slice none 0 0] t fr)) {g o : Nat} {z : Int} (hc : W.cell? ⟨g, o, none⟩ = some (.int .i64 z)) : g ≠ b := by
  rintro rfl
  simp only [World.cell?, hb] at hc
  match o with
  | 0 => simp at hc
  | 1 => simp at hc
  | o + 2 => simp at hc
theorem FE.putBox {W : World} {a : Option Addr} {n : Nat} {l : List V} {b : Nat} {v : Bool} {t : TypeId} {fr : Nat × Nat} (h : FE W a n l) (hb : W.heap[b]? = some (.cells #[.bool v, .slice none 0 0] t fr)) (x y : Value) : FE ((W.setCell ⟨b, 0, none⟩ x).setCell ⟨b, 1, none⟩ y) a n l := by
  cases l with
  | nil => exact ⟨FIs.nil _ _ _, h.2⟩
  | cons u r =>
    obtain ⟨g, o, rfl, _, c0, _⟩ := h.1 0 (by simp)
    exact h.put (fun g' o' e => by cases e; exact box_ne hb c0) x y
theorem SE.putBox {W : World} {a : Option Addr} {n : Nat} {l : List Int} {b : Nat} {v : Bool} {t : TypeId} {fr : Nat × Nat} (h : SE W a n l) (hb : W.heap[b]? = some (.cells #[.bool v, .slice none 0 0] t fr)) (x y : Value) : SE ((W.setCell ⟨b, 0, none⟩ x).setCell ⟨b, 1, none⟩ y) a n l := by
  cases l with
  | nil => exact ⟨Is.nil _ _ _, h.2⟩
  | cons u r =>
    obtain ⟨g, o, rfl, _, c0⟩ := h.1 0 (by simp)
    exact h.put (fun g' o' e => by cases e; exact box_ne hb c0) x y
theorem joinF_same (on : Bool) (l : List V) (m : Nat) (hm : szG on l = m) : max (szG on l) (szG on l) = m := by rw [hm]; exact Nat.max_self m
theorem joinS_same (on : Bool) (l : List Int) (m : Nat) (hm : szG on l = m) : max (szG on l) (szG on l) = m := by rw [hm]; exact Nat.max_self m

set_option maxRecDepth 100000 in
set_option maxHeartbeats 16000000 in
theorem rvalue_any (on : Bool) (a : Option Addr) (n cap : Nat) (l : List V) (i : Ins) (w : World) (h : FE w a n l) (r : V) (hr : valF on l i = r) :
    Calls Tryz.prog 25 #[.agg #[.bool on, .slice a n cap], i.val] w fun e w' => e = .returned r.val ∧ Below w.heap.size w w' := by
  have hb3 := below3 w (.cells #[.bool on, .slice a n cap] 24) (.cells i.cells.toArray 30) (.cells #[.int .i64 0, .int .i64 0] 53)
  have BE := ((Box.new w (.bool on) (.slice a n cap) 24).alloc (.cells i.cells.toArray 30)).alloc (.cells #[.int .i64 0, .int .i64 0] 53)
  have BI := (BoxL.new (w.alloc (.cells #[.bool on, .slice a n cap] 24)) i.cells 30).alloc (Nat.zero_lt_succ _) (.cells #[.int .i64 0, .int .i64 0] 53)
  have BR := Box.new ((w.alloc (.cells #[.bool on, .slice a n cap] 24)).alloc (.cells i.cells.toArray 30)) (.int .i64 0) (.int .i64 0) 53
  simp only [World.size_alloc] at BI BR
  have HG := Lib.hid (fun j W (hb : Below w.heap.size w W) => rGetF_any on a n cap l j W (h.below hb))
  have HR : Hid (valF on l i = r) := hr
  unfold valF at HR
  obtain ⟨ua, hua⟩ : ∃ u, (atG vbot on l i.a).sn = u := ⟨_, rfl⟩
  obtain ⟨ub, hub⟩ : ∃ u, (atG vbot on l i.b).sn = u := ⟨_, rfl⟩
  have HGA := Lib.hid (fun W hb => HG.out i.a W hb)
  have HGB := Lib.hid (fun W hb => HG.out i.b W hb)
  rw [hua] at HR HGA
  rw [hub] at HR HGB
  obtain ⟨id, kind, dst, va, vb, c, f, n', x0, x1, x2⟩ := i
  obtain ⟨ak, ac⟩ := ua
  obtain ⟨bk, bc⟩ := ub
  obtain ⟨rk, rc⟩ := r
  unfold Ins.val at *
  unfold Ins.cells at *
  unfold V.val at *
  dsimp only at *
  generalize hE : ((w.alloc (.cells #[.bool on, .slice a n cap] 24)).alloc (.cells (List.toArray [.int .i64 id, .int .i64 kind, .int .i64 dst, .int .i64 va, .int .i64 vb, .int .i64 c, .int .i64 f, .int .i64 n', .int .i64 x0, .int .i64 x1, .int .i64 x2]) 30)).alloc (.cells #[.int .i64 0, .int .i64 0] 53) = W at *
  have hE' : ((w.alloc (.cells #[.bool on, .slice a n cap] 24)).alloc (.cells #[.int .i64 id, .int .i64 kind, .int .i64 dst, .int .i64 va, .int .i64 vb, .int .i64 c, .int .i64 f, .int .i64 n', .int .i64 x0, .int .i64 x1, .int .i64 x2] 30)).alloc (.cells #[.int .i64 0, .int .i64 0] 53) = W := hE
  have HW := Lib.hid hb3
  have HBE := Lib.hid BE
  have HBI := Lib.hid BI
  have HBR := Lib.hid BR
  clear hE hb3 BE BI BR hr hua hub HG h
  go_enter Tryz.func25, Tryz.ntmps25
  go_upto_region 1 with fail
  try rw [hE']
  clear hE'
  have k3 := (HBI.out 3 _ rfl).1
  obtain ⟨e0, e1, -, -⟩ := HBE.out
  go_wp2_with fail
  clear k3 e0 e1
  refine (HGA.out _ HW.out).mono ?_
  rintro e w1 ⟨rfl, hb1⟩
  have hal := below1 w1 (.cells #[.int .i64 ak, .int .i64 ac] 53)
  have hbn := hb1.trans (hal.mono hb1.size)
  have Hx := Lib.hid (Box.nx HBE.out hbn)
  clear HBE
  have HBE := Hx
  clear Hx
  have Hx := Lib.hid (HBI.out.below hbn (HBI.out.lt (Nat.zero_lt_succ _)))
  clear HBI
  have HBI := Hx
  clear Hx
  have Hx := Lib.hid (Box.nx HBR.out hbn)
  clear HBR
  have HBR := Hx
  clear Hx
  have Hx := Lib.hid (HW.out.trans (hbn.mono HW.out.size))
  clear HW
  have HW := Hx
  clear Hx
  have HX := Lib.hid (Box.new w1 (.int .i64 ak) (.int .i64 ac) 53)
  clear hal hb1 hbn
  have k4 := (HBI.out 4 _ rfl).1
  obtain ⟨e0, e1, -, -⟩ := HBE.out
  go_wp2_with fail
  clear k4 e0 e1
  obtain ⟨b5, hb5⟩ : ∃ b, w1.heap.size = b := ⟨_, rfl⟩
  rw [hb5] at HX ⊢
  generalize w1.alloc (.cells #[.int .i64 ak, .int .i64 ac] 53) = W1 at *
  clear hb5
  refine (HGB.out _ HW.out).mono ?_
  rintro e w2 ⟨rfl, hb2⟩
  have hal := below1 w2 (.cells #[.int .i64 bk, .int .i64 bc] 53)
  have hbn := hb2.trans (hal.mono hb2.size)
  have Hx := Lib.hid (Box.nx HBE.out hbn)
  clear HBE
  have HBE := Hx
  clear Hx
  have Hx := Lib.hid (HBI.out.below hbn (HBI.out.lt (Nat.zero_lt_succ _)))
  clear HBI
  have HBI := Hx
  clear Hx
  have Hx := Lib.hid (Box.nx HBR.out hbn)
  clear HBR
  have HBR := Hx
  clear Hx
  have Hx := Lib.hid (HW.out.trans (hbn.mono HW.out.size))
  clear HW
  have HW := Hx
  clear Hx
  have Hx := Lib.hid (Box.nx HX.out hbn)
  clear HX
  have HX := Hx
  clear Hx
  have HY := Lib.hid (Box.new w2 (.int .i64 bk) (.int .i64 bc) 53)
  clear hal hb2 hbn
  go_upto_region 3 with fail
  obtain ⟨b6, hb6⟩ : ∃ b, w2.heap.size = b := ⟨_, rfl⟩
  rw [hb6] at HY ⊢
  generalize w2.alloc (.cells #[.int .i64 bk, .int .i64 bc] 53) = wc at *
  clear hb6 HGA HGB HBE
  obtain ⟨p5, q5, -, -⟩ := HX.out
  obtain ⟨p6, q6, -, -⟩ := HY.out
  obtain ⟨r0, r1, f0, f1⟩ := HBR.out
  have k1 := (HBI.out 1 _ rfl).1
  have k5 := (HBI.out 5 _ rfl).1
  by_cases hk0 : kind = 0
  · subst hk0
    have hre : vone c = ⟨rk, rc⟩ := by have h := HR.out; simpa using h
    have HC := Lib.hid (rOf_any c wc)
    rw [hre] at HC
    unfold V.val at HC
    dsimp only at HC
    clear HR hre
    go_wp2_with (go_at_call 49; refine HC.out.mono ?_; rintro e wn ⟨rfl, hbn⟩; clear r0 r1 f0 f1; obtain ⟨r0, r1, f0, f1⟩ := Box.nx HBR.out hbn; have HBQ := Lib.hid (HW.out.trans (hbn.mono HW.out.size)); clear hbn)
    have hB := below_put2 HBQ.out (b := w.heap.size + 1 + 1) (by omega) (.int .i64 rk) (.int .i64 rc)
    exact bodyPost_ret (v := .agg #[.int .i64 rk, .int .i64 rc]) (by simp [results, Tryz.results25, go_sem, r0, r1]) rfl ⟨rfl, hB⟩
  have hb0 : (kind == 0) = false := by simpa using hk0
  by_cases hk1 : kind = 1
  · subst hk1
    have hre : (⟨ak, ac⟩ : V) = ⟨rk, rc⟩ := by have h := HR.out; simpa using h
    obtain ⟨rfl, rfl⟩ : ak = rk ∧ ac = rc := by simpa using hre
    have HBQ := HW
    clear HR hre
    go_wp2_with fail
    have hB := below_put2 HBQ.out (b := w.heap.size + 1 + 1) (by omega) (.int .i64 ak) (.int .i64 ac)
    exact bodyPost_ret (v := .agg #[.int .i64 ak, .int .i64 ac]) (by simp [results, Tryz.results25, go_sem, r0, r1]) rfl ⟨rfl, hB⟩
  have hb1 : (kind == 1) = false := by simpa using hk1
  by_cases hk2 : kind = 2
  · subst hk2
    have hre : negV ⟨ak, ac⟩ = ⟨rk, rc⟩ := by have h := HR.out; simpa using h
    have HC := Lib.hid (rNeg_any ⟨ak, ac⟩ wc)
    rw [hre] at HC
    unfold V.val at HC
    dsimp only at HC
    clear HR hre
    go_wp2_with (go_at_call 50; refine HC.out.mono ?_; rintro e wn ⟨rfl, hbn⟩; clear r0 r1 f0 f1; obtain ⟨r0, r1, f0, f1⟩ := Box.nx HBR.out hbn; have HBQ := Lib.hid (HW.out.trans (hbn.mono HW.out.size)); clear hbn)
    have hB := below_put2 HBQ.out (b := w.heap.size + 1 + 1) (by omega) (.int .i64 rk) (.int .i64 rc)
    exact bodyPost_ret (v := .agg #[.int .i64 rk, .int .i64 rc]) (by simp [results, Tryz.results25, go_sem, r0, r1]) rfl ⟨rfl, hB⟩
  have hb2 : (kind == 2) = false := by simpa using hk2
  by_cases hk3 : kind = 3
  · subst hk3
    have hre : addV ⟨ak, ac⟩ ⟨bk, bc⟩ = ⟨rk, rc⟩ := by have h := HR.out; simpa using h
    have HC := Lib.hid (rAdd_any ⟨ak, ac⟩ ⟨bk, bc⟩ wc)
    rw [hre] at HC
    unfold V.val at HC
    dsimp only at HC
    clear HR hre
    go_wp2_with (go_at_call 51; refine HC.out.mono ?_; rintro e wn ⟨rfl, hbn⟩; clear r0 r1 f0 f1; obtain ⟨r0, r1, f0, f1⟩ := Box.nx HBR.out hbn; have HBQ := Lib.hid (HW.out.trans (hbn.mono HW.out.size)); clear hbn)
    have hB := below_put2 HBQ.out (b := w.heap.size + 1 + 1) (by omega) (.int .i64 rk) (.int .i64 rc)
    exact bodyPost_ret (v := .agg #[.int .i64 rk, .int .i64 rc]) (by simp [results, Tryz.results25, go_sem, r0, r1]) rfl ⟨rfl, hB⟩
  have hb3 : (kind == 3) = false := by simpa using hk3
  by_cases hk4 : kind = 4
  · subst hk4
    have hre : subV ⟨ak, ac⟩ ⟨bk, bc⟩ = ⟨rk, rc⟩ := by have h := HR.out; simpa using h
    have HC := Lib.hid (rSub_any ⟨ak, ac⟩ ⟨bk, bc⟩ wc)
    rw [hre] at HC
    unfold V.val at HC
    dsimp only at HC
    clear HR hre
    go_wp2_with (go_at_call 52; refine HC.out.mono ?_; rintro e wn ⟨rfl, hbn⟩; clear r0 r1 f0 f1; obtain ⟨r0, r1, f0, f1⟩ := Box.nx HBR.out hbn; have HBQ := Lib.hid (HW.out.trans (hbn.mono HW.out.size)); clear hbn)
    have hB := below_put2 HBQ.out (b := w.heap.size + 1 + 1) (by omega) (.int .i64 rk) (.int .i64 rc)
    exact bodyPost_ret (v := .agg #[.int .i64 rk, .int .i64 rc]) (by simp [results, Tryz.results25, go_sem, r0, r1]) rfl ⟨rfl, hB⟩
  have hb4 : (kind == 4) = false := by simpa using hk4
  by_cases hk5 : kind = 5
  · subst hk5
    have hre : mulV ⟨ak, ac⟩ ⟨bk, bc⟩ = ⟨rk, rc⟩ := by have h := HR.out; simpa using h
    have HC := Lib.hid (rMul_any ⟨ak, ac⟩ ⟨bk, bc⟩ wc)
    rw [hre] at HC
    unfold V.val at HC
    dsimp only at HC
    clear HR hre
    go_wp2_with (go_at_call 53; refine HC.out.mono ?_; rintro e wn ⟨rfl, hbn⟩; clear r0 r1 f0 f1; obtain ⟨r0, r1, f0, f1⟩ := Box.nx HBR.out hbn; have HBQ := Lib.hid (HW.out.trans (hbn.mono HW.out.size)); clear hbn)
    have hB := below_put2 HBQ.out (b := w.heap.size + 1 + 1) (by omega) (.int .i64 rk) (.int .i64 rc)
    exact bodyPost_ret (v := .agg #[.int .i64 rk, .int .i64 rc]) (by simp [results, Tryz.results25, go_sem, r0, r1]) rfl ⟨rfl, hB⟩
  have hb5 : (kind == 5) = false := by simpa using hk5
  have hre : vtop = ⟨rk, rc⟩ := by have h := HR.out; simpa [hk0, hk1, hk2, hk3, hk4, hk5] using h
  obtain ⟨rfl, rfl⟩ : 2 = rk ∧ 0 = rc := by simpa [vtop] using hre
  have HBQ := HW
  clear HR hre
  go_wp2_with fail
  have hB := below_put2 HBQ.out (b := w.heap.size + 1 + 1) (by omega) (.int .i64 2) (.int .i64 0)
  exact bodyPost_ret (v := .agg #[.int .i64 2, .int .i64 0]) (by simp [results, Tryz.results25, go_sem, r0, r1]) rfl ⟨rfl, hB⟩


set_option maxRecDepth 100000 in
set_option maxHeartbeats 16000000 in
theorem rsigns_any (on : Bool) (a : Option Addr) (n cap : Nat) (l : List Int) (i : Ins) (ans : Int) (w : World) (h : SE w a n l) (r : Int) (hr : rawS on l i ans = r) :
    Calls Tryz.prog 30 #[.agg #[.bool on, .slice a n cap], i.val, .int .i64 ans] w fun e w' => e = .returned (.int .i64 r) ∧ Below w.heap.size w w' := by
  have hb2 := below2 w (.cells #[.bool on, .slice a n cap] 27) (.cells i.cells.toArray 30)
  have BE := (Box.new w (.bool on) (.slice a n cap) 27).alloc (.cells i.cells.toArray 30)
  have BI := BoxL.new (w.alloc (.cells #[.bool on, .slice a n cap] 27)) i.cells 30
  simp only [World.size_alloc] at BI
  have HG := Lib.hid (fun j W (hb : Below w.heap.size w W) => rGetS_any on a n cap l j W (h.below hb))
  have HR : Hid ((if i.kind = 7 then ans else ((valS on l i ans : Nat) : Int)) = r) := hr
  have HUA := Lib.hid (sS_lt (atG 0 on l i.a))
  have HUB := Lib.hid (sS_lt (atG 0 on l i.b))
  unfold valS at HR
  obtain ⟨ua, hua⟩ : ∃ u, sS (atG 0 on l i.a) = u := ⟨_, rfl⟩
  obtain ⟨ub, hub⟩ : ∃ u, sS (atG 0 on l i.b) = u := ⟨_, rfl⟩
  have HGA := Lib.hid (fun W hb => HG.out i.a W hb)
  have HGB := Lib.hid (fun W hb => HG.out i.b W hb)
  rw [hua] at HR HGA HUA
  rw [hub] at HR HGB HUB
  obtain ⟨id, kind, dst, va, vb, c, f, n', x0, x1, x2⟩ := i
  unfold Ins.val at *
  unfold Ins.cells at *
  dsimp only at *
  generalize hE : (w.alloc (.cells #[.bool on, .slice a n cap] 27)).alloc (.cells (List.toArray [.int .i64 id, .int .i64 kind, .int .i64 dst, .int .i64 va, .int .i64 vb, .int .i64 c, .int .i64 f, .int .i64 n', .int .i64 x0, .int .i64 x1, .int .i64 x2]) 30) = W at *
  have hE' : (w.alloc (.cells #[.bool on, .slice a n cap] 27)).alloc (.cells #[.int .i64 id, .int .i64 kind, .int .i64 dst, .int .i64 va, .int .i64 vb, .int .i64 c, .int .i64 f, .int .i64 n', .int .i64 x0, .int .i64 x1, .int .i64 x2] 30) = W := hE
  have HW := Lib.hid hb2
  have HBE := Lib.hid BE
  have HBI := Lib.hid BI
  clear hE hb2 BE BI hr hua hub HG h
  go_enter Tryz.func30, Tryz.ntmps30
  go_upto_region 1 with fail
  try rw [hE']
  clear hE'
  have k3 := (HBI.out 3 _ rfl).1
  obtain ⟨e0, e1, -, -⟩ := HBE.out
  go_wp2_with fail
  clear k3 e0 e1
  refine (HGA.out _ HW.out).mono ?_
  rintro e w1 ⟨rfl, hbn⟩
  have Hx := Lib.hid (Box.nx HBE.out hbn)
  clear HBE
  have HBE := Hx
  clear Hx
  have Hx := Lib.hid (HBI.out.below hbn (HBI.out.lt (Nat.zero_lt_succ _)))
  clear HBI
  have HBI := Hx
  clear Hx
  have Hx := Lib.hid (HW.out.trans (hbn.mono HW.out.size))
  clear HW
  have HW := Hx
  clear Hx
  clear hbn
  have k4 := (HBI.out 4 _ rfl).1
  obtain ⟨e0, e1, -, -⟩ := HBE.out
  go_wp2_with fail
  clear k4 e0 e1
  refine (HGB.out _ HW.out).mono ?_
  rintro e W1 ⟨rfl, hbn⟩
  have Hx := Lib.hid (Box.nx HBE.out hbn)
  clear HBE
  have HBE := Hx
  clear Hx
  have Hx := Lib.hid (HBI.out.below hbn (HBI.out.lt (Nat.zero_lt_succ _)))
  clear HBI
  have HBI := Hx
  clear Hx
  have Hx := Lib.hid (HW.out.trans (hbn.mono HW.out.size))
  clear HW
  have HW := Hx
  clear Hx
  clear hbn
  go_upto_region 3 with fail
  have k2 := (HBI.out 1 _ rfl).1
  have k5 := (HBI.out 5 _ rfl).1
  have HN1 := Lib.hid (hNeg_any (ua : Int) W1)
  have HA1 := Lib.hid (hAdd_any (ua : Int) (ub : Int) W1)
  have HS1 := Lib.hid (hSub_any (ua : Int) (ub : Int) W1)
  have HM1 := Lib.hid (hMul_any (ua : Int) (ub : Int) W1)
  have HO1 := Lib.hid (hOf_any c W1)
  rw [sS_of HUA.out] at HN1 HA1 HS1 HM1
  rw [sS_of HUB.out] at HA1 HS1 HM1
  have HBN := HW
  clear HBE HBI HGA HGB
  by_cases hk0 : kind = 0
  · subst hk0
    go_wp2_with ((go_at_call 65; refine HO1.out.mono ?_; rintro e wn ⟨rfl, hbn⟩; have hbx := HBN.out.trans (hbn.mono HBN.out.size); clear HBN hbn; have HBN := Lib.hid hbx; clear hbx))
    go_ret
    exact ⟨ret_int (by rw [← HR.out]; simp), HBN.out⟩
  have hb0 : (kind == 0) = false := by simpa using hk0
  by_cases hk1 : kind = 1
  · subst hk1
    go_wp2_with (fail)
    go_ret
    exact ⟨ret_int (by rw [← HR.out]; simp), HBN.out⟩
  have hb1 : (kind == 1) = false := by simpa using hk1
  by_cases hk2 : kind = 2
  · subst hk2
    go_wp2_with ((go_at_call 66; refine HN1.out.mono ?_; rintro e wn ⟨rfl, hbn⟩; have hbx := HBN.out.trans (hbn.mono HBN.out.size); clear HBN hbn; have HBN := Lib.hid hbx; clear hbx))
    go_ret
    exact ⟨ret_int (by rw [← HR.out]; simp), HBN.out⟩
  have hb2 : (kind == 2) = false := by simpa using hk2
  by_cases hk3 : kind = 3
  · subst hk3
    go_wp2_with ((go_at_call 67; refine HA1.out.mono ?_; rintro e wn ⟨rfl, hbn⟩; have hbx := HBN.out.trans (hbn.mono HBN.out.size); clear HBN hbn; have HBN := Lib.hid hbx; clear hbx))
    go_ret
    exact ⟨ret_int (by rw [← HR.out]; simp), HBN.out⟩
  have hb3 : (kind == 3) = false := by simpa using hk3
  by_cases hk4 : kind = 4
  · subst hk4
    go_wp2_with ((go_at_call 68; refine HS1.out.mono ?_; rintro e wn ⟨rfl, hbn⟩; have hbx := HBN.out.trans (hbn.mono HBN.out.size); clear HBN hbn; have HBN := Lib.hid hbx; clear hbx))
    go_ret
    exact ⟨ret_int (by rw [← HR.out]; simp), HBN.out⟩
  have hb4 : (kind == 4) = false := by simpa using hk4
  by_cases hk5 : kind = 5
  · subst hk5
    go_wp2_with ((go_at_call 69; refine HM1.out.mono ?_; rintro e wn ⟨rfl, hbn⟩; have hbx := HBN.out.trans (hbn.mono HBN.out.size); clear HBN hbn; have HBN := Lib.hid hbx; clear hbx))
    go_ret
    exact ⟨ret_int (by rw [← HR.out]; simp), HBN.out⟩
  have hb5 : (kind == 5) = false := by simpa using hk5
  by_cases hk7 : kind = 7
  · subst hk7
    go_wp2_with (fail)
    go_ret
    exact ⟨ret_int (by rw [← HR.out]; simp), HBN.out⟩
  have hb7 : (kind == 7) = false := by simpa using hk7
  go_wp2_with fail
  go_ret
  exact ⟨ret_int (by rw [← HR.out]; simp [hk0, hk1, hk2, hk3, hk4, hk5, hk7]), HBN.out⟩


set_option maxRecDepth 100000 in
set_option maxHeartbeats 16000000 in
theorem rFlat5_any (on : Bool) (a : Option Addr) (n cap : Nat) (l : List V) (i : Ins) (w : World) (h : FE w a n l) (hn : n ≤ 200) (m : Nat) (hm : szG on l = m) (l' : List V) (hl' : flatI on l i = l') :
    Calls Tryz.prog 9 #[.agg #[.bool on, .slice a n cap], i.val] w fun e w' => ∃ a' cap', e = .returned (.agg #[.bool on, .slice a' m cap']) ∧ FE w' a' m l' ∧ Below w.heap.size w w' := by
  have hb3 := below3 w (.cells #[.bool on, .slice a n cap] 24) (.cells i.cells.toArray 30) (.cells #[.bool false, .slice none 0 0] 24)
  have BE := ((Box.new w (.bool on) (.slice a n cap) 24).alloc (.cells i.cells.toArray 30)).alloc (.cells #[.bool false, .slice none 0 0] 24)
  have BI := (BoxL.new (w.alloc (.cells #[.bool on, .slice a n cap] 24)) i.cells 30).alloc (Nat.zero_lt_succ _) (.cells #[.bool false, .slice none 0 0] 24)
  have BR := Box.new ((w.alloc (.cells #[.bool on, .slice a n cap] 24)).alloc (.cells i.cells.toArray 30)) (.bool false) (.slice none 0 0) 24
  have hblk : (((w.alloc (.cells #[.bool on, .slice a n cap] 24)).alloc (.cells i.cells.toArray 30)).alloc (.cells #[.bool false, .slice none 0 0] 24)).heap[((w.alloc (.cells #[.bool on, .slice a n cap] 24)).alloc (.cells i.cells.toArray 30)).heap.size]? = some (.cells #[.bool false, .slice none 0 0] 24) := Array.getElem?_push_size
  have hsz : (((w.alloc (.cells #[.bool on, .slice a n cap] 24)).alloc (.cells i.cells.toArray 30)).alloc (.cells #[.bool false, .slice none 0 0] 24)).heap.size = w.heap.size + 3 := by simp
  simp only [World.size_alloc] at BI BR hblk
  have HE := Lib.hid (h.below hb3)
  have HD := Lib.hid (fun W => Bi.rDef_any i W _ rfl)
  have HG := Lib.hid (fun W (h : FE W a n l) => rvalue_any on a n cap l i W h _ rfl)
  have hdd : 0 ≤ i.defn → i.defn = i.dst := fun h => by
    unfold Ins.defn at h ⊢
    split
    · rfl
    · rename_i g; rw [if_neg g] at h; exact absurd h (by decide)
  have HL : Hid (0 ≤ i.defn → setF on l i.dst (valF on l i) = l') := fun h => by rw [← hl']; unfold flatI; rw [if_neg (by omega)]
  have HLN : Hid (i.defn < 0 → joinF on l on l = l') := fun h => by rw [← hl', joinF_self]; unfold flatI; rw [if_pos h]
  obtain ⟨⟨vx, vy⟩, hvv⟩ : ∃ v, valF on l i = v := ⟨_, rfl⟩
  rw [hvv] at HL HG
  unfold V.val at HG
  dsimp only at HG
  clear hvv
  generalize i.defn = d at *
  obtain ⟨id, kind, dst, va, vb, c, f, n', x0, x1, x2⟩ := i
  unfold Ins.val at *
  unfold Ins.cells at *
  dsimp only at *
  generalize hE : ((w.alloc (.cells #[.bool on, .slice a n cap] 24)).alloc (.cells (List.toArray [.int .i64 id, .int .i64 kind, .int .i64 dst, .int .i64 va, .int .i64 vb, .int .i64 c, .int .i64 f, .int .i64 n', .int .i64 x0, .int .i64 x1, .int .i64 x2]) 30)).alloc (.cells #[.bool false, .slice none 0 0] 24) = W at *
  have hE' : ((w.alloc (.cells #[.bool on, .slice a n cap] 24)).alloc (.cells #[.int .i64 id, .int .i64 kind, .int .i64 dst, .int .i64 va, .int .i64 vb, .int .i64 c, .int .i64 f, .int .i64 n', .int .i64 x0, .int .i64 x1, .int .i64 x2] 30)).alloc (.cells #[.bool false, .slice none 0 0] 24) = W := hE
  have HW := Lib.hid hb3
  have HBE := Lib.hid BE
  have HBI := Lib.hid BI
  have HBR := Lib.hid BR
  have HBB := Lib.hid hblk
  have HM := Lib.hid hm
  have HZ := Lib.hid hsz
  clear hE hb3 BE BI BR hblk h hl' hm hsz hdd
  go_enter Tryz.func9, Tryz.ntmps9
  go_upto_region 1 with fail
  try rw [hE']
  clear hE'
  have k0 := (HBI.out 0 _ rfl).1
  have k1 := (HBI.out 1 _ rfl).1
  have k2 := (HBI.out 2 _ rfl).1
  have k3 := (HBI.out 3 _ rfl).1
  have k4 := (HBI.out 4 _ rfl).1
  have k5 := (HBI.out 5 _ rfl).1
  have k6 := (HBI.out 6 _ rfl).1
  have k7 := (HBI.out 7 _ rfl).1
  have k8 := (HBI.out 8 _ rfl).1
  have k9 := (HBI.out 9 _ rfl).1
  have k10 := (HBI.out 10 _ rfl).1
  go_wp2_with fail
  refine (HD.out _).mono ?_
  rintro e w1 ⟨rfl, hb1⟩
  clear k0 k1 k2 k3 k4 k5 k6 k7 k8 k9 k10
  have HBE1 := Lib.hid (Box.nx HBE.out hb1)
  have HBI1 := Lib.hid (HBI.out.below hb1 (HBI.out.lt (Nat.zero_lt_succ _)))
  have HBR1 := Lib.hid (Box.nx HBR.out hb1)
  have HBB1 := Lib.hid ((hb1.block _ (by have := HZ.out; omega)).trans HBB.out)
  have HE1 := Lib.hid (HE.out.below hb1)
  have HW1 := Lib.hid (HW.out.trans (hb1.mono HW.out.size))
  have HZ1 : Hid (w.heap.size + 3 ≤ w1.heap.size) := by show _ ≤ _; rw [← HZ.out]; exact hb1.size
  clear hb1 HBE HBI HBR HBB HE HW HZ
  by_cases hd0 : d < 0
  · obtain ⟨e0, e1, -, -⟩ := HBE1.out
    go_wp2_with (go_at_call 23; refine (rJoinF_any on a n cap l on a n cap l _ HE1.out HE1.out hn hn on l' m (by simp) (HLN.out hd0) (joinF_same on l m HM.out)).mono ?_; rintro e w5 ⟨a5, cap5, rfl, hF5, hb5⟩; have HF5 := Lib.hid hF5; have HB5 := Lib.hid hb5; clear hF5 hb5 e0 e1; obtain ⟨r0, r1, f0, f1⟩ := Box.nx HBR1.out HB5.out)
    have hz := HZ1.out
    have hF := HF5.out.putBox ((HB5.out.block _ (by omega)).trans HBB1.out) (.bool on) (.slice a5 m cap5)
    have hB := below_put2 (HW1.out.trans (HB5.out.mono HW1.out.size)) (b := w.heap.size + 1 + 1) (by omega) (.bool on) (.slice a5 m cap5)
    refine bodyPost_ret (v := .agg #[.bool on, .slice a5 m cap5]) (by simp [results, Tryz.results9, go_sem, r0, r1]) rfl ?_
    first
      | exact ⟨a5, cap5, rfl, hF, hB⟩
      | exact ⟨a5, ⟨cap5, rfl⟩, hF, hB⟩
  · have hd0' : 0 ≤ d := by omega
    go_upto_region 3 with fail
    have hd0 := hd0'
    have hS : Hid (∀ w', Below w1.heap.size w1 w' → w'.cell? ⟨w.heap.size, 0, none⟩ = some (.bool on) ∧ w'.cell? ⟨w.heap.size, 1, none⟩ = some (.slice a n cap) ∧ w'.cell? ⟨w.heap.size + 1, 0, none⟩ = some (.int .i64 id) ∧ w'.cell? ⟨w.heap.size + 1, 1, none⟩ = some (.int .i64 kind) ∧ w'.cell? ⟨w.heap.size + 1, 2, none⟩ = some (.int .i64 dst) ∧ w'.cell? ⟨w.heap.size + 1, 3, none⟩ = some (.int .i64 va) ∧ w'.cell? ⟨w.heap.size + 1, 4, none⟩ = some (.int .i64 vb) ∧ w'.cell? ⟨w.heap.size + 1, 5, none⟩ = some (.int .i64 c) ∧ w'.cell? ⟨w.heap.size + 1, 6, none⟩ = some (.int .i64 f) ∧ w'.cell? ⟨w.heap.size + 1, 7, none⟩ = some (.int .i64 n') ∧ w'.cell? ⟨w.heap.size + 1, 8, none⟩ = some (.int .i64 x0) ∧ w'.cell? ⟨w.heap.size + 1, 9, none⟩ = some (.int .i64 x1) ∧ w'.cell? ⟨w.heap.size + 1, 10, none⟩ = some (.int .i64 x2)) := fun w' hb' => ⟨(Box.nx HBE1.out hb').c0, (Box.nx HBE1.out hb').c1, ((HBI1.out.below hb' (HBI1.out.lt (Nat.zero_lt_succ _))) 0 _ rfl).1, ((HBI1.out.below hb' (HBI1.out.lt (Nat.zero_lt_succ _))) 1 _ rfl).1, ((HBI1.out.below hb' (HBI1.out.lt (Nat.zero_lt_succ _))) 2 _ rfl).1, ((HBI1.out.below hb' (HBI1.out.lt (Nat.zero_lt_succ _))) 3 _ rfl).1, ((HBI1.out.below hb' (HBI1.out.lt (Nat.zero_lt_succ _))) 4 _ rfl).1, ((HBI1.out.below hb' (HBI1.out.lt (Nat.zero_lt_succ _))) 5 _ rfl).1, ((HBI1.out.below hb' (HBI1.out.lt (Nat.zero_lt_succ _))) 6 _ rfl).1, ((HBI1.out.below hb' (HBI1.out.lt (Nat.zero_lt_succ _))) 7 _ rfl).1, ((HBI1.out.below hb' (HBI1.out.lt (Nat.zero_lt_succ _))) 8 _ rfl).1, ((HBI1.out.below hb' (HBI1.out.lt (Nat.zero_lt_succ _))) 9 _ rfl).1, ((HBI1.out.below hb' (HBI1.out.lt (Nat.zero_lt_succ _))) 10 _ rfl).1⟩
    have HBN : Hid (Below w1.heap.size w1 w1.drew) := (Below.refl _ _).drew
    have HE := HE1
    have hS2 : Hid (∀ w' x y, Below w1.heap.size w1 w' → ((w'.setCell ⟨w.heap.size + 1 + 1, 0, none⟩ x).setCell ⟨w.heap.size + 1 + 1, 1, none⟩ y).cell? ⟨w.heap.size, 0, none⟩ = some (.bool on) ∧ ((w'.setCell ⟨w.heap.size + 1 + 1, 0, none⟩ x).setCell ⟨w.heap.size + 1 + 1, 1, none⟩ y).cell? ⟨w.heap.size, 1, none⟩ = some (.slice a n cap) ∧ ((w'.setCell ⟨w.heap.size + 1 + 1, 0, none⟩ x).setCell ⟨w.heap.size + 1 + 1, 1, none⟩ y).cell? ⟨w.heap.size + 1, 0, none⟩ = some (.int .i64 id) ∧ ((w'.setCell ⟨w.heap.size + 1 + 1, 0, none⟩ x).setCell ⟨w.heap.size + 1 + 1, 1, none⟩ y).cell? ⟨w.heap.size + 1, 1, none⟩ = some (.int .i64 kind) ∧ ((w'.setCell ⟨w.heap.size + 1 + 1, 0, none⟩ x).setCell ⟨w.heap.size + 1 + 1, 1, none⟩ y).cell? ⟨w.heap.size + 1, 2, none⟩ = some (.int .i64 dst) ∧ ((w'.setCell ⟨w.heap.size + 1 + 1, 0, none⟩ x).setCell ⟨w.heap.size + 1 + 1, 1, none⟩ y).cell? ⟨w.heap.size + 1, 3, none⟩ = some (.int .i64 va) ∧ ((w'.setCell ⟨w.heap.size + 1 + 1, 0, none⟩ x).setCell ⟨w.heap.size + 1 + 1, 1, none⟩ y).cell? ⟨w.heap.size + 1, 4, none⟩ = some (.int .i64 vb) ∧ ((w'.setCell ⟨w.heap.size + 1 + 1, 0, none⟩ x).setCell ⟨w.heap.size + 1 + 1, 1, none⟩ y).cell? ⟨w.heap.size + 1, 5, none⟩ = some (.int .i64 c) ∧ ((w'.setCell ⟨w.heap.size + 1 + 1, 0, none⟩ x).setCell ⟨w.heap.size + 1 + 1, 1, none⟩ y).cell? ⟨w.heap.size + 1, 6, none⟩ = some (.int .i64 f) ∧ ((w'.setCell ⟨w.heap.size + 1 + 1, 0, none⟩ x).setCell ⟨w.heap.size + 1 + 1, 1, none⟩ y).cell? ⟨w.heap.size + 1, 7, none⟩ = some (.int .i64 n') ∧ ((w'.setCell ⟨w.heap.size + 1 + 1, 0, none⟩ x).setCell ⟨w.heap.size + 1 + 1, 1, none⟩ y).cell? ⟨w.heap.size + 1, 8, none⟩ = some (.int .i64 x0) ∧ ((w'.setCell ⟨w.heap.size + 1 + 1, 0, none⟩ x).setCell ⟨w.heap.size + 1 + 1, 1, none⟩ y).cell? ⟨w.heap.size + 1, 9, none⟩ = some (.int .i64 x1) ∧ ((w'.setCell ⟨w.heap.size + 1 + 1, 0, none⟩ x).setCell ⟨w.heap.size + 1 + 1, 1, none⟩ y).cell? ⟨w.heap.size + 1, 10, none⟩ = some (.int .i64 x2)) := fun w' x y hb' => by
      have h := hS.out w' hb'
      exact ⟨(cell_put2 (by dsimp only; omega)).trans h.1, (cell_put2 (by dsimp only; omega)).trans h.2.1, (cell_put2 (by dsimp only; omega)).trans h.2.2.1, (cell_put2 (by dsimp only; omega)).trans h.2.2.2.1, (cell_put2 (by dsimp only; omega)).trans h.2.2.2.2.1, (cell_put2 (by dsimp only; omega)).trans h.2.2.2.2.2.1, (cell_put2 (by dsimp only; omega)).trans h.2.2.2.2.2.2.1, (cell_put2 (by dsimp only; omega)).trans h.2.2.2.2.2.2.2.1, (cell_put2 (by dsimp only; omega)).trans h.2.2.2.2.2.2.2.2.1, (cell_put2 (by dsimp only; omega)).trans h.2.2.2.2.2.2.2.2.2.1, (cell_put2 (by dsimp only; omega)).trans h.2.2.2.2.2.2.2.2.2.2.1, (cell_put2 (by dsimp only; omega)).trans h.2.2.2.2.2.2.2.2.2.2.2.1, (cell_put2 (by dsimp only; omega)).trans h.2.2.2.2.2.2.2.2.2.2.2.2⟩
    go_region_held3 (fun w' => w'.cell? ⟨w.heap.size, 0, none⟩ = some (.bool on) ∧ w'.cell? ⟨w.heap.size, 1, none⟩ = some (.slice a n cap) ∧ w'.cell? ⟨w.heap.size + 1, 0, none⟩ = some (.int .i64 id) ∧ w'.cell? ⟨w.heap.size + 1, 1, none⟩ = some (.int .i64 kind) ∧ w'.cell? ⟨w.heap.size + 1, 2, none⟩ = some (.int .i64 dst) ∧ w'.cell? ⟨w.heap.size + 1, 3, none⟩ = some (.int .i64 va) ∧ w'.cell? ⟨w.heap.size + 1, 4, none⟩ = some (.int .i64 vb) ∧ w'.cell? ⟨w.heap.size + 1, 5, none⟩ = some (.int .i64 c) ∧ w'.cell? ⟨w.heap.size + 1, 6, none⟩ = some (.int .i64 f) ∧ w'.cell? ⟨w.heap.size + 1, 7, none⟩ = some (.int .i64 n') ∧ w'.cell? ⟨w.heap.size + 1, 8, none⟩ = some (.int .i64 x0) ∧ w'.cell? ⟨w.heap.size + 1, 9, none⟩ = some (.int .i64 x1) ∧ w'.cell? ⟨w.heap.size + 1, 10, none⟩ = some (.int .i64 x2)) (first | exact hS.out _ HBN.out | exact hS2.out _ _ _ HBN.out)
      (first
        | (go_at_call 25; refine (HG.out _ (HE.out.below HBN.out)).mono ?_; rintro e wn ⟨rfl, hbn⟩; have hbx := HBN.out.trans (hbn.mono HBN.out.size); clear HBN hbn; have HBN := Lib.hid hbx; clear hbx)
        | (go_at_call 24; refine (rSetF_any on a n cap l dst vx vy _ (HE.out.below HBN.out) hn l' m (HL.out hd0) HM.out).mono ?_; rintro e w5 ⟨a5, cap5, rfl, hF5, hbn⟩; have HF5 := Lib.hid hF5; clear hF5; have hbx := HBN.out.trans (hbn.mono HBN.out.size); clear HBN hbn; have HBN := Lib.hid hbx; clear hbx; obtain ⟨r0, r1, f0, f1⟩ := Box.nx HBR1.out HBN.out))
    all_goals
      go_wp2_with fail
      have hz := HZ1.out
      have hF := HF5.out.putBox ((HBN.out.block _ (by omega)).trans HBB1.out) (.bool on) (.slice a5 m cap5)
      have hB := below_put2 (HW1.out.trans (HBN.out.mono HW1.out.size)) (b := w.heap.size + 1 + 1) (by omega) (.bool on) (.slice a5 m cap5)
      obtain ⟨p0, p1, -, -⟩ := (Box.nx HBR1.out HBN.out).put (.bool on) (.slice a5 m cap5)
      refine bodyPost_ret (v := .agg #[.bool on, .slice a5 m cap5]) (by simp [results, Tryz.results9, go_sem, r0, r1]) rfl ?_
      first
        | exact ⟨a5, cap5, rfl, hF, hB⟩
        | exact ⟨a5, ⟨cap5, rfl⟩, hF, hB⟩


set_option maxRecDepth 100000 in
set_option maxHeartbeats 16000000 in
theorem rSign5_any (on : Bool) (a : Option Addr) (n cap : Nat) (l : List Int) (i : Ins) (ans : Int) (w : World) (h : SE w a n l) (hn : n ≤ 200) (m : Nat) (hm : szG on l = m) (l' : List Int) (hl' : signI on l i ans = l') :
    Calls Tryz.prog 14 #[.agg #[.bool on, .slice a n cap], i.val, .int .i64 ans] w fun e w' => ∃ a' cap', e = .returned (.agg #[.bool on, .slice a' m cap']) ∧ SE w' a' m l' ∧ Below w.heap.size w w' := by
  have hb3 := below3 w (.cells #[.bool on, .slice a n cap] 27) (.cells i.cells.toArray 30) (.cells #[.bool false, .slice none 0 0] 27)
  have BE := ((Box.new w (.bool on) (.slice a n cap) 27).alloc (.cells i.cells.toArray 30)).alloc (.cells #[.bool false, .slice none 0 0] 27)
  have BI := (BoxL.new (w.alloc (.cells #[.bool on, .slice a n cap] 27)) i.cells 30).alloc (Nat.zero_lt_succ _) (.cells #[.bool false, .slice none 0 0] 27)
  have BR := Box.new ((w.alloc (.cells #[.bool on, .slice a n cap] 27)).alloc (.cells i.cells.toArray 30)) (.bool false) (.slice none 0 0) 27
  have hblk : (((w.alloc (.cells #[.bool on, .slice a n cap] 27)).alloc (.cells i.cells.toArray 30)).alloc (.cells #[.bool false, .slice none 0 0] 27)).heap[((w.alloc (.cells #[.bool on, .slice a n cap] 27)).alloc (.cells i.cells.toArray 30)).heap.size]? = some (.cells #[.bool false, .slice none 0 0] 27) := Array.getElem?_push_size
  have hsz : (((w.alloc (.cells #[.bool on, .slice a n cap] 27)).alloc (.cells i.cells.toArray 30)).alloc (.cells #[.bool false, .slice none 0 0] 27)).heap.size = w.heap.size + 3 := by simp
  simp only [World.size_alloc] at BI BR hblk
  have HE := Lib.hid (h.below hb3)
  have HD := Lib.hid (fun W => Bi.rDef_any i W _ rfl)
  have HG := Lib.hid (fun W (h : SE W a n l) => rsigns_any on a n cap l i ans W h _ rfl)
  have hdd : 0 ≤ i.defn → i.defn = i.dst := fun h => by
    unfold Ins.defn at h ⊢
    split
    · rfl
    · rename_i g; rw [if_neg g] at h; exact absurd h (by decide)
  have HL : Hid (0 ≤ i.defn → setS on l i.dst (rawS on l i ans) = l') := fun h => by rw [← hl']; unfold signI; rw [if_neg (by omega)]; unfold setS; rw [sS_rawS, sS_of (valS_lt _ _ _ _)]
  have HLN : Hid (i.defn < 0 → joinS on l on l = l') := fun h => by rw [← hl', joinS_self]; unfold signI; rw [if_pos h]
  generalize rawS on l i ans = vx at *
  generalize i.defn = d at *
  obtain ⟨id, kind, dst, va, vb, c, f, n', x0, x1, x2⟩ := i
  unfold Ins.val at *
  unfold Ins.cells at *
  dsimp only at *
  generalize hE : ((w.alloc (.cells #[.bool on, .slice a n cap] 27)).alloc (.cells (List.toArray [.int .i64 id, .int .i64 kind, .int .i64 dst, .int .i64 va, .int .i64 vb, .int .i64 c, .int .i64 f, .int .i64 n', .int .i64 x0, .int .i64 x1, .int .i64 x2]) 30)).alloc (.cells #[.bool false, .slice none 0 0] 27) = W at *
  have hE' : ((w.alloc (.cells #[.bool on, .slice a n cap] 27)).alloc (.cells #[.int .i64 id, .int .i64 kind, .int .i64 dst, .int .i64 va, .int .i64 vb, .int .i64 c, .int .i64 f, .int .i64 n', .int .i64 x0, .int .i64 x1, .int .i64 x2] 30)).alloc (.cells #[.bool false, .slice none 0 0] 27) = W := hE
  have HW := Lib.hid hb3
  have HBE := Lib.hid BE
  have HBI := Lib.hid BI
  have HBR := Lib.hid BR
  have HBB := Lib.hid hblk
  have HM := Lib.hid hm
  have HZ := Lib.hid hsz
  clear hE hb3 BE BI BR hblk h hl' hm hsz hdd
  go_enter Tryz.func14, Tryz.ntmps14
  go_upto_region 1 with fail
  try rw [hE']
  clear hE'
  have k0 := (HBI.out 0 _ rfl).1
  have k1 := (HBI.out 1 _ rfl).1
  have k2 := (HBI.out 2 _ rfl).1
  have k3 := (HBI.out 3 _ rfl).1
  have k4 := (HBI.out 4 _ rfl).1
  have k5 := (HBI.out 5 _ rfl).1
  have k6 := (HBI.out 6 _ rfl).1
  have k7 := (HBI.out 7 _ rfl).1
  have k8 := (HBI.out 8 _ rfl).1
  have k9 := (HBI.out 9 _ rfl).1
  have k10 := (HBI.out 10 _ rfl).1
  go_wp2_with fail
  refine (HD.out _).mono ?_
  rintro e w1 ⟨rfl, hb1⟩
  clear k0 k1 k2 k3 k4 k5 k6 k7 k8 k9 k10
  have HBE1 := Lib.hid (Box.nx HBE.out hb1)
  have HBI1 := Lib.hid (HBI.out.below hb1 (HBI.out.lt (Nat.zero_lt_succ _)))
  have HBR1 := Lib.hid (Box.nx HBR.out hb1)
  have HBB1 := Lib.hid ((hb1.block _ (by have := HZ.out; omega)).trans HBB.out)
  have HE1 := Lib.hid (HE.out.below hb1)
  have HW1 := Lib.hid (HW.out.trans (hb1.mono HW.out.size))
  have HZ1 : Hid (w.heap.size + 3 ≤ w1.heap.size) := by show _ ≤ _; rw [← HZ.out]; exact hb1.size
  clear hb1 HBE HBI HBR HBB HE HW HZ
  by_cases hd0 : d < 0
  · obtain ⟨e0, e1, -, -⟩ := HBE1.out
    go_wp2_with (go_at_call 28; refine (rJoinS_any on a n cap l on a n cap l _ HE1.out HE1.out hn hn on l' m (by simp) (HLN.out hd0) (joinS_same on l m HM.out)).mono ?_; rintro e w5 ⟨a5, cap5, rfl, hF5, hb5⟩; have HF5 := Lib.hid hF5; have HB5 := Lib.hid hb5; clear hF5 hb5 e0 e1; obtain ⟨r0, r1, f0, f1⟩ := Box.nx HBR1.out HB5.out)
    have hz := HZ1.out
    have hF := HF5.out.putBox ((HB5.out.block _ (by omega)).trans HBB1.out) (.bool on) (.slice a5 m cap5)
    have hB := below_put2 (HW1.out.trans (HB5.out.mono HW1.out.size)) (b := w.heap.size + 1 + 1) (by omega) (.bool on) (.slice a5 m cap5)
    refine bodyPost_ret (v := .agg #[.bool on, .slice a5 m cap5]) (by simp [results, Tryz.results14, go_sem, r0, r1]) rfl ?_
    first
      | exact ⟨a5, cap5, rfl, hF, hB⟩
      | exact ⟨a5, ⟨cap5, rfl⟩, hF, hB⟩
  · have hd0' : 0 ≤ d := by omega
    go_upto_region 3 with fail
    have hd0 := hd0'
    have hS : Hid (∀ w', Below w1.heap.size w1 w' → w'.cell? ⟨w.heap.size, 0, none⟩ = some (.bool on) ∧ w'.cell? ⟨w.heap.size, 1, none⟩ = some (.slice a n cap) ∧ w'.cell? ⟨w.heap.size + 1, 0, none⟩ = some (.int .i64 id) ∧ w'.cell? ⟨w.heap.size + 1, 1, none⟩ = some (.int .i64 kind) ∧ w'.cell? ⟨w.heap.size + 1, 2, none⟩ = some (.int .i64 dst) ∧ w'.cell? ⟨w.heap.size + 1, 3, none⟩ = some (.int .i64 va) ∧ w'.cell? ⟨w.heap.size + 1, 4, none⟩ = some (.int .i64 vb) ∧ w'.cell? ⟨w.heap.size + 1, 5, none⟩ = some (.int .i64 c) ∧ w'.cell? ⟨w.heap.size + 1, 6, none⟩ = some (.int .i64 f) ∧ w'.cell? ⟨w.heap.size + 1, 7, none⟩ = some (.int .i64 n') ∧ w'.cell? ⟨w.heap.size + 1, 8, none⟩ = some (.int .i64 x0) ∧ w'.cell? ⟨w.heap.size + 1, 9, none⟩ = some (.int .i64 x1) ∧ w'.cell? ⟨w.heap.size + 1, 10, none⟩ = some (.int .i64 x2)) := fun w' hb' => ⟨(Box.nx HBE1.out hb').c0, (Box.nx HBE1.out hb').c1, ((HBI1.out.below hb' (HBI1.out.lt (Nat.zero_lt_succ _))) 0 _ rfl).1, ((HBI1.out.below hb' (HBI1.out.lt (Nat.zero_lt_succ _))) 1 _ rfl).1, ((HBI1.out.below hb' (HBI1.out.lt (Nat.zero_lt_succ _))) 2 _ rfl).1, ((HBI1.out.below hb' (HBI1.out.lt (Nat.zero_lt_succ _))) 3 _ rfl).1, ((HBI1.out.below hb' (HBI1.out.lt (Nat.zero_lt_succ _))) 4 _ rfl).1, ((HBI1.out.below hb' (HBI1.out.lt (Nat.zero_lt_succ _))) 5 _ rfl).1, ((HBI1.out.below hb' (HBI1.out.lt (Nat.zero_lt_succ _))) 6 _ rfl).1, ((HBI1.out.below hb' (HBI1.out.lt (Nat.zero_lt_succ _))) 7 _ rfl).1, ((HBI1.out.below hb' (HBI1.out.lt (Nat.zero_lt_succ _))) 8 _ rfl).1, ((HBI1.out.below hb' (HBI1.out.lt (Nat.zero_lt_succ _))) 9 _ rfl).1, ((HBI1.out.below hb' (HBI1.out.lt (Nat.zero_lt_succ _))) 10 _ rfl).1⟩
    have HBN : Hid (Below w1.heap.size w1 w1.drew) := (Below.refl _ _).drew
    have HE := HE1
    have hS2 : Hid (∀ w' x y, Below w1.heap.size w1 w' → ((w'.setCell ⟨w.heap.size + 1 + 1, 0, none⟩ x).setCell ⟨w.heap.size + 1 + 1, 1, none⟩ y).cell? ⟨w.heap.size, 0, none⟩ = some (.bool on) ∧ ((w'.setCell ⟨w.heap.size + 1 + 1, 0, none⟩ x).setCell ⟨w.heap.size + 1 + 1, 1, none⟩ y).cell? ⟨w.heap.size, 1, none⟩ = some (.slice a n cap) ∧ ((w'.setCell ⟨w.heap.size + 1 + 1, 0, none⟩ x).setCell ⟨w.heap.size + 1 + 1, 1, none⟩ y).cell? ⟨w.heap.size + 1, 0, none⟩ = some (.int .i64 id) ∧ ((w'.setCell ⟨w.heap.size + 1 + 1, 0, none⟩ x).setCell ⟨w.heap.size + 1 + 1, 1, none⟩ y).cell? ⟨w.heap.size + 1, 1, none⟩ = some (.int .i64 kind) ∧ ((w'.setCell ⟨w.heap.size + 1 + 1, 0, none⟩ x).setCell ⟨w.heap.size + 1 + 1, 1, none⟩ y).cell? ⟨w.heap.size + 1, 2, none⟩ = some (.int .i64 dst) ∧ ((w'.setCell ⟨w.heap.size + 1 + 1, 0, none⟩ x).setCell ⟨w.heap.size + 1 + 1, 1, none⟩ y).cell? ⟨w.heap.size + 1, 3, none⟩ = some (.int .i64 va) ∧ ((w'.setCell ⟨w.heap.size + 1 + 1, 0, none⟩ x).setCell ⟨w.heap.size + 1 + 1, 1, none⟩ y).cell? ⟨w.heap.size + 1, 4, none⟩ = some (.int .i64 vb) ∧ ((w'.setCell ⟨w.heap.size + 1 + 1, 0, none⟩ x).setCell ⟨w.heap.size + 1 + 1, 1, none⟩ y).cell? ⟨w.heap.size + 1, 5, none⟩ = some (.int .i64 c) ∧ ((w'.setCell ⟨w.heap.size + 1 + 1, 0, none⟩ x).setCell ⟨w.heap.size + 1 + 1, 1, none⟩ y).cell? ⟨w.heap.size + 1, 6, none⟩ = some (.int .i64 f) ∧ ((w'.setCell ⟨w.heap.size + 1 + 1, 0, none⟩ x).setCell ⟨w.heap.size + 1 + 1, 1, none⟩ y).cell? ⟨w.heap.size + 1, 7, none⟩ = some (.int .i64 n') ∧ ((w'.setCell ⟨w.heap.size + 1 + 1, 0, none⟩ x).setCell ⟨w.heap.size + 1 + 1, 1, none⟩ y).cell? ⟨w.heap.size + 1, 8, none⟩ = some (.int .i64 x0) ∧ ((w'.setCell ⟨w.heap.size + 1 + 1, 0, none⟩ x).setCell ⟨w.heap.size + 1 + 1, 1, none⟩ y).cell? ⟨w.heap.size + 1, 9, none⟩ = some (.int .i64 x1) ∧ ((w'.setCell ⟨w.heap.size + 1 + 1, 0, none⟩ x).setCell ⟨w.heap.size + 1 + 1, 1, none⟩ y).cell? ⟨w.heap.size + 1, 10, none⟩ = some (.int .i64 x2)) := fun w' x y hb' => by
      have h := hS.out w' hb'
      exact ⟨(cell_put2 (by dsimp only; omega)).trans h.1, (cell_put2 (by dsimp only; omega)).trans h.2.1, (cell_put2 (by dsimp only; omega)).trans h.2.2.1, (cell_put2 (by dsimp only; omega)).trans h.2.2.2.1, (cell_put2 (by dsimp only; omega)).trans h.2.2.2.2.1, (cell_put2 (by dsimp only; omega)).trans h.2.2.2.2.2.1, (cell_put2 (by dsimp only; omega)).trans h.2.2.2.2.2.2.1, (cell_put2 (by dsimp only; omega)).trans h.2.2.2.2.2.2.2.1, (cell_put2 (by dsimp only; omega)).trans h.2.2.2.2.2.2.2.2.1, (cell_put2 (by dsimp only; omega)).trans h.2.2.2.2.2.2.2.2.2.1, (cell_put2 (by dsimp only; omega)).trans h.2.2.2.2.2.2.2.2.2.2.1, (cell_put2 (by dsimp only; omega)).trans h.2.2.2.2.2.2.2.2.2.2.2.1, (cell_put2 (by dsimp only; omega)).trans h.2.2.2.2.2.2.2.2.2.2.2.2⟩
    go_region_held3 (fun w' => w'.cell? ⟨w.heap.size, 0, none⟩ = some (.bool on) ∧ w'.cell? ⟨w.heap.size, 1, none⟩ = some (.slice a n cap) ∧ w'.cell? ⟨w.heap.size + 1, 0, none⟩ = some (.int .i64 id) ∧ w'.cell? ⟨w.heap.size + 1, 1, none⟩ = some (.int .i64 kind) ∧ w'.cell? ⟨w.heap.size + 1, 2, none⟩ = some (.int .i64 dst) ∧ w'.cell? ⟨w.heap.size + 1, 3, none⟩ = some (.int .i64 va) ∧ w'.cell? ⟨w.heap.size + 1, 4, none⟩ = some (.int .i64 vb) ∧ w'.cell? ⟨w.heap.size + 1, 5, none⟩ = some (.int .i64 c) ∧ w'.cell? ⟨w.heap.size + 1, 6, none⟩ = some (.int .i64 f) ∧ w'.cell? ⟨w.heap.size + 1, 7, none⟩ = some (.int .i64 n') ∧ w'.cell? ⟨w.heap.size + 1, 8, none⟩ = some (.int .i64 x0) ∧ w'.cell? ⟨w.heap.size + 1, 9, none⟩ = some (.int .i64 x1) ∧ w'.cell? ⟨w.heap.size + 1, 10, none⟩ = some (.int .i64 x2)) (first | exact hS.out _ HBN.out | exact hS2.out _ _ _ HBN.out)
      (first
        | (go_at_call 30; refine (HG.out _ (HE.out.below HBN.out)).mono ?_; rintro e wn ⟨rfl, hbn⟩; have hbx := HBN.out.trans (hbn.mono HBN.out.size); clear HBN hbn; have HBN := Lib.hid hbx; clear hbx)
        | (go_at_call 29; refine (rSetS_any on a n cap l dst vx _ (HE.out.below HBN.out) hn l' m (HL.out hd0) HM.out).mono ?_; rintro e w5 ⟨a5, cap5, rfl, hF5, hbn⟩; have HF5 := Lib.hid hF5; clear hF5; have hbx := HBN.out.trans (hbn.mono HBN.out.size); clear HBN hbn; have HBN := Lib.hid hbx; clear hbx; obtain ⟨r0, r1, f0, f1⟩ := Box.nx HBR1.out HBN.out))
    all_goals
      go_wp2_with fail
      have hz := HZ1.out
      have hF := HF5.out.putBox ((HBN.out.block _ (by omega)).trans HBB1.out) (.bool on) (.slice a5 m cap5)
      have hB := below_put2 (HW1.out.trans (HBN.out.mono HW1.out.size)) (b := w.heap.size + 1 + 1) (by omega) (.bool on) (.slice a5 m cap5)
      obtain ⟨p0, p1, -, -⟩ := (Box.nx HBR1.out HBN.out).put (.bool on) (.slice a5 m cap5)
      refine bodyPost_ret (v := .agg #[.bool on, .slice a5 m cap5]) (by simp [results, Tryz.results14, go_sem, r0, r1]) rfl ?_
      first
        | exact ⟨a5, cap5, rfl, hF, hB⟩
        | exact ⟨a5, ⟨cap5, rfl⟩, hF, hB⟩

end Go.Proofs.YtmcbedlmgffckaaGreatDoor
