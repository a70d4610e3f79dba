/- Instructions: of which signs what they set becomes. -/
import Derived.Test.YtmcbedlmgffckaaGreatDoorInsD
import Derived.Test.YtmcbedlmgffckaaGreatDoorInsF
import Derived.Test.YtmcbedlmgffckaaGreatDoorEnvY
import Derived.Test.YtmcbedlmgffckaaGreatDoorSiG
namespace Go.Proofs.YtmcbedlmgffckaaGreatDoor
open Go Go.RowKit Go.Sort

/-- What signsOf answers: as it stands of a call. -/
def rawS (on : Bool) (l : List Int) (i : Ins) (ans : Int) : Int := if i.kind = 7 then ans else (valS on l i ans : Nat)
theorem sS_rawS (on : Bool) (l : List Int) (i : Ins) (ans : Int) : sS (rawS on l i ans) = valS on l i ans := by
  unfold rawS
  split
  · rename_i h
    unfold valS
    simp [h]
  · exact sS_of (valS_lt _ _ _ _)

set_option maxRecDepth 100000 in
set_option maxHeartbeats 16000000 in
theorem signsOf_any (on : Bool) (a : Option Addr) (n cap : Nat) (l : List Int) (i : Ins) (ans : Int) (w : World) (h : SE w a n l) (hT : Tabs w) (r : Int) (hr : rawS on l i ans = r) :
    Calls Tryz.prog 27 #[.agg #[.bool on, .slice a n cap], i.val, .int .i64 ans] w fun e w' => e = .returned (.int .i64 r) ∧ Below w.heap.size w w' := by
  obtain ⟨hIs, hn⟩ := h
  have hb2 := below2 w (.cells #[.bool on, .slice a n cap] 42) (.cells i.cells.toArray 30)
  have BE := (Box.new w (.bool on) (.slice a n cap) 42).alloc (.cells i.cells.toArray 30)
  have BI := BoxL.new (w.alloc (.cells #[.bool on, .slice a n cap] 42)) i.cells 30
  simp only [World.size_alloc] at BI
  have HG := Lib.hid (fun j W (hb : Below w.heap.size w W) => (by have := GetS_any on a l cap j W ((hIs.below hb).mono hb.size); rw [hn] at this; exact this : Calls Tryz.prog 56 #[.agg #[.bool on, .slice a n cap], .int .i64 j] W fun e w' => e = .returned (.int .i64 (sS (atG 0 on l j) : Nat)) ∧ Below W.heap.size W w'))
  have HT := Lib.hid hT
  have HR : Hid ((if i.kind = 7 then ans else ((valS on l i ans : Nat) : Int)) = r) := hr
  have HUA := Lib.hid (sS_lt (atG 0 on l i.a))
  have HUB := Lib.hid (sS_lt (atG 0 on l i.b))
  unfold valS at HR
  obtain ⟨ua, hua⟩ : ∃ u, sS (atG 0 on l i.a) = u := ⟨_, rfl⟩
  obtain ⟨ub, hub⟩ : ∃ u, sS (atG 0 on l i.b) = u := ⟨_, rfl⟩
  have HGA := Lib.hid (fun W hb => HG.out i.a W hb)
  have HGB := Lib.hid (fun W hb => HG.out i.b W hb)
  rw [hua] at HR HGA HUA
  rw [hub] at HR HGB HUB
  obtain ⟨id, kind, dst, va, vb, c, f, n', x0, x1, x2⟩ := i
  unfold Ins.val at *
  unfold Ins.cells at *
  dsimp only at *
  generalize hE : (w.alloc (.cells #[.bool on, .slice a n cap] 42)).alloc (.cells (List.toArray [.int .i64 id, .int .i64 kind, .int .i64 dst, .int .i64 va, .int .i64 vb, .int .i64 c, .int .i64 f, .int .i64 n', .int .i64 x0, .int .i64 x1, .int .i64 x2]) 30) = W at *
  have hE' : (w.alloc (.cells #[.bool on, .slice a n cap] 42)).alloc (.cells #[.int .i64 id, .int .i64 kind, .int .i64 dst, .int .i64 va, .int .i64 vb, .int .i64 c, .int .i64 f, .int .i64 n', .int .i64 x0, .int .i64 x1, .int .i64 x2] 30) = W := hE
  have HW := Lib.hid hb2
  have HBE := Lib.hid BE
  have HBI := Lib.hid BI
  clear hE hb2 BE BI hT hr hIs hn hua hub HG
  go_enter Tryz.func27, Tryz.ntmps27
  go_wp2_with fail
  try rw [hE']
  clear hE'
  have c1 := fun d os => Calls.regrown_of (HGA.out (grow (redrawn W d) os) (HW.out.trans ((below_regrown W d os).mono HW.out.size)))
  have c2 := fun d os => Calls.regrown_of (HGB.out (grow (redrawn W d) os) (HW.out.trans ((below_regrown W d os).mono HW.out.size)))
  have q0 := cell_regrown HBE.out.c0
  have q1 := cell_regrown HBE.out.c1
  have q3 := cell_regrown (HBI.out 3 _ rfl).1
  have q4 := cell_regrown (HBI.out 4 _ rfl).1
  clear HGA HGB
  refine wp_region_quiet_below (by kernel_rfl) (by kernel_rfl) ?_
  repeat (first | go_big_quiet_step (first | with_reducible exact c1 _ _ | with_reducible exact c2 _ _) | quiet_step (first | with_reducible exact c1 _ _ | with_reducible exact c2 _ _))
  refine wpQuiet_nil ?_
  intro _ hw'
  obtain ⟨⟨dq, osq⟩, hw''⟩ := hw'
  subst hw''
  have HW1 := Lib.hid (HW.out.trans ((below_regrown W dq osq).mono HW.out.size))
  have k1 := q0 dq osq
  have k2 := cell_regrown (HBI.out 1 _ rfl).1 dq osq
  have k5 := cell_regrown (HBI.out 5 _ rfl).1 dq osq
  clear c1 c2 q0 q1 q3 q4 k1 HBE HBI HW
  generalize grow (redrawn W dq) osq = W1 at *
  have HN1 := Lib.hid (gNeg_any (ua : Int) W1 (HT.out.on HW1.out))
  have HA1 := Lib.hid (gAdd_any (ua : Int) (ub : Int) W1 (HT.out.on HW1.out))
  have HS1 := Lib.hid (gSub_any (ua : Int) (ub : Int) W1 (HT.out.on HW1.out))
  have HM1 := Lib.hid (gMul_any (ua : Int) (ub : Int) W1 (HT.out.on HW1.out))
  have HO1 := Lib.hid (gOf_any c W1)
  rw [sS_of HUA.out] at HN1 HA1 HS1 HM1
  rw [sS_of HUB.out] at HA1 HS1 HM1
  have HBN : Hid (Below w.heap.size w W1) := HW1
  by_cases hk0 : kind = 0
  · subst hk0
    go_wp2_with ((go_at_call 57; refine HO1.out.mono ?_; rintro e wn ⟨rfl, hbn⟩; have hbx := HBN.out.trans (hbn.mono HBN.out.size); clear HBN hbn; have HBN := Lib.hid hbx; clear hbx))
    go_ret
    exact ⟨ret_int (by rw [← HR.out]; simp), HBN.out⟩
  have hb0 : (kind == 0) = false := by simpa using hk0
  by_cases hk1 : kind = 1
  · subst hk1
    go_wp2_with (fail)
    go_ret
    exact ⟨ret_int (by rw [← HR.out]; simp), HBN.out⟩
  have hb1 : (kind == 1) = false := by simpa using hk1
  by_cases hk2 : kind = 2
  · subst hk2
    go_wp2_with ((go_at_call 58; refine HN1.out.mono ?_; rintro e wn ⟨rfl, hbn⟩; have hbx := HBN.out.trans (hbn.mono HBN.out.size); clear HBN hbn; have HBN := Lib.hid hbx; clear hbx))
    go_ret
    exact ⟨ret_int (by rw [← HR.out]; simp), HBN.out⟩
  have hb2 : (kind == 2) = false := by simpa using hk2
  by_cases hk3 : kind = 3
  · subst hk3
    go_wp2_with ((go_at_call 59; refine HA1.out.mono ?_; rintro e wn ⟨rfl, hbn⟩; have hbx := HBN.out.trans (hbn.mono HBN.out.size); clear HBN hbn; have HBN := Lib.hid hbx; clear hbx))
    go_ret
    exact ⟨ret_int (by rw [← HR.out]; simp), HBN.out⟩
  have hb3 : (kind == 3) = false := by simpa using hk3
  by_cases hk4 : kind = 4
  · subst hk4
    go_wp2_with ((go_at_call 60; refine HS1.out.mono ?_; rintro e wn ⟨rfl, hbn⟩; have hbx := HBN.out.trans (hbn.mono HBN.out.size); clear HBN hbn; have HBN := Lib.hid hbx; clear hbx))
    go_ret
    exact ⟨ret_int (by rw [← HR.out]; simp), HBN.out⟩
  have hb4 : (kind == 4) = false := by simpa using hk4
  by_cases hk5 : kind = 5
  · subst hk5
    go_wp2_with ((go_at_call 61; refine HM1.out.mono ?_; rintro e wn ⟨rfl, hbn⟩; have hbx := HBN.out.trans (hbn.mono HBN.out.size); clear HBN hbn; have HBN := Lib.hid hbx; clear hbx))
    go_ret
    exact ⟨ret_int (by rw [← HR.out]; simp), HBN.out⟩
  have hb5 : (kind == 5) = false := by simpa using hk5
  by_cases hk7 : kind = 7
  · subst hk7
    go_wp2_with (fail)
    go_ret
    exact ⟨ret_int (by rw [← HR.out]; simp), HBN.out⟩
  have hb7 : (kind == 7) = false := by simpa using hk7
  go_wp2_with fail
  go_ret
  exact ⟨ret_int (by rw [← HR.out]; simp [hk0, hk1, hk2, hk3, hk4, hk5, hk7]), HBN.out⟩
end Go.Proofs.YtmcbedlmgffckaaGreatDoor
