/- The document's answer for layer 5: Form. -/
import Derived.Test.YtmcbedlmgffckaaGreatDoorRfA
namespace Go.Proofs.YtmcbedlmgffckaaGreatDoor
open Go Go.RowKit Go.Sort

set_option maxRecDepth 100000 in
set_option maxHeartbeats 32000000 in
theorem rForm_any (i : Ins) (w : World) (r : Bool) (hr : decide i.form = r) :
    Calls Tryz.prog 43 #[i.val] w fun e w' => e = .returned (.bool r) ∧ Below w.heap.size w w' := by
  have hq : r = true ↔ i.form := by rw [← hr, decide_eq_true_eq]
  clear hr
  unfold Ins.form at hq
  have HW := Lib.hid (below1 w (.cells i.cells.toArray 30))
  have HB := Lib.hid (BoxL.new w i.cells 30)
  obtain ⟨id, kind, dst, a, b, c, f, n, x0, x1, x2⟩ := i
  dsimp only at hq
  unfold Ins.val at *
  unfold Ins.cells at HB HW
  dsimp only at *
  generalize hE : w.alloc (.cells (List.toArray [.int .i64 id, .int .i64 kind, .int .i64 dst, .int .i64 a, .int .i64 b, .int .i64 c, .int .i64 f, .int .i64 n, .int .i64 x0, .int .i64 x1, .int .i64 x2]) 30) = W at HB HW
  have hE' : w.alloc (.cells #[.int .i64 id, .int .i64 kind, .int .i64 dst, .int .i64 a, .int .i64 b, .int .i64 c, .int .i64 f, .int .i64 n, .int .i64 x0, .int .i64 x1, .int .i64 x2] 30) = W := hE
  clear hE
  obtain ⟨g, hg⟩ : ∃ g, w.heap.size = g := ⟨_, rfl⟩
  rw [hg] at HB
  have HG := Lib.hid (HB.out.lt (Nat.zero_lt_succ _))
  have k0 := (HB.out 0 _ rfl).1
  have k1 := (HB.out 1 _ rfl).1
  have k2 := (HB.out 2 _ rfl).1
  have k3 := (HB.out 3 _ rfl).1
  have k4 := (HB.out 4 _ rfl).1
  have k5 := (HB.out 5 _ rfl).1
  have k6 := (HB.out 6 _ rfl).1
  have k7 := (HB.out 7 _ rfl).1
  have k8 := (HB.out 8 _ rfl).1
  have k9 := (HB.out 9 _ rfl).1
  have k10 := (HB.out 10 _ rfl).1
  have HQ := Lib.hid hq
  clear hq
  have HN := Lib.hid (fun had x r h W => rnone_any had x W r h)
  have HD := Lib.hid (fun W => rhasDst_any kind W)
  have HA := Lib.hid (fun W => rhasA_any kind W)
  have HBb := Lib.hid (fun W => rhasB_any kind W)
  by_cases h0 : 0 ≤ kind
  rotate_left
  · have h0' : kind < 0 := by omega
    go_enter Tryz.func43, Tryz.ntmps43
    go_wp2_with fail
    go_ret
    refine ⟨ret_bool ?_, by first | exact HW.out | (rw [hg] at HW; exact HW.out)⟩
    have hf := HQ.out
    cases r with
    | false => rfl
    | true => exact absurd (hf.1 rfl) (fun g => by omega)
  by_cases h1 : kind ≤ 9
  rotate_left
  · have h1' : 9 < kind := by omega
    go_enter Tryz.func43, Tryz.ntmps43
    go_wp2_with fail
    go_ret
    refine ⟨ret_bool ?_, by first | exact HW.out | (rw [hg] at HW; exact HW.out)⟩
    have hf := HQ.out
    cases r with
    | false => rfl
    | true => exact absurd (hf.1 rfl) (fun g => by omega)
  by_cases h2 : 0 ≤ id
  rotate_left
  · have h2' : id < 0 := by omega
    go_enter Tryz.func43, Tryz.ntmps43
    go_wp2_with fail
    go_ret
    refine ⟨ret_bool ?_, by first | exact HW.out | (rw [hg] at HW; exact HW.out)⟩
    have hf := HQ.out
    cases r with
    | false => rfl
    | true => exact absurd (hf.1 rfl) (fun g => by omega)
  by_cases h3 : id ≤ 95
  rotate_left
  · have h3' : 95 < id := by omega
    go_enter Tryz.func43, Tryz.ntmps43
    go_wp2_with fail
    go_ret
    refine ⟨ret_bool ?_, by first | exact HW.out | (rw [hg] at HW; exact HW.out)⟩
    have hf := HQ.out
    cases r with
    | false => rfl
    | true => exact absurd (hf.1 rfl) (fun g => by omega)
  by_cases h4 : 0 ≤ n
  rotate_left
  · have h4' : n < 0 := by omega
    go_enter Tryz.func43, Tryz.ntmps43
    go_wp2_with fail
    go_ret
    refine ⟨ret_bool ?_, by first | exact HW.out | (rw [hg] at HW; exact HW.out)⟩
    have hf := HQ.out
    cases r with
    | false => rfl
    | true => exact absurd (hf.1 rfl) (fun g => by omega)
  by_cases h5 : n ≤ 3
  rotate_left
  · have h5' : 3 < n := by omega
    go_enter Tryz.func43, Tryz.ntmps43
    go_wp2_with fail
    go_ret
    refine ⟨ret_bool ?_, by first | exact HW.out | (rw [hg] at HW; exact HW.out)⟩
    have hf := HQ.out
    cases r with
    | false => rfl
    | true => exact absurd (hf.1 rfl) (fun g => by omega)
  go_enter Tryz.func43, Tryz.ntmps43
  go_upto_region 4 with fail
  have HWg : Hid (Below w.heap.size w W) := HW
  clear hE' hg
  obtain ⟨p1, hp1⟩ : ∃ p, noneB (hasDst kind) dst = p := ⟨_, rfl⟩
  obtain ⟨p2, hp2⟩ : ∃ p, noneB (hasA kind) a = p := ⟨_, rfl⟩
  obtain ⟨p3, hp3⟩ : ∃ p, noneB (hasB kind) b = p := ⟨_, rfl⟩
  obtain ⟨p4, hp4⟩ : ∃ p, noneB (decide (kind = 7)) f = p := ⟨_, rfl⟩
  obtain ⟨p5, hp5⟩ : ∃ p, noneB (decide (kind = 7)) n = p := ⟨_, rfl⟩
  go_cut [70] (fun s70 wx => s70 = .bool (!(p1 && p2 && p3 && p4 && p5)) ∧ Hid (Below W.heap.size W wx))
  case first =>
    have c1 := fun d os => Calls.regrown_of (HD.out (grow (redrawn W d) os))
    have c2 := fun d os => Calls.regrown_of (HN.out _ _ _ hp1 (grow (redrawn W d) os))
    have c3 := fun d os => Calls.regrown_of (HA.out (grow (redrawn W d) os))
    have c4 := fun d os => Calls.regrown_of (HN.out _ _ _ hp2 (grow (redrawn W d) os))
    have c5 := fun d os => Calls.regrown_of (HBb.out (grow (redrawn W d) os))
    have c6 := fun d os => Calls.regrown_of (HN.out _ _ _ hp3 (grow (redrawn W d) os))
    have c7 := fun d os => Calls.regrown_of (HN.out _ _ _ hp4 (grow (redrawn W d) os))
    have c8 := fun d os => Calls.regrown_of (HN.out _ _ _ hp5 (grow (redrawn W d) os))
    clear hp1 hp2 hp3 hp4 hp5 HN HD HA HBb HQ
    have q1 := cell_regrown k1
    have q2 := cell_regrown k2
    have q3 := cell_regrown k3
    have q4 := cell_regrown k4
    have q6 := cell_regrown k6
    have q7 := cell_regrown k7
    clear k0 k1 k2 k3 k4 k5 k6 k7 k8 k9 k10
    by_cases hk7 : kind = 7
    · rw [decide_eq_true hk7] at c7 c8
      generalize hasDst kind = e1 at *
      generalize hasA kind = e2 at *
      generalize hasB kind = e3 at *
      subst hk7
      cases p1 with
      | false =>
        refine wp_region_quiet_below (by kernel_rfl) (by kernel_rfl) ?_
        repeat (first | go_big_quiet_step (first | with_reducible exact c1 _ _ | with_reducible exact c2 _ _ | with_reducible exact c3 _ _ | with_reducible exact c4 _ _ | with_reducible exact c5 _ _ | with_reducible exact c6 _ _ | with_reducible exact c7 _ _ | with_reducible exact c8 _ _) | quiet_step (first | with_reducible exact c1 _ _ | with_reducible exact c2 _ _ | with_reducible exact c3 _ _ | with_reducible exact c4 _ _ | with_reducible exact c5 _ _ | with_reducible exact c6 _ _ | with_reducible exact c7 _ _ | with_reducible exact c8 _ _))
        refine wpQuiet_nil ?_
        intro _ hw'
        obtain ⟨⟨dq, osq⟩, hw''⟩ := hw'
        subst hw''
        go_wp2_with fail
        go_meet
        case rel => exact ⟨rfl, below_regrown W dq osq⟩
      | true =>
        cases p2 with
        | false =>
          refine wp_region_quiet_below (by kernel_rfl) (by kernel_rfl) ?_
          repeat (first | go_big_quiet_step (first | with_reducible exact c1 _ _ | with_reducible exact c2 _ _ | with_reducible exact c3 _ _ | with_reducible exact c4 _ _ | with_reducible exact c5 _ _ | with_reducible exact c6 _ _ | with_reducible exact c7 _ _ | with_reducible exact c8 _ _) | quiet_step (first | with_reducible exact c1 _ _ | with_reducible exact c2 _ _ | with_reducible exact c3 _ _ | with_reducible exact c4 _ _ | with_reducible exact c5 _ _ | with_reducible exact c6 _ _ | with_reducible exact c7 _ _ | with_reducible exact c8 _ _))
          refine wpQuiet_nil ?_
          intro _ hw'
          obtain ⟨⟨dq, osq⟩, hw''⟩ := hw'
          subst hw''
          go_wp2_with fail
          go_meet
          case rel => exact ⟨rfl, below_regrown W dq osq⟩
        | true =>
          cases p3 with
          | false =>
            refine wp_region_quiet_below (by kernel_rfl) (by kernel_rfl) ?_
            repeat (first | go_big_quiet_step (first | with_reducible exact c1 _ _ | with_reducible exact c2 _ _ | with_reducible exact c3 _ _ | with_reducible exact c4 _ _ | with_reducible exact c5 _ _ | with_reducible exact c6 _ _ | with_reducible exact c7 _ _ | with_reducible exact c8 _ _) | quiet_step (first | with_reducible exact c1 _ _ | with_reducible exact c2 _ _ | with_reducible exact c3 _ _ | with_reducible exact c4 _ _ | with_reducible exact c5 _ _ | with_reducible exact c6 _ _ | with_reducible exact c7 _ _ | with_reducible exact c8 _ _))
            refine wpQuiet_nil ?_
            intro _ hw'
            obtain ⟨⟨dq, osq⟩, hw''⟩ := hw'
            subst hw''
            go_wp2_with fail
            go_meet
            case rel => exact ⟨rfl, below_regrown W dq osq⟩
          | true =>
            cases p4 with
            | false =>
              refine wp_region_quiet_below (by kernel_rfl) (by kernel_rfl) ?_
              repeat (first | go_big_quiet_step (first | with_reducible exact c1 _ _ | with_reducible exact c2 _ _ | with_reducible exact c3 _ _ | with_reducible exact c4 _ _ | with_reducible exact c5 _ _ | with_reducible exact c6 _ _ | with_reducible exact c7 _ _ | with_reducible exact c8 _ _) | quiet_step (first | with_reducible exact c1 _ _ | with_reducible exact c2 _ _ | with_reducible exact c3 _ _ | with_reducible exact c4 _ _ | with_reducible exact c5 _ _ | with_reducible exact c6 _ _ | with_reducible exact c7 _ _ | with_reducible exact c8 _ _))
              refine wpQuiet_nil ?_
              intro _ hw'
              obtain ⟨⟨dq, osq⟩, hw''⟩ := hw'
              subst hw''
              go_wp2_with fail
              go_meet
              case rel => exact ⟨rfl, below_regrown W dq osq⟩
            | true =>
              cases p5 with
              | false =>
                refine wp_region_quiet_below (by kernel_rfl) (by kernel_rfl) ?_
                repeat (first | go_big_quiet_step (first | with_reducible exact c1 _ _ | with_reducible exact c2 _ _ | with_reducible exact c3 _ _ | with_reducible exact c4 _ _ | with_reducible exact c5 _ _ | with_reducible exact c6 _ _ | with_reducible exact c7 _ _ | with_reducible exact c8 _ _) | quiet_step (first | with_reducible exact c1 _ _ | with_reducible exact c2 _ _ | with_reducible exact c3 _ _ | with_reducible exact c4 _ _ | with_reducible exact c5 _ _ | with_reducible exact c6 _ _ | with_reducible exact c7 _ _ | with_reducible exact c8 _ _))
                refine wpQuiet_nil ?_
                intro _ hw'
                obtain ⟨⟨dq, osq⟩, hw''⟩ := hw'
                subst hw''
                go_wp2_with fail
                go_meet
                case rel => exact ⟨rfl, below_regrown W dq osq⟩
              | true =>
                refine wp_region_quiet_below (by kernel_rfl) (by kernel_rfl) ?_
                repeat (first | go_big_quiet_step (first | with_reducible exact c1 _ _ | with_reducible exact c2 _ _ | with_reducible exact c3 _ _ | with_reducible exact c4 _ _ | with_reducible exact c5 _ _ | with_reducible exact c6 _ _ | with_reducible exact c7 _ _ | with_reducible exact c8 _ _) | quiet_step (first | with_reducible exact c1 _ _ | with_reducible exact c2 _ _ | with_reducible exact c3 _ _ | with_reducible exact c4 _ _ | with_reducible exact c5 _ _ | with_reducible exact c6 _ _ | with_reducible exact c7 _ _ | with_reducible exact c8 _ _))
                refine wpQuiet_nil ?_
                intro _ hw'
                obtain ⟨⟨dq, osq⟩, hw''⟩ := hw'
                subst hw''
                go_wp2_with fail
                go_meet
                case rel => exact ⟨rfl, below_regrown W dq osq⟩
    · rw [decide_eq_false hk7] at c7 c8
      have hk7b : (kind == 7) = false := by simpa using hk7
      generalize hasDst kind = e1 at *
      generalize hasA kind = e2 at *
      generalize hasB kind = e3 at *
      cases p1 with
      | false =>
        refine wp_region_quiet_below (by kernel_rfl) (by kernel_rfl) ?_
        repeat (first | go_big_quiet_step (first | with_reducible exact c1 _ _ | with_reducible exact c2 _ _ | with_reducible exact c3 _ _ | with_reducible exact c4 _ _ | with_reducible exact c5 _ _ | with_reducible exact c6 _ _ | with_reducible exact c7 _ _ | with_reducible exact c8 _ _) | quiet_step (first | with_reducible exact c1 _ _ | with_reducible exact c2 _ _ | with_reducible exact c3 _ _ | with_reducible exact c4 _ _ | with_reducible exact c5 _ _ | with_reducible exact c6 _ _ | with_reducible exact c7 _ _ | with_reducible exact c8 _ _))
        refine wpQuiet_nil ?_
        intro _ hw'
        obtain ⟨⟨dq, osq⟩, hw''⟩ := hw'
        subst hw''
        go_wp2_with fail
        go_meet
        case rel => exact ⟨rfl, below_regrown W dq osq⟩
      | true =>
        cases p2 with
        | false =>
          refine wp_region_quiet_below (by kernel_rfl) (by kernel_rfl) ?_
          repeat (first | go_big_quiet_step (first | with_reducible exact c1 _ _ | with_reducible exact c2 _ _ | with_reducible exact c3 _ _ | with_reducible exact c4 _ _ | with_reducible exact c5 _ _ | with_reducible exact c6 _ _ | with_reducible exact c7 _ _ | with_reducible exact c8 _ _) | quiet_step (first | with_reducible exact c1 _ _ | with_reducible exact c2 _ _ | with_reducible exact c3 _ _ | with_reducible exact c4 _ _ | with_reducible exact c5 _ _ | with_reducible exact c6 _ _ | with_reducible exact c7 _ _ | with_reducible exact c8 _ _))
          refine wpQuiet_nil ?_
          intro _ hw'
          obtain ⟨⟨dq, osq⟩, hw''⟩ := hw'
          subst hw''
          go_wp2_with fail
          go_meet
          case rel => exact ⟨rfl, below_regrown W dq osq⟩
        | true =>
          cases p3 with
          | false =>
            refine wp_region_quiet_below (by kernel_rfl) (by kernel_rfl) ?_
            repeat (first | go_big_quiet_step (first | with_reducible exact c1 _ _ | with_reducible exact c2 _ _ | with_reducible exact c3 _ _ | with_reducible exact c4 _ _ | with_reducible exact c5 _ _ | with_reducible exact c6 _ _ | with_reducible exact c7 _ _ | with_reducible exact c8 _ _) | quiet_step (first | with_reducible exact c1 _ _ | with_reducible exact c2 _ _ | with_reducible exact c3 _ _ | with_reducible exact c4 _ _ | with_reducible exact c5 _ _ | with_reducible exact c6 _ _ | with_reducible exact c7 _ _ | with_reducible exact c8 _ _))
            refine wpQuiet_nil ?_
            intro _ hw'
            obtain ⟨⟨dq, osq⟩, hw''⟩ := hw'
            subst hw''
            go_wp2_with fail
            go_meet
            case rel => exact ⟨rfl, below_regrown W dq osq⟩
          | true =>
            cases p4 with
            | false =>
              refine wp_region_quiet_below (by kernel_rfl) (by kernel_rfl) ?_
              repeat (first | go_big_quiet_step (first | with_reducible exact c1 _ _ | with_reducible exact c2 _ _ | with_reducible exact c3 _ _ | with_reducible exact c4 _ _ | with_reducible exact c5 _ _ | with_reducible exact c6 _ _ | with_reducible exact c7 _ _ | with_reducible exact c8 _ _) | quiet_step (first | with_reducible exact c1 _ _ | with_reducible exact c2 _ _ | with_reducible exact c3 _ _ | with_reducible exact c4 _ _ | with_reducible exact c5 _ _ | with_reducible exact c6 _ _ | with_reducible exact c7 _ _ | with_reducible exact c8 _ _))
              refine wpQuiet_nil ?_
              intro _ hw'
              obtain ⟨⟨dq, osq⟩, hw''⟩ := hw'
              subst hw''
              go_wp2_with fail
              go_meet
              case rel => exact ⟨rfl, below_regrown W dq osq⟩
            | true =>
              cases p5 with
              | false =>
                refine wp_region_quiet_below (by kernel_rfl) (by kernel_rfl) ?_
                repeat (first | go_big_quiet_step (first | with_reducible exact c1 _ _ | with_reducible exact c2 _ _ | with_reducible exact c3 _ _ | with_reducible exact c4 _ _ | with_reducible exact c5 _ _ | with_reducible exact c6 _ _ | with_reducible exact c7 _ _ | with_reducible exact c8 _ _) | quiet_step (first | with_reducible exact c1 _ _ | with_reducible exact c2 _ _ | with_reducible exact c3 _ _ | with_reducible exact c4 _ _ | with_reducible exact c5 _ _ | with_reducible exact c6 _ _ | with_reducible exact c7 _ _ | with_reducible exact c8 _ _))
                refine wpQuiet_nil ?_
                intro _ hw'
                obtain ⟨⟨dq, osq⟩, hw''⟩ := hw'
                subst hw''
                go_wp2_with fail
                go_meet
                case rel => exact ⟨rfl, below_regrown W dq osq⟩
              | true =>
                refine wp_region_quiet_below (by kernel_rfl) (by kernel_rfl) ?_
                repeat (first | go_big_quiet_step (first | with_reducible exact c1 _ _ | with_reducible exact c2 _ _ | with_reducible exact c3 _ _ | with_reducible exact c4 _ _ | with_reducible exact c5 _ _ | with_reducible exact c6 _ _ | with_reducible exact c7 _ _ | with_reducible exact c8 _ _) | quiet_step (first | with_reducible exact c1 _ _ | with_reducible exact c2 _ _ | with_reducible exact c3 _ _ | with_reducible exact c4 _ _ | with_reducible exact c5 _ _ | with_reducible exact c6 _ _ | with_reducible exact c7 _ _ | with_reducible exact c8 _ _))
                refine wpQuiet_nil ?_
                intro _ hw'
                obtain ⟨⟨dq, osq⟩, hw''⟩ := hw'
                subst hw''
                go_wp2_with fail
                go_meet
                case rel => exact ⟨rfl, below_regrown W dq osq⟩
  case rest =>
    obtain ⟨rfl, hbc⟩ := hcut
    have HWc := Lib.hid (HWg.out.trans (hbc.out.mono HWg.out.size))
    have HBc := Lib.hid (HB.out.below hbc.out HG.out)
    have HGc := Lib.hid (HBc.out.lt (Nat.zero_lt_succ _))
    clear hbc HB HG HW HWg k0 k1 k2 k3 k4 k5 k6 k7 k8 k9 k10 HD HA HBb
    by_cases hp : (p1 && p2 && p3 && p4 && p5) = true
    rotate_left
    · rw [Bool.not_eq_true] at hp
      rw [hp]
      have HP : Hid (r = false) := by
        cases r with
        | false => rfl
        | true =>
          have hf := HQ.out.1 rfl
          rw [← hp1, ← hp2, ← hp3, ← hp4, ← hp5, hf.2.2.2.2.2.2.1, hf.2.2.2.2.2.2.2.1, hf.2.2.2.2.2.2.2.2.1, hf.2.2.2.2.2.2.2.2.2.1, hf.2.2.2.2.2.2.2.2.2.2.1] at hp
          cases hp
      clear hp1 hp2 hp3 hp4 hp5 hp HQ
      go_wp2_with fail
      go_ret
      exact ⟨ret_bool HP.out.symm, HWc.out⟩
    rw [hp]
    have HQ2 : Hid (r = true ↔ ((kind ≠ 0 → c = 0) ∧ -2147483648 ≤ c ∧ c ≤ 2147483647 ∧ noneB (decide (0 < n)) x0 = true ∧ noneB (decide (1 < n)) x1 = true ∧ noneB (decide (2 < n)) x2 = true)) := by
      simp only [Bool.and_eq_true] at hp
      obtain ⟨⟨⟨⟨e1, e2⟩, e3⟩, e4⟩, e5⟩ := hp
      refine HQ.out.trans ⟨fun g => g.2.2.2.2.2.2.2.2.2.2.2, fun g => ⟨h0, h1, h2, h3, h4, h5, hp1.trans e1, hp2.trans e2, hp3.trans e3, hp4.trans e4, hp5.trans e5, g⟩⟩
    clear hp hp1 hp2 hp3 hp4 hp5 HQ
    have k5 := (HBc.out 5 _ rfl).1
    by_cases hc1 : kind ≠ 0 → c = 0
    rotate_left
    · have hkz : kind ≠ 0 := fun e => hc1 (fun g => absurd e g)
      have hcz : c ≠ 0 := fun e => hc1 (fun _ => e)
      have hkzb : (kind == 0) = false := by simpa using hkz
      have hczb : (c == 0) = false := by simpa using hcz
      go_wp2_with fail
      go_ret
      refine ⟨ret_bool ?_, HWc.out⟩
      cases r with
      | false => rfl
      | true => exact absurd (HQ2.out.1 rfl).1 hc1
    by_cases hc2 : -2147483648 ≤ c
    rotate_left
    · have hc2' : c < -2147483648 := by omega
      obtain rfl : kind = 0 := by
        by_cases e : kind = 0
        · exact e
        · have := hc1 e; omega
      go_wp2_with fail
      go_ret
      refine ⟨ret_bool ?_, HWc.out⟩
      cases r with
      | false => rfl
      | true => exact absurd (HQ2.out.1 rfl).2.1 (by omega)
    by_cases hc3 : c ≤ 2147483647
    rotate_left
    · have hc3' : 2147483647 < c := by omega
      obtain rfl : kind = 0 := by
        by_cases e : kind = 0
        · exact e
        · have := hc1 e; omega
      go_wp2_with fail
      go_ret
      refine ⟨ret_bool ?_, HWc.out⟩
      cases r with
      | false => rfl
      | true => exact absurd (HQ2.out.1 rfl).2.2.1 (by omega)
    have HQ3 : Hid (r = true ↔ (noneB (decide (0 < n)) x0 = true ∧ noneB (decide (1 < n)) x1 = true ∧ noneB (decide (2 < n)) x2 = true)) :=
      HQ2.out.trans ⟨fun g => g.2.2.2, fun g => ⟨hc1, hc2, hc3, g⟩⟩
    clear HQ2
    go_upto_region 6 with fail
    go_cut [87] (fun s87 wx => s87 = .bool false ∧ wx = wc)
    case first =>
      by_cases hkz : kind = 0
      · subst hkz
        go_wp2_with fail
        go_meet
        case rel => exact ⟨by simp; omega, rfl⟩
      · have hcz : c = 0 := hc1 hkz
        subst hcz
        have hkzb : (kind == 0) = false := by simpa using hkz
        go_wp2_with fail
        go_meet
        case rel => exact ⟨by simp, rfl⟩
    case rest =>
      obtain ⟨rfl, hwc⟩ := hcut
      subst hwc
      clear k5 hc1 hc2 hc3
      go_wp2_with fail
      go_loopw [4] (fun ix wr => ∃ q : Nat, q ≤ 3 ∧ ix = .int .i64 q ∧ Hid (∀ j : Nat, j < q → noneB (decide ((j : Int) < n)) ([x0, x1, x2].getD j 0) = true) ∧ Hid (Below wc.heap.size wc wr)) (fun ix _ => 3 - (intOf ix).toNat)
      case atStart => exact ⟨0, Nat.zero_le _, rfl, fun j hj => absurd hj (Nat.not_lt_zero _), Below.refl _ _⟩
      case round =>
        obtain ⟨q, hq, rfl, hdone, hbr⟩ := hrel
        have HWr := Lib.hid (HWc.out.trans (hbr.out.mono HWc.out.size))
        have HBr := Lib.hid (HBc.out.below hbr.out HGc.out)
        have k7 := (HBr.out 7 _ rfl).1
        rcases (by omega : q = 0 ∨ q = 1 ∨ q = 2 ∨ q = 3) with rfl | rfl | rfl | rfl
        · have kx := (HBr.out 8 _ rfl).1
          obtain ⟨nb, hnb⟩ : ∃ nb, decide ((0 : Int) < n) = nb := ⟨_, rfl⟩
          obtain ⟨pn, hpn⟩ : ∃ p, noneB nb x0 = p := ⟨_, rfl⟩
          have HPN2 : Hid (noneB (decide ((0 : Int) < n)) x0 = pn) := by show _ = _; rw [hnb]; exact hpn
          have cn := fun d os => Calls.regrown_of (HN.out nb x0 pn hpn (grow (redrawn wr d) os))
          have q7 := cell_regrown k7
          have qx := cell_regrown kx
          have HNB := Lib.hid hnb
          have HPN := Lib.hid hpn
          go_upto_region 11 with fail
          clear k7 kx hnb hpn
          cases nb with
          | false =>
            have hlt : ¬ ((0 : Int) < n) := by have := HNB.out; simpa using this
            have hlt' : n ≤ 0 := by omega
            refine wp_region_quiet_below (by kernel_rfl) (by kernel_rfl) ?_
            repeat (first | go_big_quiet_step (first | with_reducible exact cn _ _) | quiet_step (first | with_reducible exact cn _ _))
            refine wpQuiet_nil ?_
            intro _ hw'
            obtain ⟨⟨dq, osq⟩, hw''⟩ := hw'
            subst hw''
            cases pn with
            | false =>
              go_wp2_with fail
              go_ret
              refine ⟨ret_bool ?_, HWr.out.trans ((below_regrown wr dq osq).mono HWr.out.size)⟩
              cases r with
              | false => rfl
              | true =>
                have h := HQ3.out.1 rfl
                have e := HPN2.out
                rw [h.1] at e
                cases e
            | true =>
              go_wp2_with fail
              go_roundw
              case rel =>
                refine ⟨1, by omega, by go_num, fun j hj => ?_, hbr.out.trans ((below_regrown wr dq osq).mono hbr.out.size)⟩
                rcases Nat.lt_succ_iff_lt_or_eq.1 hj with h | rfl
                · exact hdone.out j h
                · exact HPN2.out
              case measure => simp [intOf]
          | true =>
            have hlt : (0 : Int) < n := by have := HNB.out; simpa using this
            refine wp_region_quiet_below (by kernel_rfl) (by kernel_rfl) ?_
            repeat (first | go_big_quiet_step (first | with_reducible exact cn _ _) | quiet_step (first | with_reducible exact cn _ _))
            refine wpQuiet_nil ?_
            intro _ hw'
            obtain ⟨⟨dq, osq⟩, hw''⟩ := hw'
            subst hw''
            cases pn with
            | false =>
              go_wp2_with fail
              go_ret
              refine ⟨ret_bool ?_, HWr.out.trans ((below_regrown wr dq osq).mono HWr.out.size)⟩
              cases r with
              | false => rfl
              | true =>
                have h := HQ3.out.1 rfl
                have e := HPN2.out
                rw [h.1] at e
                cases e
            | true =>
              go_wp2_with fail
              go_roundw
              case rel =>
                refine ⟨1, by omega, by go_num, fun j hj => ?_, hbr.out.trans ((below_regrown wr dq osq).mono hbr.out.size)⟩
                rcases Nat.lt_succ_iff_lt_or_eq.1 hj with h | rfl
                · exact hdone.out j h
                · exact HPN2.out
              case measure => simp [intOf]
        · have kx := (HBr.out 9 _ rfl).1
          obtain ⟨nb, hnb⟩ : ∃ nb, decide ((1 : Int) < n) = nb := ⟨_, rfl⟩
          obtain ⟨pn, hpn⟩ : ∃ p, noneB nb x1 = p := ⟨_, rfl⟩
          have HPN2 : Hid (noneB (decide ((1 : Int) < n)) x1 = pn) := by show _ = _; rw [hnb]; exact hpn
          have cn := fun d os => Calls.regrown_of (HN.out nb x1 pn hpn (grow (redrawn wr d) os))
          have q7 := cell_regrown k7
          have qx := cell_regrown kx
          have HNB := Lib.hid hnb
          have HPN := Lib.hid hpn
          go_upto_region 11 with fail
          clear k7 kx hnb hpn
          cases nb with
          | false =>
            have hlt : ¬ ((1 : Int) < n) := by have := HNB.out; simpa using this
            have hlt' : n ≤ 1 := by omega
            refine wp_region_quiet_below (by kernel_rfl) (by kernel_rfl) ?_
            repeat (first | go_big_quiet_step (first | with_reducible exact cn _ _) | quiet_step (first | with_reducible exact cn _ _))
            refine wpQuiet_nil ?_
            intro _ hw'
            obtain ⟨⟨dq, osq⟩, hw''⟩ := hw'
            subst hw''
            cases pn with
            | false =>
              go_wp2_with fail
              go_ret
              refine ⟨ret_bool ?_, HWr.out.trans ((below_regrown wr dq osq).mono HWr.out.size)⟩
              cases r with
              | false => rfl
              | true =>
                have h := HQ3.out.1 rfl
                have e := HPN2.out
                rw [h.2.1] at e
                cases e
            | true =>
              go_wp2_with fail
              go_roundw
              case rel =>
                refine ⟨2, by omega, by go_num, fun j hj => ?_, hbr.out.trans ((below_regrown wr dq osq).mono hbr.out.size)⟩
                rcases Nat.lt_succ_iff_lt_or_eq.1 hj with h | rfl
                · exact hdone.out j h
                · exact HPN2.out
              case measure => simp [intOf]
          | true =>
            have hlt : (1 : Int) < n := by have := HNB.out; simpa using this
            refine wp_region_quiet_below (by kernel_rfl) (by kernel_rfl) ?_
            repeat (first | go_big_quiet_step (first | with_reducible exact cn _ _) | quiet_step (first | with_reducible exact cn _ _))
            refine wpQuiet_nil ?_
            intro _ hw'
            obtain ⟨⟨dq, osq⟩, hw''⟩ := hw'
            subst hw''
            cases pn with
            | false =>
              go_wp2_with fail
              go_ret
              refine ⟨ret_bool ?_, HWr.out.trans ((below_regrown wr dq osq).mono HWr.out.size)⟩
              cases r with
              | false => rfl
              | true =>
                have h := HQ3.out.1 rfl
                have e := HPN2.out
                rw [h.2.1] at e
                cases e
            | true =>
              go_wp2_with fail
              go_roundw
              case rel =>
                refine ⟨2, by omega, by go_num, fun j hj => ?_, hbr.out.trans ((below_regrown wr dq osq).mono hbr.out.size)⟩
                rcases Nat.lt_succ_iff_lt_or_eq.1 hj with h | rfl
                · exact hdone.out j h
                · exact HPN2.out
              case measure => simp [intOf]
        · have kx := (HBr.out 10 _ rfl).1
          obtain ⟨nb, hnb⟩ : ∃ nb, decide ((2 : Int) < n) = nb := ⟨_, rfl⟩
          obtain ⟨pn, hpn⟩ : ∃ p, noneB nb x2 = p := ⟨_, rfl⟩
          have HPN2 : Hid (noneB (decide ((2 : Int) < n)) x2 = pn) := by show _ = _; rw [hnb]; exact hpn
          have cn := fun d os => Calls.regrown_of (HN.out nb x2 pn hpn (grow (redrawn wr d) os))
          have q7 := cell_regrown k7
          have qx := cell_regrown kx
          have HNB := Lib.hid hnb
          have HPN := Lib.hid hpn
          go_upto_region 11 with fail
          clear k7 kx hnb hpn
          cases nb with
          | false =>
            have hlt : ¬ ((2 : Int) < n) := by have := HNB.out; simpa using this
            have hlt' : n ≤ 2 := by omega
            refine wp_region_quiet_below (by kernel_rfl) (by kernel_rfl) ?_
            repeat (first | go_big_quiet_step (first | with_reducible exact cn _ _) | quiet_step (first | with_reducible exact cn _ _))
            refine wpQuiet_nil ?_
            intro _ hw'
            obtain ⟨⟨dq, osq⟩, hw''⟩ := hw'
            subst hw''
            cases pn with
            | false =>
              go_wp2_with fail
              go_ret
              refine ⟨ret_bool ?_, HWr.out.trans ((below_regrown wr dq osq).mono HWr.out.size)⟩
              cases r with
              | false => rfl
              | true =>
                have h := HQ3.out.1 rfl
                have e := HPN2.out
                rw [h.2.2] at e
                cases e
            | true =>
              go_wp2_with fail
              go_roundw
              case rel =>
                refine ⟨3, by omega, by go_num, fun j hj => ?_, hbr.out.trans ((below_regrown wr dq osq).mono hbr.out.size)⟩
                rcases Nat.lt_succ_iff_lt_or_eq.1 hj with h | rfl
                · exact hdone.out j h
                · exact HPN2.out
              case measure => simp [intOf]
          | true =>
            have hlt : (2 : Int) < n := by have := HNB.out; simpa using this
            refine wp_region_quiet_below (by kernel_rfl) (by kernel_rfl) ?_
            repeat (first | go_big_quiet_step (first | with_reducible exact cn _ _) | quiet_step (first | with_reducible exact cn _ _))
            refine wpQuiet_nil ?_
            intro _ hw'
            obtain ⟨⟨dq, osq⟩, hw''⟩ := hw'
            subst hw''
            cases pn with
            | false =>
              go_wp2_with fail
              go_ret
              refine ⟨ret_bool ?_, HWr.out.trans ((below_regrown wr dq osq).mono HWr.out.size)⟩
              cases r with
              | false => rfl
              | true =>
                have h := HQ3.out.1 rfl
                have e := HPN2.out
                rw [h.2.2] at e
                cases e
            | true =>
              go_wp2_with fail
              go_roundw
              case rel =>
                refine ⟨3, by omega, by go_num, fun j hj => ?_, hbr.out.trans ((below_regrown wr dq osq).mono hbr.out.size)⟩
                rcases Nat.lt_succ_iff_lt_or_eq.1 hj with h | rfl
                · exact hdone.out j h
                · exact HPN2.out
              case measure => simp [intOf]
        · have HR : Hid (r = true) := HQ3.out.2 ⟨hdone.out 0 (by decide), hdone.out 1 (by decide), hdone.out 2 (by decide)⟩
          go_wp2_with fail
          go_ret
          exact ⟨ret_bool HR.out.symm, HWr.out⟩
end Go.Proofs.YtmcbedlmgffckaaGreatDoor
