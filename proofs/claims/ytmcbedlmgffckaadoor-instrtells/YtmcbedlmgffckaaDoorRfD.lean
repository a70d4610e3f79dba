/- The document's answer for layer 5: Uses. -/
import Derived.Test.YtmcbedlmgffckaaDoorRfC
namespace Go.Proofs.YtmcbedlmgffckaaDoor.Bi
open Go Go.RowKit Go.Sort

theorem addL_le {l : List Int} {x : Int} {m : Nat} (h : l.length ≤ m) : (addL l x).length ≤ m + 1 := Nat.le_trans (addL_length l x) (by omega)
theorem addIf_le {l : List Int} {x : Int} {m : Nat} (p : Bool) (h : l.length ≤ m) : (addIf p l x).length ≤ m + 1 := by
  unfold addIf; split
  · exact addL_le h
  · omega
theorem owns_keep {W W' : World} {b : Nat} {e : TypeId} {size n : Nat} {v : Value} {xs : List Value} (h : W.ownsRow b e size v n xs) (hb : Below W.heap.size W W') : W'.ownsRow b e size v n xs :=
  ⟨h.1, h.2.imp _root_.id fun ⟨g, cap, cur, a, hg, hc, r⟩ => ⟨g, cap, cur, a, hg, (hb.block g (Array.getElem?_eq_some_iff.1 hc).1).trans hc, r⟩⟩
def argsTo (b l : List Int) (q : Nat) : List Int := (l.take q).foldl addL b
theorem argsTo_succ (b l : List Int) (q : Nat) (h : q < l.length) (x : Int) (hx : l[q]? = some x) : argsTo b l (q + 1) = addL (argsTo b l q) x := by
  unfold argsTo
  rw [List.take_succ_eq_append_getElem h, List.foldl_append]
  rw [List.getElem?_eq_getElem h] at hx
  simp at hx
  simp [hx]
theorem argsTo_le {b : List Int} (hb : b.length ≤ 2) (x0 x1 x2 : Int) : ∀ q, q ≤ 3 → (argsTo b [x0, x1, x2] q).length ≤ 5 := by
  intro q hq
  rcases (by omega : q = 0 ∨ q = 1 ∨ q = 2 ∨ q = 3) with rfl | rfl | rfl | rfl
  · show b.length ≤ 5; omega
  · exact Nat.le_trans (addL_le hb) (by omega)
  · exact Nat.le_trans (addL_le (addL_le hb)) (by omega)
  · exact addL_le (addL_le (addL_le hb))

set_option maxRecDepth 100000 in
set_option maxHeartbeats 16000000 in
theorem rUses_any (i : Ins) (w : World) :
    Calls Tryd.prog 16 #[i.val] w fun e w' => ∃ u, e = .returned u ∧ w'.ownsRow w.heap.size 3 1 u i.uses.length (i.uses.map (Value.int .i64)) ∧ Below w.heap.size w w' := by
  have HW := Lib.hid (below1 w (.cells i.cells.toArray 24))
  have HB := Lib.hid (BoxL.new w i.cells 24)
  have HA := Lib.hid (fun W => rhasA_any i.kind W)
  have HBb := Lib.hid (fun W => rhasB_any i.kind W)
  by_cases hf : i.form
  rotate_left
  · have HF := Lib.hid (fun W => rForm_any i W false (decide_eq_false hf))
    have hu : i.uses = [] := by unfold Ins.uses; rw [if_neg hf]
    rw [hu]
    clear hf hu HA HBb
    obtain ⟨id, kind, dst, a, b, c, f, n, x0, x1, x2⟩ := i
    unfold Ins.val at *
    unfold Ins.cells at HB HW
    dsimp only at *
    generalize hE : w.alloc (.cells (List.toArray [.int .i64 id, .int .i64 kind, .int .i64 dst, .int .i64 a, .int .i64 b, .int .i64 c, .int .i64 f, .int .i64 n, .int .i64 x0, .int .i64 x1, .int .i64 x2]) 24) = W at HB HW
    have hE' : w.alloc (.cells #[.int .i64 id, .int .i64 kind, .int .i64 dst, .int .i64 a, .int .i64 b, .int .i64 c, .int .i64 f, .int .i64 n, .int .i64 x0, .int .i64 x1, .int .i64 x2] 24) = W := hE
    clear hE
    obtain ⟨g, hg⟩ : ∃ g, w.heap.size = g := ⟨_, rfl⟩
    rw [hg] at HB
    have HG := Lib.hid (HB.out.lt (Nat.zero_lt_succ _))
    have k0 := (HB.out 0 _ rfl).1
    have k1 := (HB.out 1 _ rfl).1
    have k2 := (HB.out 2 _ rfl).1
    have k3 := (HB.out 3 _ rfl).1
    have k4 := (HB.out 4 _ rfl).1
    have k5 := (HB.out 5 _ rfl).1
    have k6 := (HB.out 6 _ rfl).1
    have k7 := (HB.out 7 _ rfl).1
    have k8 := (HB.out 8 _ rfl).1
    have k9 := (HB.out 9 _ rfl).1
    have k10 := (HB.out 10 _ rfl).1
    go_enter Tryd.func16, Tryd.ntmps16
    go_wp2_with (first | (go_at_call 11; refine (HF.out _).mono ?_; rintro e wa ⟨rfl, hba⟩; have HB2 := Lib.hid (HB.out.below hba HG.out); have HW2 := Lib.hid (HW.out.trans (hba.mono HW.out.size)); clear HB HW HG hba k0 k1 k2 k3 k4 k5 k6 k7 k8 k9 k10; have k1 := (HB2.out 1 _ rfl).1; have k3 := (HB2.out 3 _ rfl).1; have k4 := (HB2.out 4 _ rfl).1; have k7 := (HB2.out 7 _ rfl).1; have k8 := (HB2.out 8 _ rfl).1; have k9 := (HB2.out 9 _ rfl).1; have k10 := (HB2.out 10 _ rfl).1))
    go_ret
    exact ⟨_, rfl, World.ownsRow_nil _ _ _ _, HW2.out⟩
  have HF := Lib.hid (fun W => rForm_any i W true (decide_eq_true hf))
  have hn1 : 0 ≤ i.n ∧ i.n ≤ 3 := ⟨hf.2.2.2.2.1, hf.2.2.2.2.2.1⟩
  have hu : i.uses = argsTo (addIf (Go.Proofs.YtmcbedlmgffckaaDoor.hasB i.kind) (addIf (Go.Proofs.YtmcbedlmgffckaaDoor.hasA i.kind) [] i.a) i.b) i.args i.n.toNat := by unfold Ins.uses argsTo; rw [if_pos hf]
  rw [hu]
  clear hf hu
  generalize Go.Proofs.YtmcbedlmgffckaaDoor.hasA i.kind = ea at *
  generalize Go.Proofs.YtmcbedlmgffckaaDoor.hasB i.kind = eb at *
  obtain ⟨id, kind, dst, a, b, c, f, n, x0, x1, x2⟩ := i
  unfold Ins.args
  dsimp only at hn1
  obtain ⟨m, rfl⟩ : ∃ m : Nat, n = (m : Int) := ⟨n.toNat, by omega⟩
  have hm3 : m ≤ 3 := by omega
  rw [show ((m : Int)).toNat = m from rfl]
  clear hn1
  unfold Ins.val at *
  unfold Ins.cells at HB HW
  dsimp only at *
  generalize hE : w.alloc (.cells (List.toArray [.int .i64 id, .int .i64 kind, .int .i64 dst, .int .i64 a, .int .i64 b, .int .i64 c, .int .i64 f, .int .i64 (m : Int), .int .i64 x0, .int .i64 x1, .int .i64 x2]) 24) = W at HB HW
  have hE' : w.alloc (.cells #[.int .i64 id, .int .i64 kind, .int .i64 dst, .int .i64 a, .int .i64 b, .int .i64 c, .int .i64 f, .int .i64 (m : Int), .int .i64 x0, .int .i64 x1, .int .i64 x2] 24) = W := hE
  clear hE
  obtain ⟨g, hg⟩ : ∃ g, w.heap.size = g := ⟨_, rfl⟩
  rw [hg] at HB
  have HG := Lib.hid (HB.out.lt (Nat.zero_lt_succ _))
  have k0 := (HB.out 0 _ rfl).1
  have k1 := (HB.out 1 _ rfl).1
  have k2 := (HB.out 2 _ rfl).1
  have k3 := (HB.out 3 _ rfl).1
  have k4 := (HB.out 4 _ rfl).1
  have k5 := (HB.out 5 _ rfl).1
  have k6 := (HB.out 6 _ rfl).1
  have k7 := (HB.out 7 _ rfl).1
  have k8 := (HB.out 8 _ rfl).1
  have k9 := (HB.out 9 _ rfl).1
  have k10 := (HB.out 10 _ rfl).1
  cases ea with
  | false =>
    cases eb with
    | false =>
      have toka : True := trivial
      have tokb : True := trivial
      go_enter Tryd.func16, Tryd.ntmps16
      go_wp2_with (first | (go_at_call 11; refine (HF.out _).mono ?_; rintro e wa ⟨rfl, hba⟩; have HB2 := Lib.hid (HB.out.below hba HG.out); have HW2 := Lib.hid (HW.out.trans (hba.mono HW.out.size)); clear HB HW HG hba k0 k1 k2 k3 k4 k5 k6 k7 k8 k9 k10; have k1 := (HB2.out 1 _ rfl).1; have k3 := (HB2.out 3 _ rfl).1; have k4 := (HB2.out 4 _ rfl).1; have k7 := (HB2.out 7 _ rfl).1; have k8 := (HB2.out 8 _ rfl).1; have k9 := (HB2.out 9 _ rfl).1; have k10 := (HB2.out 10 _ rfl).1; have HGa := Lib.hid (HB2.out.lt (Nat.zero_lt_succ _)); have HO := Lib.hid (World.ownsRow_nil wa wa.heap.size 3 1); have HBw := Lib.hid (Below.refl wa.heap.size wa)) | (go_at_call 49; refine (HA.out _).mono ?_; rintro e wb ⟨rfl, hbb⟩; have HO' := Lib.hid (owns_keep HO.out hbb); have HBx := Lib.hid (HBw.out.trans (hbb.mono HBw.out.size)); clear HO HBw hbb k1 k3 k4 k7 k8 k9 k10; have HO := HO'; have HBw := HBx; clear HO' HBx; have k1 := ((HB2.out.below HBw.out HGa.out) 1 _ rfl).1; have k3 := ((HB2.out.below HBw.out HGa.out) 3 _ rfl).1; have k4 := ((HB2.out.below HBw.out HGa.out) 4 _ rfl).1; have k7 := ((HB2.out.below HBw.out HGa.out) 7 _ rfl).1; have k8 := ((HB2.out.below HBw.out HGa.out) 8 _ rfl).1; have k9 := ((HB2.out.below HBw.out HGa.out) 9 _ rfl).1; have k10 := ((HB2.out.below HBw.out HGa.out) 10 _ rfl).1) | (go_at_call 50; refine (HBb.out _).mono ?_; rintro e wb ⟨rfl, hbb⟩; have HO' := Lib.hid (owns_keep HO.out hbb); have HBx := Lib.hid (HBw.out.trans (hbb.mono HBw.out.size)); clear HO HBw hbb k1 k3 k4 k7 k8 k9 k10; have HO := HO'; have HBw := HBx; clear HO' HBx; have k1 := ((HB2.out.below HBw.out HGa.out) 1 _ rfl).1; have k3 := ((HB2.out.below HBw.out HGa.out) 3 _ rfl).1; have k4 := ((HB2.out.below HBw.out HGa.out) 4 _ rfl).1; have k7 := ((HB2.out.below HBw.out HGa.out) 7 _ rfl).1; have k8 := ((HB2.out.below HBw.out HGa.out) 8 _ rfl).1; have k9 := ((HB2.out.below HBw.out HGa.out) 9 _ rfl).1; have k10 := ((HB2.out.below HBw.out HGa.out) 10 _ rfl).1))
      have hgoal : argsTo (addIf false (addIf false [] a) b) [x0, x1, x2] m = argsTo ([] : List Int) [x0, x1, x2] m := rfl
      go_loopw [3, 4] (fun v ix wr => ∃ q : Nat, q ≤ m ∧ ix = .int .i64 q ∧ Hid (wr.ownsRow wa.heap.size 3 1 v (argsTo ([] : List Int) [x0, x1, x2] q).length ((argsTo ([] : List Int) [x0, x1, x2] q).map (Value.int .i64))) ∧ Hid (Below wa.heap.size wa wr)) (fun _ ix _ => m - (intOf ix).toNat)
      case atStart => exact ⟨0, Nat.zero_le _, rfl, HO, HBw⟩
      case round =>
        clear HO HBw k1 k3 k4 k7 k8 k9 k10
        obtain ⟨q, hq, rfl, hown, hbr⟩ := hrel
        have k7 := ((HB2.out.below hbr.out HGa.out) 7 _ rfl).1
        by_cases hlt : q < m
        · have hqi : (q : Int) < (m : Int) := by omega
          have hq3 : q < 3 := by omega
          rcases (by omega : q = 0 ∨ q = 1 ∨ q = 2) with rfl | rfl | rfl
          · have kx := ((HB2.out.below hbr.out HGa.out) 8 _ rfl).1
            have hle := argsTo_le (b := ([] : List Int)) (by simp) x0 x1 x2 0 (by omega)
            have HAD := Lib.hid (radd_any wa.heap.size _ _ x0 _ _ hown.out hbr.out.size (by omega) _ rfl)
            clear hle
            go_wp2_with (go_at_call 52; refine HAD.out.mono ?_; rintro e wb ⟨v1, rfl, hov, hbb⟩; have HOv := Lib.hid hov; have HBv := Lib.hid (hbr.out.trans hbb); clear hov hbb)
            go_roundw
            case rel => exact ⟨1, by omega, by go_num, by rw [argsTo_succ _ _ 0 (by simp) x0 rfl]; exact HOv, HBv⟩
            case measure => simp [intOf]; omega
          · have kx := ((HB2.out.below hbr.out HGa.out) 9 _ rfl).1
            have hle := argsTo_le (b := ([] : List Int)) (by simp) x0 x1 x2 1 (by omega)
            have HAD := Lib.hid (radd_any wa.heap.size _ _ x1 _ _ hown.out hbr.out.size (by omega) _ rfl)
            clear hle
            go_wp2_with (go_at_call 52; refine HAD.out.mono ?_; rintro e wb ⟨v1, rfl, hov, hbb⟩; have HOv := Lib.hid hov; have HBv := Lib.hid (hbr.out.trans hbb); clear hov hbb)
            go_roundw
            case rel => exact ⟨2, by omega, by go_num, by rw [argsTo_succ _ _ 1 (by simp) x1 rfl]; exact HOv, HBv⟩
            case measure => simp [intOf]; omega
          · have kx := ((HB2.out.below hbr.out HGa.out) 10 _ rfl).1
            have hle := argsTo_le (b := ([] : List Int)) (by simp) x0 x1 x2 2 (by omega)
            have HAD := Lib.hid (radd_any wa.heap.size _ _ x2 _ _ hown.out hbr.out.size (by omega) _ rfl)
            clear hle
            go_wp2_with (go_at_call 52; refine HAD.out.mono ?_; rintro e wb ⟨v1, rfl, hov, hbb⟩; have HOv := Lib.hid hov; have HBv := Lib.hid (hbr.out.trans hbb); clear hov hbb)
            go_roundw
            case rel => exact ⟨3, by omega, by go_num, by rw [argsTo_succ _ _ 2 (by simp) x2 rfl]; exact HOv, HBv⟩
            case measure => simp [intOf]; omega
        · obtain rfl : q = m := by omega
          go_wp2_with fail
          go_ret
          have HZ := Lib.hid (HW2.out.trans (hbr.out.mono HW2.out.size))
          exact ⟨_, rfl, owns_base hown.out HW2.out.size, HZ.out⟩
    | true =>
      have toka : True := trivial
      have tokb : True := trivial
      go_enter Tryd.func16, Tryd.ntmps16
      go_wp2_with (first | (go_at_call 11; refine (HF.out _).mono ?_; rintro e wa ⟨rfl, hba⟩; have HB2 := Lib.hid (HB.out.below hba HG.out); have HW2 := Lib.hid (HW.out.trans (hba.mono HW.out.size)); clear HB HW HG hba k0 k1 k2 k3 k4 k5 k6 k7 k8 k9 k10; have k1 := (HB2.out 1 _ rfl).1; have k3 := (HB2.out 3 _ rfl).1; have k4 := (HB2.out 4 _ rfl).1; have k7 := (HB2.out 7 _ rfl).1; have k8 := (HB2.out 8 _ rfl).1; have k9 := (HB2.out 9 _ rfl).1; have k10 := (HB2.out 10 _ rfl).1; have HGa := Lib.hid (HB2.out.lt (Nat.zero_lt_succ _)); have HO := Lib.hid (World.ownsRow_nil wa wa.heap.size 3 1); have HBw := Lib.hid (Below.refl wa.heap.size wa)) | (go_at_call 49; refine (HA.out _).mono ?_; rintro e wb ⟨rfl, hbb⟩; have HO' := Lib.hid (owns_keep HO.out hbb); have HBx := Lib.hid (HBw.out.trans (hbb.mono HBw.out.size)); clear HO HBw hbb k1 k3 k4 k7 k8 k9 k10; have HO := HO'; have HBw := HBx; clear HO' HBx; have k1 := ((HB2.out.below HBw.out HGa.out) 1 _ rfl).1; have k3 := ((HB2.out.below HBw.out HGa.out) 3 _ rfl).1; have k4 := ((HB2.out.below HBw.out HGa.out) 4 _ rfl).1; have k7 := ((HB2.out.below HBw.out HGa.out) 7 _ rfl).1; have k8 := ((HB2.out.below HBw.out HGa.out) 8 _ rfl).1; have k9 := ((HB2.out.below HBw.out HGa.out) 9 _ rfl).1; have k10 := ((HB2.out.below HBw.out HGa.out) 10 _ rfl).1) | (go_at_call 50; refine (HBb.out _).mono ?_; rintro e wb ⟨rfl, hbb⟩; have HO' := Lib.hid (owns_keep HO.out hbb); have HBx := Lib.hid (HBw.out.trans (hbb.mono HBw.out.size)); clear HO HBw hbb k1 k3 k4 k7 k8 k9 k10; have HO := HO'; have HBw := HBx; clear HO' HBx; have k1 := ((HB2.out.below HBw.out HGa.out) 1 _ rfl).1; have k3 := ((HB2.out.below HBw.out HGa.out) 3 _ rfl).1; have k4 := ((HB2.out.below HBw.out HGa.out) 4 _ rfl).1; have k7 := ((HB2.out.below HBw.out HGa.out) 7 _ rfl).1; have k8 := ((HB2.out.below HBw.out HGa.out) 8 _ rfl).1; have k9 := ((HB2.out.below HBw.out HGa.out) 9 _ rfl).1; have k10 := ((HB2.out.below HBw.out HGa.out) 10 _ rfl).1) | (have _t := tokb; go_at_call 52; clear _t tokb; refine (radd_any wa.heap.size _ ([] : List Int) b _ _ HO.out HBw.out.size (by first | decide | (have := addL_length ([] : List Int) a; simp at this; omega)) _ rfl).mono ?_; rintro e wb ⟨v1, rfl, hov, hbb⟩; have HBx := Lib.hid (HBw.out.trans hbb); clear HO HBw hbb k1 k3 k4 k7 k8 k9 k10; have HO := Lib.hid hov; have HBw := HBx; clear hov HBx; have k1 := ((HB2.out.below HBw.out HGa.out) 1 _ rfl).1; have k3 := ((HB2.out.below HBw.out HGa.out) 3 _ rfl).1; have k4 := ((HB2.out.below HBw.out HGa.out) 4 _ rfl).1; have k7 := ((HB2.out.below HBw.out HGa.out) 7 _ rfl).1; have k8 := ((HB2.out.below HBw.out HGa.out) 8 _ rfl).1; have k9 := ((HB2.out.below HBw.out HGa.out) 9 _ rfl).1; have k10 := ((HB2.out.below HBw.out HGa.out) 10 _ rfl).1))
      have hgoal : argsTo (addIf true (addIf false [] a) b) [x0, x1, x2] m = argsTo (addL ([] : List Int) b) [x0, x1, x2] m := rfl
      go_loopw [3, 4] (fun v ix wr => ∃ q : Nat, q ≤ m ∧ ix = .int .i64 q ∧ Hid (wr.ownsRow wa.heap.size 3 1 v (argsTo (addL ([] : List Int) b) [x0, x1, x2] q).length ((argsTo (addL ([] : List Int) b) [x0, x1, x2] q).map (Value.int .i64))) ∧ Hid (Below wa.heap.size wa wr)) (fun _ ix _ => m - (intOf ix).toNat)
      case atStart => exact ⟨0, Nat.zero_le _, rfl, HO, HBw⟩
      case round =>
        clear HO HBw k1 k3 k4 k7 k8 k9 k10
        obtain ⟨q, hq, rfl, hown, hbr⟩ := hrel
        have k7 := ((HB2.out.below hbr.out HGa.out) 7 _ rfl).1
        by_cases hlt : q < m
        · have hqi : (q : Int) < (m : Int) := by omega
          have hq3 : q < 3 := by omega
          rcases (by omega : q = 0 ∨ q = 1 ∨ q = 2) with rfl | rfl | rfl
          · have kx := ((HB2.out.below hbr.out HGa.out) 8 _ rfl).1
            have hle := argsTo_le (b := (addL ([] : List Int) b)) (by exact Nat.le_trans (addL_length _ _) (by simp)) x0 x1 x2 0 (by omega)
            have HAD := Lib.hid (radd_any wa.heap.size _ _ x0 _ _ hown.out hbr.out.size (by omega) _ rfl)
            clear hle
            go_wp2_with (go_at_call 52; refine HAD.out.mono ?_; rintro e wb ⟨v1, rfl, hov, hbb⟩; have HOv := Lib.hid hov; have HBv := Lib.hid (hbr.out.trans hbb); clear hov hbb)
            go_roundw
            case rel => exact ⟨1, by omega, by go_num, by rw [argsTo_succ _ _ 0 (by simp) x0 rfl]; exact HOv, HBv⟩
            case measure => simp [intOf]; omega
          · have kx := ((HB2.out.below hbr.out HGa.out) 9 _ rfl).1
            have hle := argsTo_le (b := (addL ([] : List Int) b)) (by exact Nat.le_trans (addL_length _ _) (by simp)) x0 x1 x2 1 (by omega)
            have HAD := Lib.hid (radd_any wa.heap.size _ _ x1 _ _ hown.out hbr.out.size (by omega) _ rfl)
            clear hle
            go_wp2_with (go_at_call 52; refine HAD.out.mono ?_; rintro e wb ⟨v1, rfl, hov, hbb⟩; have HOv := Lib.hid hov; have HBv := Lib.hid (hbr.out.trans hbb); clear hov hbb)
            go_roundw
            case rel => exact ⟨2, by omega, by go_num, by rw [argsTo_succ _ _ 1 (by simp) x1 rfl]; exact HOv, HBv⟩
            case measure => simp [intOf]; omega
          · have kx := ((HB2.out.below hbr.out HGa.out) 10 _ rfl).1
            have hle := argsTo_le (b := (addL ([] : List Int) b)) (by exact Nat.le_trans (addL_length _ _) (by simp)) x0 x1 x2 2 (by omega)
            have HAD := Lib.hid (radd_any wa.heap.size _ _ x2 _ _ hown.out hbr.out.size (by omega) _ rfl)
            clear hle
            go_wp2_with (go_at_call 52; refine HAD.out.mono ?_; rintro e wb ⟨v1, rfl, hov, hbb⟩; have HOv := Lib.hid hov; have HBv := Lib.hid (hbr.out.trans hbb); clear hov hbb)
            go_roundw
            case rel => exact ⟨3, by omega, by go_num, by rw [argsTo_succ _ _ 2 (by simp) x2 rfl]; exact HOv, HBv⟩
            case measure => simp [intOf]; omega
        · obtain rfl : q = m := by omega
          go_wp2_with fail
          go_ret
          have HZ := Lib.hid (HW2.out.trans (hbr.out.mono HW2.out.size))
          exact ⟨_, rfl, owns_base hown.out HW2.out.size, HZ.out⟩
  | true =>
    cases eb with
    | false =>
      have toka : True := trivial
      have tokb : True := trivial
      go_enter Tryd.func16, Tryd.ntmps16
      go_wp2_with (first | (go_at_call 11; refine (HF.out _).mono ?_; rintro e wa ⟨rfl, hba⟩; have HB2 := Lib.hid (HB.out.below hba HG.out); have HW2 := Lib.hid (HW.out.trans (hba.mono HW.out.size)); clear HB HW HG hba k0 k1 k2 k3 k4 k5 k6 k7 k8 k9 k10; have k1 := (HB2.out 1 _ rfl).1; have k3 := (HB2.out 3 _ rfl).1; have k4 := (HB2.out 4 _ rfl).1; have k7 := (HB2.out 7 _ rfl).1; have k8 := (HB2.out 8 _ rfl).1; have k9 := (HB2.out 9 _ rfl).1; have k10 := (HB2.out 10 _ rfl).1; have HGa := Lib.hid (HB2.out.lt (Nat.zero_lt_succ _)); have HO := Lib.hid (World.ownsRow_nil wa wa.heap.size 3 1); have HBw := Lib.hid (Below.refl wa.heap.size wa)) | (go_at_call 49; refine (HA.out _).mono ?_; rintro e wb ⟨rfl, hbb⟩; have HO' := Lib.hid (owns_keep HO.out hbb); have HBx := Lib.hid (HBw.out.trans (hbb.mono HBw.out.size)); clear HO HBw hbb k1 k3 k4 k7 k8 k9 k10; have HO := HO'; have HBw := HBx; clear HO' HBx; have k1 := ((HB2.out.below HBw.out HGa.out) 1 _ rfl).1; have k3 := ((HB2.out.below HBw.out HGa.out) 3 _ rfl).1; have k4 := ((HB2.out.below HBw.out HGa.out) 4 _ rfl).1; have k7 := ((HB2.out.below HBw.out HGa.out) 7 _ rfl).1; have k8 := ((HB2.out.below HBw.out HGa.out) 8 _ rfl).1; have k9 := ((HB2.out.below HBw.out HGa.out) 9 _ rfl).1; have k10 := ((HB2.out.below HBw.out HGa.out) 10 _ rfl).1) | (go_at_call 50; refine (HBb.out _).mono ?_; rintro e wb ⟨rfl, hbb⟩; have HO' := Lib.hid (owns_keep HO.out hbb); have HBx := Lib.hid (HBw.out.trans (hbb.mono HBw.out.size)); clear HO HBw hbb k1 k3 k4 k7 k8 k9 k10; have HO := HO'; have HBw := HBx; clear HO' HBx; have k1 := ((HB2.out.below HBw.out HGa.out) 1 _ rfl).1; have k3 := ((HB2.out.below HBw.out HGa.out) 3 _ rfl).1; have k4 := ((HB2.out.below HBw.out HGa.out) 4 _ rfl).1; have k7 := ((HB2.out.below HBw.out HGa.out) 7 _ rfl).1; have k8 := ((HB2.out.below HBw.out HGa.out) 8 _ rfl).1; have k9 := ((HB2.out.below HBw.out HGa.out) 9 _ rfl).1; have k10 := ((HB2.out.below HBw.out HGa.out) 10 _ rfl).1) | (have _t := toka; go_at_call 52; clear _t toka; refine (radd_any wa.heap.size _ ([] : List Int) a _ _ HO.out HBw.out.size (by first | decide | (have := addL_length ([] : List Int) a; simp at this; omega)) _ rfl).mono ?_; rintro e wb ⟨v1, rfl, hov, hbb⟩; have HBx := Lib.hid (HBw.out.trans hbb); clear HO HBw hbb k1 k3 k4 k7 k8 k9 k10; have HO := Lib.hid hov; have HBw := HBx; clear hov HBx; have k1 := ((HB2.out.below HBw.out HGa.out) 1 _ rfl).1; have k3 := ((HB2.out.below HBw.out HGa.out) 3 _ rfl).1; have k4 := ((HB2.out.below HBw.out HGa.out) 4 _ rfl).1; have k7 := ((HB2.out.below HBw.out HGa.out) 7 _ rfl).1; have k8 := ((HB2.out.below HBw.out HGa.out) 8 _ rfl).1; have k9 := ((HB2.out.below HBw.out HGa.out) 9 _ rfl).1; have k10 := ((HB2.out.below HBw.out HGa.out) 10 _ rfl).1))
      have hgoal : argsTo (addIf false (addIf true [] a) b) [x0, x1, x2] m = argsTo (addL ([] : List Int) a) [x0, x1, x2] m := rfl
      go_loopw [3, 4] (fun v ix wr => ∃ q : Nat, q ≤ m ∧ ix = .int .i64 q ∧ Hid (wr.ownsRow wa.heap.size 3 1 v (argsTo (addL ([] : List Int) a) [x0, x1, x2] q).length ((argsTo (addL ([] : List Int) a) [x0, x1, x2] q).map (Value.int .i64))) ∧ Hid (Below wa.heap.size wa wr)) (fun _ ix _ => m - (intOf ix).toNat)
      case atStart => exact ⟨0, Nat.zero_le _, rfl, HO, HBw⟩
      case round =>
        clear HO HBw k1 k3 k4 k7 k8 k9 k10
        obtain ⟨q, hq, rfl, hown, hbr⟩ := hrel
        have k7 := ((HB2.out.below hbr.out HGa.out) 7 _ rfl).1
        by_cases hlt : q < m
        · have hqi : (q : Int) < (m : Int) := by omega
          have hq3 : q < 3 := by omega
          rcases (by omega : q = 0 ∨ q = 1 ∨ q = 2) with rfl | rfl | rfl
          · have kx := ((HB2.out.below hbr.out HGa.out) 8 _ rfl).1
            have hle := argsTo_le (b := (addL ([] : List Int) a)) (by exact Nat.le_trans (addL_length _ _) (by simp)) x0 x1 x2 0 (by omega)
            have HAD := Lib.hid (radd_any wa.heap.size _ _ x0 _ _ hown.out hbr.out.size (by omega) _ rfl)
            clear hle
            go_wp2_with (go_at_call 52; refine HAD.out.mono ?_; rintro e wb ⟨v1, rfl, hov, hbb⟩; have HOv := Lib.hid hov; have HBv := Lib.hid (hbr.out.trans hbb); clear hov hbb)
            go_roundw
            case rel => exact ⟨1, by omega, by go_num, by rw [argsTo_succ _ _ 0 (by simp) x0 rfl]; exact HOv, HBv⟩
            case measure => simp [intOf]; omega
          · have kx := ((HB2.out.below hbr.out HGa.out) 9 _ rfl).1
            have hle := argsTo_le (b := (addL ([] : List Int) a)) (by exact Nat.le_trans (addL_length _ _) (by simp)) x0 x1 x2 1 (by omega)
            have HAD := Lib.hid (radd_any wa.heap.size _ _ x1 _ _ hown.out hbr.out.size (by omega) _ rfl)
            clear hle
            go_wp2_with (go_at_call 52; refine HAD.out.mono ?_; rintro e wb ⟨v1, rfl, hov, hbb⟩; have HOv := Lib.hid hov; have HBv := Lib.hid (hbr.out.trans hbb); clear hov hbb)
            go_roundw
            case rel => exact ⟨2, by omega, by go_num, by rw [argsTo_succ _ _ 1 (by simp) x1 rfl]; exact HOv, HBv⟩
            case measure => simp [intOf]; omega
          · have kx := ((HB2.out.below hbr.out HGa.out) 10 _ rfl).1
            have hle := argsTo_le (b := (addL ([] : List Int) a)) (by exact Nat.le_trans (addL_length _ _) (by simp)) x0 x1 x2 2 (by omega)
            have HAD := Lib.hid (radd_any wa.heap.size _ _ x2 _ _ hown.out hbr.out.size (by omega) _ rfl)
            clear hle
            go_wp2_with (go_at_call 52; refine HAD.out.mono ?_; rintro e wb ⟨v1, rfl, hov, hbb⟩; have HOv := Lib.hid hov; have HBv := Lib.hid (hbr.out.trans hbb); clear hov hbb)
            go_roundw
            case rel => exact ⟨3, by omega, by go_num, by rw [argsTo_succ _ _ 2 (by simp) x2 rfl]; exact HOv, HBv⟩
            case measure => simp [intOf]; omega
        · obtain rfl : q = m := by omega
          go_wp2_with fail
          go_ret
          have HZ := Lib.hid (HW2.out.trans (hbr.out.mono HW2.out.size))
          exact ⟨_, rfl, owns_base hown.out HW2.out.size, HZ.out⟩
    | true =>
      have toka : True := trivial
      have tokb : True := trivial
      go_enter Tryd.func16, Tryd.ntmps16
      go_wp2_with (first | (go_at_call 11; refine (HF.out _).mono ?_; rintro e wa ⟨rfl, hba⟩; have HB2 := Lib.hid (HB.out.below hba HG.out); have HW2 := Lib.hid (HW.out.trans (hba.mono HW.out.size)); clear HB HW HG hba k0 k1 k2 k3 k4 k5 k6 k7 k8 k9 k10; have k1 := (HB2.out 1 _ rfl).1; have k3 := (HB2.out 3 _ rfl).1; have k4 := (HB2.out 4 _ rfl).1; have k7 := (HB2.out 7 _ rfl).1; have k8 := (HB2.out 8 _ rfl).1; have k9 := (HB2.out 9 _ rfl).1; have k10 := (HB2.out 10 _ rfl).1; have HGa := Lib.hid (HB2.out.lt (Nat.zero_lt_succ _)); have HO := Lib.hid (World.ownsRow_nil wa wa.heap.size 3 1); have HBw := Lib.hid (Below.refl wa.heap.size wa)) | (go_at_call 49; refine (HA.out _).mono ?_; rintro e wb ⟨rfl, hbb⟩; have HO' := Lib.hid (owns_keep HO.out hbb); have HBx := Lib.hid (HBw.out.trans (hbb.mono HBw.out.size)); clear HO HBw hbb k1 k3 k4 k7 k8 k9 k10; have HO := HO'; have HBw := HBx; clear HO' HBx; have k1 := ((HB2.out.below HBw.out HGa.out) 1 _ rfl).1; have k3 := ((HB2.out.below HBw.out HGa.out) 3 _ rfl).1; have k4 := ((HB2.out.below HBw.out HGa.out) 4 _ rfl).1; have k7 := ((HB2.out.below HBw.out HGa.out) 7 _ rfl).1; have k8 := ((HB2.out.below HBw.out HGa.out) 8 _ rfl).1; have k9 := ((HB2.out.below HBw.out HGa.out) 9 _ rfl).1; have k10 := ((HB2.out.below HBw.out HGa.out) 10 _ rfl).1) | (go_at_call 50; refine (HBb.out _).mono ?_; rintro e wb ⟨rfl, hbb⟩; have HO' := Lib.hid (owns_keep HO.out hbb); have HBx := Lib.hid (HBw.out.trans (hbb.mono HBw.out.size)); clear HO HBw hbb k1 k3 k4 k7 k8 k9 k10; have HO := HO'; have HBw := HBx; clear HO' HBx; have k1 := ((HB2.out.below HBw.out HGa.out) 1 _ rfl).1; have k3 := ((HB2.out.below HBw.out HGa.out) 3 _ rfl).1; have k4 := ((HB2.out.below HBw.out HGa.out) 4 _ rfl).1; have k7 := ((HB2.out.below HBw.out HGa.out) 7 _ rfl).1; have k8 := ((HB2.out.below HBw.out HGa.out) 8 _ rfl).1; have k9 := ((HB2.out.below HBw.out HGa.out) 9 _ rfl).1; have k10 := ((HB2.out.below HBw.out HGa.out) 10 _ rfl).1) | (have _t := toka; go_at_call 52; clear _t toka; refine (radd_any wa.heap.size _ ([] : List Int) a _ _ HO.out HBw.out.size (by first | decide | (have := addL_length ([] : List Int) a; simp at this; omega)) _ rfl).mono ?_; rintro e wb ⟨v1, rfl, hov, hbb⟩; have HBx := Lib.hid (HBw.out.trans hbb); clear HO HBw hbb k1 k3 k4 k7 k8 k9 k10; have HO := Lib.hid hov; have HBw := HBx; clear hov HBx; have k1 := ((HB2.out.below HBw.out HGa.out) 1 _ rfl).1; have k3 := ((HB2.out.below HBw.out HGa.out) 3 _ rfl).1; have k4 := ((HB2.out.below HBw.out HGa.out) 4 _ rfl).1; have k7 := ((HB2.out.below HBw.out HGa.out) 7 _ rfl).1; have k8 := ((HB2.out.below HBw.out HGa.out) 8 _ rfl).1; have k9 := ((HB2.out.below HBw.out HGa.out) 9 _ rfl).1; have k10 := ((HB2.out.below HBw.out HGa.out) 10 _ rfl).1) | (have _t := tokb; go_at_call 52; clear _t tokb; refine (radd_any wa.heap.size _ (addL ([] : List Int) a) b _ _ HO.out HBw.out.size (by first | decide | (have := addL_length ([] : List Int) a; simp at this; omega)) _ rfl).mono ?_; rintro e wb ⟨v1, rfl, hov, hbb⟩; have HBx := Lib.hid (HBw.out.trans hbb); clear HO HBw hbb k1 k3 k4 k7 k8 k9 k10; have HO := Lib.hid hov; have HBw := HBx; clear hov HBx; have k1 := ((HB2.out.below HBw.out HGa.out) 1 _ rfl).1; have k3 := ((HB2.out.below HBw.out HGa.out) 3 _ rfl).1; have k4 := ((HB2.out.below HBw.out HGa.out) 4 _ rfl).1; have k7 := ((HB2.out.below HBw.out HGa.out) 7 _ rfl).1; have k8 := ((HB2.out.below HBw.out HGa.out) 8 _ rfl).1; have k9 := ((HB2.out.below HBw.out HGa.out) 9 _ rfl).1; have k10 := ((HB2.out.below HBw.out HGa.out) 10 _ rfl).1))
      have hgoal : argsTo (addIf true (addIf true [] a) b) [x0, x1, x2] m = argsTo (addL (addL ([] : List Int) a) b) [x0, x1, x2] m := rfl
      go_loopw [3, 4] (fun v ix wr => ∃ q : Nat, q ≤ m ∧ ix = .int .i64 q ∧ Hid (wr.ownsRow wa.heap.size 3 1 v (argsTo (addL (addL ([] : List Int) a) b) [x0, x1, x2] q).length ((argsTo (addL (addL ([] : List Int) a) b) [x0, x1, x2] q).map (Value.int .i64))) ∧ Hid (Below wa.heap.size wa wr)) (fun _ ix _ => m - (intOf ix).toNat)
      case atStart => exact ⟨0, Nat.zero_le _, rfl, HO, HBw⟩
      case round =>
        clear HO HBw k1 k3 k4 k7 k8 k9 k10
        obtain ⟨q, hq, rfl, hown, hbr⟩ := hrel
        have k7 := ((HB2.out.below hbr.out HGa.out) 7 _ rfl).1
        by_cases hlt : q < m
        · have hqi : (q : Int) < (m : Int) := by omega
          have hq3 : q < 3 := by omega
          rcases (by omega : q = 0 ∨ q = 1 ∨ q = 2) with rfl | rfl | rfl
          · have kx := ((HB2.out.below hbr.out HGa.out) 8 _ rfl).1
            have hle := argsTo_le (b := (addL (addL ([] : List Int) a) b)) (by exact addL_le (addL_le (Nat.le_refl 0))) x0 x1 x2 0 (by omega)
            have HAD := Lib.hid (radd_any wa.heap.size _ _ x0 _ _ hown.out hbr.out.size (by omega) _ rfl)
            clear hle
            go_wp2_with (go_at_call 52; refine HAD.out.mono ?_; rintro e wb ⟨v1, rfl, hov, hbb⟩; have HOv := Lib.hid hov; have HBv := Lib.hid (hbr.out.trans hbb); clear hov hbb)
            go_roundw
            case rel => exact ⟨1, by omega, by go_num, by rw [argsTo_succ _ _ 0 (by simp) x0 rfl]; exact HOv, HBv⟩
            case measure => simp [intOf]; omega
          · have kx := ((HB2.out.below hbr.out HGa.out) 9 _ rfl).1
            have hle := argsTo_le (b := (addL (addL ([] : List Int) a) b)) (by exact addL_le (addL_le (Nat.le_refl 0))) x0 x1 x2 1 (by omega)
            have HAD := Lib.hid (radd_any wa.heap.size _ _ x1 _ _ hown.out hbr.out.size (by omega) _ rfl)
            clear hle
            go_wp2_with (go_at_call 52; refine HAD.out.mono ?_; rintro e wb ⟨v1, rfl, hov, hbb⟩; have HOv := Lib.hid hov; have HBv := Lib.hid (hbr.out.trans hbb); clear hov hbb)
            go_roundw
            case rel => exact ⟨2, by omega, by go_num, by rw [argsTo_succ _ _ 1 (by simp) x1 rfl]; exact HOv, HBv⟩
            case measure => simp [intOf]; omega
          · have kx := ((HB2.out.below hbr.out HGa.out) 10 _ rfl).1
            have hle := argsTo_le (b := (addL (addL ([] : List Int) a) b)) (by exact addL_le (addL_le (Nat.le_refl 0))) x0 x1 x2 2 (by omega)
            have HAD := Lib.hid (radd_any wa.heap.size _ _ x2 _ _ hown.out hbr.out.size (by omega) _ rfl)
            clear hle
            go_wp2_with (go_at_call 52; refine HAD.out.mono ?_; rintro e wb ⟨v1, rfl, hov, hbb⟩; have HOv := Lib.hid hov; have HBv := Lib.hid (hbr.out.trans hbb); clear hov hbb)
            go_roundw
            case rel => exact ⟨3, by omega, by go_num, by rw [argsTo_succ _ _ 2 (by simp) x2 rfl]; exact HOv, HBv⟩
            case measure => simp [intOf]; omega
        · obtain rfl : q = m := by omega
          go_wp2_with fail
          go_ret
          have HZ := Lib.hid (HW2.out.trans (hbr.out.mono HW2.out.size))
          exact ⟨_, rfl, owns_base hown.out HW2.out.size, HZ.out⟩
end Go.Proofs.YtmcbedlmgffckaaDoor.Bi
