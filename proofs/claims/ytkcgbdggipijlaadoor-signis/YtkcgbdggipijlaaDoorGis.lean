import Derived.Test.YtkcgbdggipijlaaDoorSigF
import Derived.Test.YtkcgbdggipijlaaDoorSigN
namespace Go.Proofs.YtkcgbdggipijlaaDoor
open Go Go.RowKit Go.Sort

set_option maxRecDepth 100000 in
set_option maxHeartbeats 8000000 in
theorem is_law (a b c : Int) (v : V) (w : World) (hT : Tabs w) :
    Calls Tryd.prog 3 #[.int .i64 a, .int .i64 b, .int .i64 c, v.val] w fun e w' => e = .returned (.bool true) ∧ Below w.heap.size w w' := by
  have Csa : Hid (∀ W, Tabs W → Calls Tryd.prog 10 #[.int .i64 a] W fun e w' => e = .returned (.bool (decide (0 ≤ a ∧ a ≤ 7))) ∧ Below W.heap.size W w') := fun W hT => gSane_any a W
  have Rsa : Hid (∀ W, Tabs W → Calls Tryd.prog 11 #[.int .i64 a] W fun e w' => e = .returned (.bool (decide (0 ≤ a ∧ a ≤ 7))) ∧ Below W.heap.size W w') := fun W hT => hSane_any a W
  have Cof : Hid (∀ W, Tabs W → Calls Tryd.prog 12 #[.int .i64 c] W fun e w' => e = .returned (.int .i64 (sg c : Nat)) ∧ Below W.heap.size W w') := fun W hT => gOf_any c W
  have Rof : Hid (∀ W, Tabs W → Calls Tryd.prog 13 #[.int .i64 c] W fun e w' => e = .returned (.int .i64 (sg c : Nat)) ∧ Below W.heap.size W w') := fun W hT => hOf_any c W
  have Cjo : Hid (∀ W, Tabs W → Calls Tryd.prog 14 #[.int .i64 a, .int .i64 b] W fun e w' => e = .returned (.int .i64 (sS a ||| sS b : Nat)) ∧ Below W.heap.size W w') := fun W hT => gJoin_any a b W
  have Rjo : Hid (∀ W, Tabs W → Calls Tryd.prog 15 #[.int .i64 a, .int .i64 b] W fun e w' => e = .returned (.int .i64 (sS a ||| sS b : Nat)) ∧ Below W.heap.size W w') := fun W hT => hJoin_any a b W
  have Cle : Hid (∀ W, Tabs W → Calls Tryd.prog 16 #[.int .i64 a, .int .i64 b] W fun e w' => e = .returned (.bool (leqN (sS a) (sS b))) ∧ Below W.heap.size W w') := fun W hT => gLeq_any a b W
  have Rle : Hid (∀ W, Tabs W → Calls Tryd.prog 17 #[.int .i64 a, .int .i64 b] W fun e w' => e = .returned (.bool (leqN (sS a) (sS b))) ∧ Below W.heap.size W w') := fun W hT => hLeq_any a b W
  have Che : Hid (∀ W, Tabs W → Calls Tryd.prog 21 #[.int .i64 a] W fun e w' => e = .returned (.int .i64 ((lst (sS a)).length : Nat)) ∧ Below W.heap.size W w') := fun W hT => gHeight_any a W
  have Rhe : Hid (∀ W, Tabs W → Calls Tryd.prog 22 #[.int .i64 a] W fun e w' => e = .returned (.int .i64 ((lst (sS a)).length : Nat)) ∧ Below W.heap.size W w') := fun W hT => hHeight_any a W
  have Cne : Hid (∀ W, Tabs W → Calls Tryd.prog 23 #[.int .i64 a] W fun e w' => e = .returned (.int .i64 (negN (sS a) : Nat)) ∧ Below W.heap.size W w') := fun W hT => gNeg_any a W hT
  have Rne : Hid (∀ W, Tabs W → Calls Tryd.prog 24 #[.int .i64 a] W fun e w' => e = .returned (.int .i64 (negN (sS a) : Nat)) ∧ Below W.heap.size W w') := fun W hT => hNeg_any a W
  have Cad : Hid (∀ W, Tabs W → Calls Tryd.prog 25 #[.int .i64 a, .int .i64 b] W fun e w' => e = .returned (.int .i64 (addN (sS a) (sS b) : Nat)) ∧ Below W.heap.size W w') := fun W hT => gAdd_any a b W hT
  have Rad : Hid (∀ W, Tabs W → Calls Tryd.prog 26 #[.int .i64 a, .int .i64 b] W fun e w' => e = .returned (.int .i64 (addN (sS a) (sS b) : Nat)) ∧ Below W.heap.size W w') := fun W hT => hAdd_any a b W
  have Csu : Hid (∀ W, Tabs W → Calls Tryd.prog 27 #[.int .i64 a, .int .i64 b] W fun e w' => e = .returned (.int .i64 (subN (sS a) (sS b) : Nat)) ∧ Below W.heap.size W w') := fun W hT => gSub_any a b W hT
  have Rsu : Hid (∀ W, Tabs W → Calls Tryd.prog 28 #[.int .i64 a, .int .i64 b] W fun e w' => e = .returned (.int .i64 (subN (sS a) (sS b) : Nat)) ∧ Below W.heap.size W w') := fun W hT => hSub_any a b W
  have Cmu : Hid (∀ W, Tabs W → Calls Tryd.prog 29 #[.int .i64 a, .int .i64 b] W fun e w' => e = .returned (.int .i64 (mulN (sS a) (sS b) : Nat)) ∧ Below W.heap.size W w') := fun W hT => gMul_any a b W hT
  have Rmu : Hid (∀ W, Tabs W → Calls Tryd.prog 30 #[.int .i64 a, .int .i64 b] W fun e w' => e = .returned (.int .i64 (mulN (sS a) (sS b) : Nat)) ∧ Below W.heap.size W w') := fun W hT => hMul_any a b W
  have Cfr : Hid (∀ W, Tabs W → Calls Tryd.prog 31 #[v.val] W fun e w' => e = .returned (.int .i64 (fromV v : Nat)) ∧ Below W.heap.size W w') := fun W hT => gFrom_any v W
  have Rfr : Hid (∀ W, Tabs W → Calls Tryd.prog 32 #[v.val] W fun e w' => e = .returned (.int .i64 (fromV v : Nat)) ∧ Below W.heap.size W w') := fun W hT => hFrom_any v W
  have GL : Hid (∀ W, Calls Tryd.prog 19 #[.int .i64 a] W fun e w' => ∃ u, e = .returned u ∧ w'.ownsRow W.heap.size 3 1 u (lst (sS a)).length ((lst (sS a)).map (Value.int .i64)) ∧ Below W.heap.size W w') := fun W => gList_any a W
  have HL : Hid (∀ W, Calls Tryd.prog 20 #[.int .i64 a] W fun e w' => ∃ u, e = .returned u ∧ w'.ownsRow W.heap.size 3 1 u (lst (sS a)).length ((lst (sS a)).map (Value.int .i64)) ∧ Below W.heap.size W w') := fun W => hList_any a W
  have h3 := lst_len (sS a)
  generalize lst (sS a) = l at *
  obtain ⟨T, hTl⟩ : ∃ T, l.length = T := ⟨_, rfl⟩
  have HN : Hid (∀ a1 a2 c1 c2 W, Is W.heap.size W a1 l → Is W.heap.size W a2 l → Calls Tryd.prog 18 #[.slice a1 T c1, .slice a2 T c2] W fun e w' => e = .returned (.bool true) ∧ Below W.heap.size W w') := fun a1 a2 c1 c2 W h1 h2 => by
    have h := Ints_ref a1 a2 l l c1 c2 W h1 h2 (by omega)
    rw [hTl, decide_eq_true rfl] at h
    exact h
  rw [hTl] at GL HL Che Rhe h3
  clear hTl
  generalize (decide (0 ≤ a ∧ a ≤ 7)) = ds at *
  generalize sg c = oc at *
  generalize sS a ||| sS b = jn at *
  generalize leqN (sS a) (sS b) = lq at *
  generalize negN (sS a) = nn at *
  generalize addN (sS a) (sS b) = an at *
  generalize subN (sS a) (sS b) = sn at *
  generalize mulN (sS a) (sS b) = mn at *
  generalize fromV v = fv at *
  unfold V.val at *
  have hbb1 : (ds != ds) = false := by simp
  have hbb2 : (lq != lq) = false := by simp
  have HT := Lib.hid hT
  clear hT
  have HAW := Lib.hid gawake_any
  have BV := (Box.new w (.int .i64 v.k) (.int .i64 v.c) 23)
  have hW := below1 w (.cells #[.int .i64 v.k, .int .i64 v.c] 23)
  generalize hE : (w.alloc (.cells #[.int .i64 v.k, .int .i64 v.c] 23)) = W0 at *
  have HV := Lib.hid BV
  have HBN := Lib.hid hW
  clear hW BV
  have TT := HT.out.on HBN.out; clear HT; have HT := Lib.hid TT; clear TT
  go_enter Tryd.func3, Tryd.ntmps3
  go_wp2_with fail
  refine (HAW.out _ HT.out).mono ?_
  clear HAW hE
  rintro e w1 ⟨rfl, hb⟩
  have TT := HV.out.below hb HV.out.lt; clear HV; have HV := Lib.hid TT; clear TT
  have TT := HT.out.on hb; clear HT; have HT := Lib.hid TT; clear TT
  have TT := HBN.out.trans (hb.mono HBN.out.size); clear HBN; have HBN := Lib.hid TT; clear TT hb
  go_wp2_with (first
    | (go_at_call 10; with_reducible refine (Csa.out _ HT.out).mono ?_; rintro e wn ⟨rfl, hbn⟩; have TT := HV.out.below hbn HV.out.lt; clear HV; have HV := Lib.hid TT; clear TT; have hbt := HT.out.on hbn; clear HT; have HT := Lib.hid hbt; clear hbt; have hbx := HBN.out.trans (hbn.mono HBN.out.size); clear HBN hbn; have HBN := Lib.hid hbx; clear hbx)
    | (go_at_call 11; with_reducible refine (Rsa.out _ HT.out).mono ?_; rintro e wn ⟨rfl, hbn⟩; have TT := HV.out.below hbn HV.out.lt; clear HV; have HV := Lib.hid TT; clear TT; have hbt := HT.out.on hbn; clear HT; have HT := Lib.hid hbt; clear hbt; have hbx := HBN.out.trans (hbn.mono HBN.out.size); clear HBN hbn; have HBN := Lib.hid hbx; clear hbx)
    | (go_at_call 12; with_reducible refine (Cof.out _ HT.out).mono ?_; rintro e wn ⟨rfl, hbn⟩; have TT := HV.out.below hbn HV.out.lt; clear HV; have HV := Lib.hid TT; clear TT; have hbt := HT.out.on hbn; clear HT; have HT := Lib.hid hbt; clear hbt; have hbx := HBN.out.trans (hbn.mono HBN.out.size); clear HBN hbn; have HBN := Lib.hid hbx; clear hbx)
    | (go_at_call 13; with_reducible refine (Rof.out _ HT.out).mono ?_; rintro e wn ⟨rfl, hbn⟩; have TT := HV.out.below hbn HV.out.lt; clear HV; have HV := Lib.hid TT; clear TT; have hbt := HT.out.on hbn; clear HT; have HT := Lib.hid hbt; clear hbt; have hbx := HBN.out.trans (hbn.mono HBN.out.size); clear HBN hbn; have HBN := Lib.hid hbx; clear hbx)
    | (go_at_call 14; with_reducible refine (Cjo.out _ HT.out).mono ?_; rintro e wn ⟨rfl, hbn⟩; have TT := HV.out.below hbn HV.out.lt; clear HV; have HV := Lib.hid TT; clear TT; have hbt := HT.out.on hbn; clear HT; have HT := Lib.hid hbt; clear hbt; have hbx := HBN.out.trans (hbn.mono HBN.out.size); clear HBN hbn; have HBN := Lib.hid hbx; clear hbx)
    | (go_at_call 15; with_reducible refine (Rjo.out _ HT.out).mono ?_; rintro e wn ⟨rfl, hbn⟩; have TT := HV.out.below hbn HV.out.lt; clear HV; have HV := Lib.hid TT; clear TT; have hbt := HT.out.on hbn; clear HT; have HT := Lib.hid hbt; clear hbt; have hbx := HBN.out.trans (hbn.mono HBN.out.size); clear HBN hbn; have HBN := Lib.hid hbx; clear hbx)
    | (go_at_call 16; with_reducible refine (Cle.out _ HT.out).mono ?_; rintro e wn ⟨rfl, hbn⟩; have TT := HV.out.below hbn HV.out.lt; clear HV; have HV := Lib.hid TT; clear TT; have hbt := HT.out.on hbn; clear HT; have HT := Lib.hid hbt; clear hbt; have hbx := HBN.out.trans (hbn.mono HBN.out.size); clear HBN hbn; have HBN := Lib.hid hbx; clear hbx)
    | (go_at_call 17; with_reducible refine (Rle.out _ HT.out).mono ?_; rintro e wn ⟨rfl, hbn⟩; have TT := HV.out.below hbn HV.out.lt; clear HV; have HV := Lib.hid TT; clear TT; have hbt := HT.out.on hbn; clear HT; have HT := Lib.hid hbt; clear hbt; have hbx := HBN.out.trans (hbn.mono HBN.out.size); clear HBN hbn; have HBN := Lib.hid hbx; clear hbx)
    | (go_at_call 21; with_reducible refine (Che.out _ HT.out).mono ?_; rintro e wn ⟨rfl, hbn⟩; have TT := HV.out.below hbn HV.out.lt; clear HV; have HV := Lib.hid TT; clear TT; have hbt := HT.out.on hbn; clear HT; have HT := Lib.hid hbt; clear hbt; have hbx := HBN.out.trans (hbn.mono HBN.out.size); clear HBN hbn; have HBN := Lib.hid hbx; clear hbx)
    | (go_at_call 22; with_reducible refine (Rhe.out _ HT.out).mono ?_; rintro e wn ⟨rfl, hbn⟩; have TT := HV.out.below hbn HV.out.lt; clear HV; have HV := Lib.hid TT; clear TT; have hbt := HT.out.on hbn; clear HT; have HT := Lib.hid hbt; clear hbt; have hbx := HBN.out.trans (hbn.mono HBN.out.size); clear HBN hbn; have HBN := Lib.hid hbx; clear hbx)
    | (go_at_call 19; refine (GL.out _).mono ?_; rintro e wn ⟨u, rfl, hown, hbn⟩; obtain ⟨a1, c1, rfl, -, hIs⟩ := is_of_ints hown; have HI1 := Lib.hid hIs; clear hown hIs; have TT := HV.out.below hbn HV.out.lt; clear HV; have HV := Lib.hid TT; clear TT; have hbt := HT.out.on hbn; clear HT; have HT := Lib.hid hbt; clear hbt; have hbx := HBN.out.trans (hbn.mono HBN.out.size); clear HBN hbn; have HBN := Lib.hid hbx; clear hbx)
    | (go_at_call 20; refine (HL.out _).mono ?_; rintro e wn ⟨u, rfl, hown, hbn⟩; obtain ⟨a2, c2, rfl, -, hIs⟩ := is_of_ints hown; have HI2 := Lib.hid hIs; clear hown hIs; have TT := (HI1.out.below hbn).mono hbn.size; clear HI1; have HI1 := Lib.hid TT; clear TT; have TT := HV.out.below hbn HV.out.lt; clear HV; have HV := Lib.hid TT; clear TT; have hbt := HT.out.on hbn; clear HT; have HT := Lib.hid hbt; clear hbt; have hbx := HBN.out.trans (hbn.mono HBN.out.size); clear HBN hbn; have HBN := Lib.hid hbx; clear hbx)
    | (go_at_call 18; refine (HN.out _ _ _ _ _ HI1.out HI2.out).mono ?_; rintro e wn ⟨rfl, hbn⟩; have TT := HV.out.below hbn HV.out.lt; clear HV; have HV := Lib.hid TT; clear TT; have hbt := HT.out.on hbn; clear HT; have HT := Lib.hid hbt; clear hbt; have hbx := HBN.out.trans (hbn.mono HBN.out.size); clear HBN hbn; have HBN := Lib.hid hbx; clear hbx))
  clear hbb1 hbb2 GL HL HN HI1 HI2 h3 Csa Rsa Cof Rof Cjo Rjo Cle Rle Che Rhe
  have kV0 := cell_regrown HV.out.c0
  have kV1 := cell_regrown HV.out.c1
  have q0 := fun d os => Calls.regrown_of (Cne.out (grow (redrawn wn d) os) (HT.out.on (below_regrown wn d os)))
  have q1 := fun d os => Calls.regrown_of (Rne.out (grow (redrawn wn d) os) (HT.out.on (below_regrown wn d os)))
  have q2 := fun d os => Calls.regrown_of (Cad.out (grow (redrawn wn d) os) (HT.out.on (below_regrown wn d os)))
  have q3 := fun d os => Calls.regrown_of (Rad.out (grow (redrawn wn d) os) (HT.out.on (below_regrown wn d os)))
  have q4 := fun d os => Calls.regrown_of (Csu.out (grow (redrawn wn d) os) (HT.out.on (below_regrown wn d os)))
  have q5 := fun d os => Calls.regrown_of (Rsu.out (grow (redrawn wn d) os) (HT.out.on (below_regrown wn d os)))
  have q6 := fun d os => Calls.regrown_of (Cmu.out (grow (redrawn wn d) os) (HT.out.on (below_regrown wn d os)))
  have q7 := fun d os => Calls.regrown_of (Rmu.out (grow (redrawn wn d) os) (HT.out.on (below_regrown wn d os)))
  have q8 := fun d os => Calls.regrown_of (Cfr.out (grow (redrawn wn d) os) (HT.out.on (below_regrown wn d os)))
  have q9 := fun d os => Calls.regrown_of (Rfr.out (grow (redrawn wn d) os) (HT.out.on (below_regrown wn d os)))
  try simp only [List.append_eq, List.cons_append, List.nil_append]
  refine wp_region_quiet_below (by kernel_rfl) (by kernel_rfl) ?_
  repeat (first | go_big_quiet_step (first | with_reducible exact q0 _ _ | with_reducible exact q1 _ _ | with_reducible exact q2 _ _ | with_reducible exact q3 _ _ | with_reducible exact q4 _ _ | with_reducible exact q5 _ _ | with_reducible exact q6 _ _ | with_reducible exact q7 _ _ | with_reducible exact q8 _ _ | with_reducible exact q9 _ _) | quiet_step (first | with_reducible exact q0 _ _ | with_reducible exact q1 _ _ | with_reducible exact q2 _ _ | with_reducible exact q3 _ _ | with_reducible exact q4 _ _ | with_reducible exact q5 _ _ | with_reducible exact q6 _ _ | with_reducible exact q7 _ _ | with_reducible exact q8 _ _ | with_reducible exact q9 _ _))
  refine wpQuiet_nil ?_
  intro _ hw'
  obtain ⟨⟨dq, osq⟩, hw''⟩ := hw'
  subst hw''
  have hb := below_regrown wn dq osq
  clear kV0 kV1 q0 q1 q2 q3 q4 q5 q6 q7 q8 q9
  have TT := HV.out.below hb HV.out.lt; clear HV; have HV := Lib.hid TT; clear TT
  have TT := HT.out.on hb; clear HT; have HT := Lib.hid TT; clear TT
  have TT := HBN.out.trans (hb.mono HBN.out.size); clear HBN; have HBN := Lib.hid TT; clear TT hb
  generalize grow (redrawn wn dq) osq = W1q at *
  go_wp2_with fail
  go_ret
  exact ⟨rfl, HBN.out⟩
end Go.Proofs.YtkcgbdggipijlaaDoor
