/- Instructions: what number what they set becomes. -/
import Derived.Deep.RegionHeld3
import Derived.Deep.DeepCutAuto
import Derived.Test.YtmcbedlmgffckaaGreatDoorLate
import Derived.Test.YtmcbedlmgffckaaGreatDoorInsD
import Derived.Test.YtmcbedlmgffckaaGreatDoorInsQ
import Derived.Test.YtmcbedlmgffckaaGreatDoorEnvY
import Derived.Test.YtmcbedlmgffckaaGreatDoorFlaG
namespace Go.Proofs.YtmcbedlmgffckaaGreatDoor
open Go Go.RowKit Go.Sort

theorem below_al {W X : World} (h : Below W.heap.size W X) (o : Obj) : Below W.heap.size W (X.alloc o) := h.alloc h.size o
theorem below_nx {W X Y : World} (h : Below W.heap.size W X) (hb : Below X.heap.size X Y) : Below W.heap.size W Y := h.trans (hb.mono h.size)
theorem Box.nx {X Y : World} {b : Nat} {x y : Value} (h : Box X b x y) (hb : Below X.heap.size X Y) : Box Y b x y := h.below hb h.lt
/-- What is to be shown of an operation that is picked. -/
def PickE (P : Program) (md : Region.Mode) (ops : Array Oper) (Q : Exit → Act → World → Prop) (S : World → Prop) (n0 fuel : Nat) (listed : Array Bool) (i : Nat) (o : Oper) (a : Act) (w : World) : Prop :=
  ∀ K : Act → World → Prop, Shut (∀ a' w', S w' → (S w' → wpAnyE P md ops Q S n0 fuel (listed.setIfInBounds i true) a' w') → K a' w') → if Region.wanted o (yielded ops a.tmps) = true then Oper.wp P o a w K Q else K (a.put o.dst undef) w
theorem PickE.op {P : Program} {md : Region.Mode} {ops : Array Oper} {Q : Exit → Act → World → Prop} {S : World → Prop} {n0 fuel : Nat} {listed : Array Bool} {i : Nat} {o : Oper} {a : Act} {w : World} (ho : ops[i]? = some o) (h : PickE P md ops Q S n0 fuel listed i o a w) :
    wpOp P ops Q i (fun a' w' => (n0 ≤ i ∨ S w') ∧ wpAnyE P md ops Q S n0 fuel (listed.setIfInBounds i true) a' w') a w :=
  wpOp_step ho (fun K' hK => h K' (fun a w hS hW => hK a w ⟨.inr hS, hW hS⟩))
/-- Two, three that may come up: each is run. -/
theorem wpAnyE_fork2 {P : Program} {md : Region.Mode} {ops : Array Oper} {Q : Exit → Act → World → Prop} {S : World → Prop} {n0 fuel : Nat} {listed : Array Bool} {a : Act} {w : World} {i j : Nat} {oi oj : Oper} (hr : Region.ready md ops listed = [i, j]) (hi : ops[i]? = some oi) (hj : ops[j]? = some oj)
    (h1 : PickE P md ops Q S n0 fuel listed i oi a w) (h2 : PickE P md ops Q S n0 fuel listed j oj a w) : wpAnyE P md ops Q S n0 (fuel + 1) listed a w := by
  refine ⟨fun h0 => (by rw [hr] at h0; cases h0), fun q hq => ?_⟩
  rw [hr] at hq
  simp only [List.mem_cons, List.not_mem_nil, or_false] at hq
  rcases hq with rfl | rfl
  · exact h1.op hi
  · exact h2.op hj
theorem wpAnyE_fork3 {P : Program} {md : Region.Mode} {ops : Array Oper} {Q : Exit → Act → World → Prop} {S : World → Prop} {n0 fuel : Nat} {listed : Array Bool} {a : Act} {w : World} {i j k : Nat} {oi oj ok : Oper} (hr : Region.ready md ops listed = [i, j, k]) (hi : ops[i]? = some oi) (hj : ops[j]? = some oj) (hk : ops[k]? = some ok)
    (h1 : PickE P md ops Q S n0 fuel listed i oi a w) (h2 : PickE P md ops Q S n0 fuel listed j oj a w) (h3 : PickE P md ops Q S n0 fuel listed k ok a w) : wpAnyE P md ops Q S n0 (fuel + 1) listed a w := by
  refine ⟨fun h0 => (by rw [hr] at h0; cases h0), fun q hq => ?_⟩
  rw [hr] at hq
  simp only [List.mem_cons, List.not_mem_nil, or_false] at hq
  rcases hq with rfl | rfl | rfl
  · exact h1.op hi
  · exact h2.op hj
  · exact h3.op hk

set_option maxRecDepth 100000 in
set_option maxHeartbeats 16000000 in
theorem numberOf_any (on : Bool) (a : Option Addr) (n cap : Nat) (l : List V) (i : Ins) (w : World) (h : FE w a n l) (r : V) (hr : valF on l i = r) :
    Calls Tryz.prog 21 #[.agg #[.bool on, .slice a n cap], i.val] w fun e w' => e = .returned r.val ∧ Below w.heap.size w w' := by
  obtain ⟨hIs, hn⟩ := h
  have hb3 := below3 w (.cells #[.bool on, .slice a n cap] 36) (.cells i.cells.toArray 30) (.cells #[.int .i64 0, .int .i64 0] 54)
  have BE := ((Box.new w (.bool on) (.slice a n cap) 36).alloc (.cells i.cells.toArray 30)).alloc (.cells #[.int .i64 0, .int .i64 0] 54)
  have BI := (BoxL.new (w.alloc (.cells #[.bool on, .slice a n cap] 36)) i.cells 30).alloc (Nat.zero_lt_succ _) (.cells #[.int .i64 0, .int .i64 0] 54)
  have BR := Box.new ((w.alloc (.cells #[.bool on, .slice a n cap] 36)).alloc (.cells i.cells.toArray 30)) (.int .i64 0) (.int .i64 0) 54
  have hsz : (((w.alloc (.cells #[.bool on, .slice a n cap] 36)).alloc (.cells i.cells.toArray 30)).alloc (.cells #[.int .i64 0, .int .i64 0] 54)).heap.size = w.heap.size + 3 := by simp
  simp only [World.size_alloc] at BI BR
  have HG := Lib.hid (fun j W (hb : Below w.heap.size w W) => (by have := GetF_any on a l cap j W ((hIs.below hb).mono hb.size); rw [hn] at this; exact this : Calls Tryz.prog 37 #[.agg #[.bool on, .slice a n cap], .int .i64 j] W fun e w' => e = .returned (atG vbot on l j).sn.val ∧ Below W.heap.size W w'))
  have HR : Hid (valF on l i = r) := hr
  unfold valF at HR
  obtain ⟨ua, hua⟩ : ∃ u, (atG vbot on l i.a).sn = u := ⟨_, rfl⟩
  obtain ⟨ub, hub⟩ : ∃ u, (atG vbot on l i.b).sn = u := ⟨_, rfl⟩
  have HGA := Lib.hid (fun W hb => HG.out i.a W hb)
  have HGB := Lib.hid (fun W hb => HG.out i.b W hb)
  rw [hua] at HR HGA
  rw [hub] at HR HGB
  obtain ⟨id, kind, dst, va, vb, c, f, n', x0, x1, x2⟩ := i
  obtain ⟨ak, ac⟩ := ua
  obtain ⟨bk, bc⟩ := ub
  unfold Ins.val at *
  unfold Ins.cells at *
  unfold V.val at *
  dsimp only at *
  generalize hE : ((w.alloc (.cells #[.bool on, .slice a n cap] 36)).alloc (.cells (List.toArray [.int .i64 id, .int .i64 kind, .int .i64 dst, .int .i64 va, .int .i64 vb, .int .i64 c, .int .i64 f, .int .i64 n', .int .i64 x0, .int .i64 x1, .int .i64 x2]) 30)).alloc (.cells #[.int .i64 0, .int .i64 0] 54) = W at *
  have hE' : ((w.alloc (.cells #[.bool on, .slice a n cap] 36)).alloc (.cells #[.int .i64 id, .int .i64 kind, .int .i64 dst, .int .i64 va, .int .i64 vb, .int .i64 c, .int .i64 f, .int .i64 n', .int .i64 x0, .int .i64 x1, .int .i64 x2] 30)).alloc (.cells #[.int .i64 0, .int .i64 0] 54) = W := hE
  have HW := Lib.hid hb3
  have HBE := Lib.hid BE
  have HBI := Lib.hid BI
  have HBR := Lib.hid BR
  clear hE hb3 BE BI BR hr hIs hn hua hub HG
  go_enter Tryz.func21, Tryz.ntmps21
  go_upto_region 1 with fail
  try rw [hE']
  clear hE'
  go_cut [5, 6] (fun s5 s6 wx => ∃ b5 b6, s5 = .pointer (some ⟨b5, 0, none⟩) ∧ s6 = .pointer (some ⟨b6, 0, none⟩) ∧ Hid (Box wx b5 (.int .i64 ak) (.int .i64 ac)) ∧ Hid (Box wx b6 (.int .i64 bk) (.int .i64 bc)) ∧ Hid (Below W.heap.size W wx))
  case first =>
    have hS : Hid (∀ w', Below W.heap.size W w' → w'.cell? ⟨w.heap.size, 0, none⟩ = some (.bool on) ∧ w'.cell? ⟨w.heap.size, 1, none⟩ = some (.slice a n cap) ∧ w'.cell? ⟨w.heap.size + 1, 3, none⟩ = some (.int .i64 va) ∧ w'.cell? ⟨w.heap.size + 1, 4, none⟩ = some (.int .i64 vb)) := fun w' hb' => ⟨(HBE.out.below hb' HBE.out.lt).c0, (HBE.out.below hb' HBE.out.lt).c1, ((HBI.out.below hb' (HBI.out.lt (Nat.zero_lt_succ _))) 3 _ rfl).1, ((HBI.out.below hb' (HBI.out.lt (Nat.zero_lt_succ _))) 4 _ rfl).1⟩
    have HBN : Hid (Below W.heap.size W W.drew) := (Below.refl _ _).drew
    refine wp_region_late (fun w' => w'.cell? ⟨w.heap.size, 0, none⟩ = some (.bool on) ∧ w'.cell? ⟨w.heap.size, 1, none⟩ = some (.slice a n cap) ∧ w'.cell? ⟨w.heap.size + 1, 3, none⟩ = some (.int .i64 va) ∧ w'.cell? ⟨w.heap.size + 1, 4, none⟩ = some (.int .i64 vb)) 11 (by kernel_rfl) (hS.out _ HBN.out) (fun hHeld => ?_)
    generalize W.drew = Wd at *
    refine wpAnyE_take (i := 0) (v := ?v0) rfl (by kernel_rfl) (fun _ _ _ h => h) hHeld (by rfl) ?y0 ?_
    case y0 => (intro w' hSw; (try dsimp only at hSw); go_simp <;> with_reducible rfl)
    refine wpAnyE_take (i := 1) (v := ?v1) rfl (by kernel_rfl) (fun _ _ _ h => h) hHeld (by rfl) ?y1 ?_
    case y1 => (intro w' hSw; (try dsimp only at hSw); go_simp <;> with_reducible rfl)
    refine wpAnyE_take (i := 2) (v := ?v2) rfl (by kernel_rfl) (fun _ _ _ h => h) hHeld (by rfl) ?y2 ?_
    case y2 => (intro w' hSw; (try dsimp only at hSw); go_simp <;> with_reducible rfl)
    refine wpAnyE_take (i := 4) (v := ?v4) rfl (by kernel_rfl) (fun _ _ _ h => h) hHeld (by rfl) ?y4 ?_
    case y4 => (intro w' hSw; (try dsimp only at hSw); go_simp <;> with_reducible rfl)
    refine wpAnyE_take (i := 5) (v := ?v5) rfl (by kernel_rfl) (fun _ _ _ h => h) hHeld (by rfl) ?y5 ?_
    case y5 => (intro w' hSw; (try dsimp only at hSw); go_simp <;> with_reducible rfl)
    refine wpAnyE_take (i := 6) (v := ?v6) rfl (by kernel_rfl) (fun _ _ _ h => h) hHeld (by rfl) ?y6 ?_
    case y6 => (intro w' hSw; (try dsimp only at hSw); go_simp <;> with_reducible rfl)
    refine wpAnyE_fork3 (i := 3) (j := 8) (k := 9) (by kernel_rfl) rfl rfl rfl (fun K hK => ?_) (fun K hK => ?_) (fun K hK => ?_) 
    · skip
      go_simp
      go_at_call 37
      refine Calls.mono (HGA.out _ (HW.out.trans (HBN.out.mono HW.out.size))) ?_
      rintro e w1 ⟨rfl, hbn⟩
      have HBx : Hid (Below W.heap.size W w1) := below_nx HBN.out hbn
      clear HBN hbn
      have HBN := HBx
      clear HBx
      refine hK.out _ _ ?_ (fun hHeld => ?_)
      · exact hS.out _ HBN.out
      clear hK K
      refine wpAnyE_fork3 (i := 7) (j := 8) (k := 9) (by kernel_rfl) rfl rfl rfl (fun K hK => ?_) (fun K hK => ?_) (fun K hK => ?_) 
      · skip
        go_simp
        go_at_call 37
        refine Calls.mono (HGB.out _ (HW.out.trans (HBN.out.mono HW.out.size))) ?_
        rintro e w2 ⟨rfl, hbn⟩
        have HBx : Hid (Below W.heap.size W w2) := below_nx HBN.out hbn
        clear HBN hbn
        have HBN := HBx
        clear HBx
        refine hK.out _ _ ?_ (fun hHeld => ?_)
        · exact hS.out _ HBN.out
        clear hK K
        refine wpAnyE_fork2 (i := 8) (j := 9) (by kernel_rfl) rfl rfl (fun K hK => ?_) (fun K hK => ?_) 
        · skip
          go_simp
          refine hK.out _ _ ?_ (fun hHeld => ?_)
          · exact hS.out _ (below_al HBN.out _)
          clear hK K
          have HL8 : Hid (W.heap.size ≤ w2.heap.size) := HBN.out.size
          have HX8 := Lib.hid (Box.new w2 (.int .i64 0) (.int .i64 0) 54)
          have HBx := Lib.hid (below_al HBN.out (.cells #[.int .i64 0, .int .i64 0] 54))
          clear HBN
          have HBN := HBx
          clear HBx
          obtain ⟨b8, hb8⟩ : ∃ b, w2.heap.size = b := ⟨_, rfl⟩
          rw [hb8] at HL8 HX8 ⊢
          clear hb8
          generalize w2.alloc (.cells #[.int .i64 0, .int .i64 0] 54) = X2 at *
          refine wpAnyE_one (i := 9) (by kernel_rfl) rfl (fun K hK => ?_)
          go_simp
          refine hK.out _ _ ?_ (fun hHeld => ?_)
          · exact hS.out _ (below_al HBN.out _)
          clear hK K
          have HL9 : Hid (W.heap.size ≤ X2.heap.size) := HBN.out.size
          have HNE : Hid (b8 ≠ X2.heap.size) := by have h := HX8.out.lt; show _ ≠ _; omega
          have HXx := Lib.hid (Box.alloc HX8.out (.cells #[.int .i64 0, .int .i64 0] 54))
          clear HX8
          have HX8 := HXx
          clear HXx
          have HX9 := Lib.hid (Box.new X2 (.int .i64 0) (.int .i64 0) 54)
          have HBx := Lib.hid (below_al HBN.out (.cells #[.int .i64 0, .int .i64 0] 54))
          clear HBN
          have HBN := HBx
          clear HBx
          obtain ⟨b9, hb9⟩ : ∃ b, X2.heap.size = b := ⟨_, rfl⟩
          rw [hb9] at HL9 HX9 HNE ⊢
          clear hb9
          generalize X2.alloc (.cells #[.int .i64 0, .int .i64 0] 54) = X3 at *
          have HN1 : Hid (b8 ≠ b9) := by first | exact HNE.out | exact HNE.out.symm
          refine wpAnyE_one (i := 10) (by kernel_rfl) rfl (fun K hK => ?_)
          obtain ⟨p0, p1, f0, f1⟩ := HX8.out
          go_simp
          refine hK.out _ _ ?_ (fun hHeld => ?_)
          · exact hS.out _ (below_put2 HBN.out HL8.out _ _)
          clear hK K p0 p1 f0 f1
          have HY8 := Lib.hid (HX8.out.put (.int .i64 ak) (.int .i64 ac))
          have HY9 := Lib.hid (HX9.out.other HN1.out.symm (.int .i64 ak) (.int .i64 ac))
          have HBx := Lib.hid (below_put2 HBN.out HL8.out (.int .i64 ak) (.int .i64 ac))
          generalize (X3.setCell ⟨b8, 0, none⟩ (.int .i64 ak)).setCell ⟨b8, 1, none⟩ (.int .i64 ac) = Y at *
          refine wpAnyE_tail 11 (by decide) rfl (by kernel_rfl) ?_
          simp only [List.drop_succ_cons, List.drop_zero]
          obtain ⟨p0, p1, f0, f1⟩ := HY9.out
          go_wp2_with fail
          go_meet
          exact ⟨b8, b9, rfl, rfl, HY8.out.other HN1.out _ _, HY9.out.put _ _, below_put2 HBx.out HL9.out _ _⟩
        · skip
          go_simp
          refine hK.out _ _ ?_ (fun hHeld => ?_)
          · exact hS.out _ (below_al HBN.out _)
          clear hK K
          have HL9 : Hid (W.heap.size ≤ w2.heap.size) := HBN.out.size
          have HX9 := Lib.hid (Box.new w2 (.int .i64 0) (.int .i64 0) 54)
          have HBx := Lib.hid (below_al HBN.out (.cells #[.int .i64 0, .int .i64 0] 54))
          clear HBN
          have HBN := HBx
          clear HBx
          obtain ⟨b9, hb9⟩ : ∃ b, w2.heap.size = b := ⟨_, rfl⟩
          rw [hb9] at HL9 HX9 ⊢
          clear hb9
          generalize w2.alloc (.cells #[.int .i64 0, .int .i64 0] 54) = X2 at *
          refine wpAnyE_one (i := 8) (by kernel_rfl) rfl (fun K hK => ?_)
          go_simp
          refine hK.out _ _ ?_ (fun hHeld => ?_)
          · exact hS.out _ (below_al HBN.out _)
          clear hK K
          have HL8 : Hid (W.heap.size ≤ X2.heap.size) := HBN.out.size
          have HNE : Hid (b9 ≠ X2.heap.size) := by have h := HX9.out.lt; show _ ≠ _; omega
          have HXx := Lib.hid (Box.alloc HX9.out (.cells #[.int .i64 0, .int .i64 0] 54))
          clear HX9
          have HX9 := HXx
          clear HXx
          have HX8 := Lib.hid (Box.new X2 (.int .i64 0) (.int .i64 0) 54)
          have HBx := Lib.hid (below_al HBN.out (.cells #[.int .i64 0, .int .i64 0] 54))
          clear HBN
          have HBN := HBx
          clear HBx
          obtain ⟨b8, hb8⟩ : ∃ b, X2.heap.size = b := ⟨_, rfl⟩
          rw [hb8] at HL8 HX8 HNE ⊢
          clear hb8
          generalize X2.alloc (.cells #[.int .i64 0, .int .i64 0] 54) = X3 at *
          have HN1 : Hid (b8 ≠ b9) := by first | exact HNE.out | exact HNE.out.symm
          refine wpAnyE_one (i := 10) (by kernel_rfl) rfl (fun K hK => ?_)
          obtain ⟨p0, p1, f0, f1⟩ := HX8.out
          go_simp
          refine hK.out _ _ ?_ (fun hHeld => ?_)
          · exact hS.out _ (below_put2 HBN.out HL8.out _ _)
          clear hK K p0 p1 f0 f1
          have HY8 := Lib.hid (HX8.out.put (.int .i64 ak) (.int .i64 ac))
          have HY9 := Lib.hid (HX9.out.other HN1.out.symm (.int .i64 ak) (.int .i64 ac))
          have HBx := Lib.hid (below_put2 HBN.out HL8.out (.int .i64 ak) (.int .i64 ac))
          generalize (X3.setCell ⟨b8, 0, none⟩ (.int .i64 ak)).setCell ⟨b8, 1, none⟩ (.int .i64 ac) = Y at *
          refine wpAnyE_tail 11 (by decide) rfl (by kernel_rfl) ?_
          simp only [List.drop_succ_cons, List.drop_zero]
          obtain ⟨p0, p1, f0, f1⟩ := HY9.out
          go_wp2_with fail
          go_meet
          exact ⟨b8, b9, rfl, rfl, HY8.out.other HN1.out _ _, HY9.out.put _ _, below_put2 HBx.out HL9.out _ _⟩
      · skip
        go_simp
        refine hK.out _ _ ?_ (fun hHeld => ?_)
        · exact hS.out _ (below_al HBN.out _)
        clear hK K
        have HL8 : Hid (W.heap.size ≤ w1.heap.size) := HBN.out.size
        have HX8 := Lib.hid (Box.new w1 (.int .i64 0) (.int .i64 0) 54)
        have HBx := Lib.hid (below_al HBN.out (.cells #[.int .i64 0, .int .i64 0] 54))
        clear HBN
        have HBN := HBx
        clear HBx
        obtain ⟨b8, hb8⟩ : ∃ b, w1.heap.size = b := ⟨_, rfl⟩
        rw [hb8] at HL8 HX8 ⊢
        clear hb8
        generalize w1.alloc (.cells #[.int .i64 0, .int .i64 0] 54) = X1 at *
        refine wpAnyE_fork2 (i := 7) (j := 9) (by kernel_rfl) rfl rfl (fun K hK => ?_) (fun K hK => ?_) 
        · skip
          go_simp
          go_at_call 37
          refine Calls.mono (HGB.out _ (HW.out.trans (HBN.out.mono HW.out.size))) ?_
          rintro e w2 ⟨rfl, hbn⟩
          have HBx : Hid (Below W.heap.size W w2) := below_nx HBN.out hbn
          have HXx := Lib.hid (Box.nx HX8.out hbn)
          clear HX8
          have HX8 := HXx
          clear HXx
          clear HBN hbn
          have HBN := HBx
          clear HBx
          refine hK.out _ _ ?_ (fun hHeld => ?_)
          · exact hS.out _ HBN.out
          clear hK K
          refine wpAnyE_one (i := 9) (by kernel_rfl) rfl (fun K hK => ?_)
          go_simp
          refine hK.out _ _ ?_ (fun hHeld => ?_)
          · exact hS.out _ (below_al HBN.out _)
          clear hK K
          have HL9 : Hid (W.heap.size ≤ w2.heap.size) := HBN.out.size
          have HNE : Hid (b8 ≠ w2.heap.size) := by have h := HX8.out.lt; show _ ≠ _; omega
          have HXx := Lib.hid (Box.alloc HX8.out (.cells #[.int .i64 0, .int .i64 0] 54))
          clear HX8
          have HX8 := HXx
          clear HXx
          have HX9 := Lib.hid (Box.new w2 (.int .i64 0) (.int .i64 0) 54)
          have HBx := Lib.hid (below_al HBN.out (.cells #[.int .i64 0, .int .i64 0] 54))
          clear HBN
          have HBN := HBx
          clear HBx
          obtain ⟨b9, hb9⟩ : ∃ b, w2.heap.size = b := ⟨_, rfl⟩
          rw [hb9] at HL9 HX9 HNE ⊢
          clear hb9
          generalize w2.alloc (.cells #[.int .i64 0, .int .i64 0] 54) = X3 at *
          have HN1 : Hid (b8 ≠ b9) := by first | exact HNE.out | exact HNE.out.symm
          refine wpAnyE_one (i := 10) (by kernel_rfl) rfl (fun K hK => ?_)
          obtain ⟨p0, p1, f0, f1⟩ := HX8.out
          go_simp
          refine hK.out _ _ ?_ (fun hHeld => ?_)
          · exact hS.out _ (below_put2 HBN.out HL8.out _ _)
          clear hK K p0 p1 f0 f1
          have HY8 := Lib.hid (HX8.out.put (.int .i64 ak) (.int .i64 ac))
          have HY9 := Lib.hid (HX9.out.other HN1.out.symm (.int .i64 ak) (.int .i64 ac))
          have HBx := Lib.hid (below_put2 HBN.out HL8.out (.int .i64 ak) (.int .i64 ac))
          generalize (X3.setCell ⟨b8, 0, none⟩ (.int .i64 ak)).setCell ⟨b8, 1, none⟩ (.int .i64 ac) = Y at *
          refine wpAnyE_tail 11 (by decide) rfl (by kernel_rfl) ?_
          simp only [List.drop_succ_cons, List.drop_zero]
          obtain ⟨p0, p1, f0, f1⟩ := HY9.out
          go_wp2_with fail
          go_meet
          exact ⟨b8, b9, rfl, rfl, HY8.out.other HN1.out _ _, HY9.out.put _ _, below_put2 HBx.out HL9.out _ _⟩
        · skip
          go_simp
          refine hK.out _ _ ?_ (fun hHeld => ?_)
          · exact hS.out _ (below_al HBN.out _)
          clear hK K
          have HL9 : Hid (W.heap.size ≤ X1.heap.size) := HBN.out.size
          have HNE : Hid (b8 ≠ X1.heap.size) := by have h := HX8.out.lt; show _ ≠ _; omega
          have HXx := Lib.hid (Box.alloc HX8.out (.cells #[.int .i64 0, .int .i64 0] 54))
          clear HX8
          have HX8 := HXx
          clear HXx
          have HX9 := Lib.hid (Box.new X1 (.int .i64 0) (.int .i64 0) 54)
          have HBx := Lib.hid (below_al HBN.out (.cells #[.int .i64 0, .int .i64 0] 54))
          clear HBN
          have HBN := HBx
          clear HBx
          obtain ⟨b9, hb9⟩ : ∃ b, X1.heap.size = b := ⟨_, rfl⟩
          rw [hb9] at HL9 HX9 HNE ⊢
          clear hb9
          generalize X1.alloc (.cells #[.int .i64 0, .int .i64 0] 54) = X2 at *
          refine wpAnyE_one (i := 7) (by kernel_rfl) rfl (fun K hK => ?_)
          go_simp
          go_at_call 37
          refine Calls.mono (HGB.out _ (HW.out.trans (HBN.out.mono HW.out.size))) ?_
          rintro e w2 ⟨rfl, hbn⟩
          have HBx : Hid (Below W.heap.size W w2) := below_nx HBN.out hbn
          have HXx := Lib.hid (Box.nx HX8.out hbn)
          clear HX8
          have HX8 := HXx
          clear HXx
          have HXx := Lib.hid (Box.nx HX9.out hbn)
          clear HX9
          have HX9 := HXx
          clear HXx
          clear HBN hbn
          have HBN := HBx
          clear HBx
          refine hK.out _ _ ?_ (fun hHeld => ?_)
          · exact hS.out _ HBN.out
          clear hK K
          have HN1 : Hid (b8 ≠ b9) := by first | exact HNE.out | exact HNE.out.symm
          refine wpAnyE_one (i := 10) (by kernel_rfl) rfl (fun K hK => ?_)
          obtain ⟨p0, p1, f0, f1⟩ := HX8.out
          go_simp
          refine hK.out _ _ ?_ (fun hHeld => ?_)
          · exact hS.out _ (below_put2 HBN.out HL8.out _ _)
          clear hK K p0 p1 f0 f1
          have HY8 := Lib.hid (HX8.out.put (.int .i64 ak) (.int .i64 ac))
          have HY9 := Lib.hid (HX9.out.other HN1.out.symm (.int .i64 ak) (.int .i64 ac))
          have HBx := Lib.hid (below_put2 HBN.out HL8.out (.int .i64 ak) (.int .i64 ac))
          generalize (w2.setCell ⟨b8, 0, none⟩ (.int .i64 ak)).setCell ⟨b8, 1, none⟩ (.int .i64 ac) = Y at *
          refine wpAnyE_tail 11 (by decide) rfl (by kernel_rfl) ?_
          simp only [List.drop_succ_cons, List.drop_zero]
          obtain ⟨p0, p1, f0, f1⟩ := HY9.out
          go_wp2_with fail
          go_meet
          exact ⟨b8, b9, rfl, rfl, HY8.out.other HN1.out _ _, HY9.out.put _ _, below_put2 HBx.out HL9.out _ _⟩
      · skip
        go_simp
        refine hK.out _ _ ?_ (fun hHeld => ?_)
        · exact hS.out _ (below_al HBN.out _)
        clear hK K
        have HL9 : Hid (W.heap.size ≤ w1.heap.size) := HBN.out.size
        have HX9 := Lib.hid (Box.new w1 (.int .i64 0) (.int .i64 0) 54)
        have HBx := Lib.hid (below_al HBN.out (.cells #[.int .i64 0, .int .i64 0] 54))
        clear HBN
        have HBN := HBx
        clear HBx
        obtain ⟨b9, hb9⟩ : ∃ b, w1.heap.size = b := ⟨_, rfl⟩
        rw [hb9] at HL9 HX9 ⊢
        clear hb9
        generalize w1.alloc (.cells #[.int .i64 0, .int .i64 0] 54) = X1 at *
        refine wpAnyE_fork2 (i := 7) (j := 8) (by kernel_rfl) rfl rfl (fun K hK => ?_) (fun K hK => ?_) 
        · skip
          go_simp
          go_at_call 37
          refine Calls.mono (HGB.out _ (HW.out.trans (HBN.out.mono HW.out.size))) ?_
          rintro e w2 ⟨rfl, hbn⟩
          have HBx : Hid (Below W.heap.size W w2) := below_nx HBN.out hbn
          have HXx := Lib.hid (Box.nx HX9.out hbn)
          clear HX9
          have HX9 := HXx
          clear HXx
          clear HBN hbn
          have HBN := HBx
          clear HBx
          refine hK.out _ _ ?_ (fun hHeld => ?_)
          · exact hS.out _ HBN.out
          clear hK K
          refine wpAnyE_one (i := 8) (by kernel_rfl) rfl (fun K hK => ?_)
          go_simp
          refine hK.out _ _ ?_ (fun hHeld => ?_)
          · exact hS.out _ (below_al HBN.out _)
          clear hK K
          have HL8 : Hid (W.heap.size ≤ w2.heap.size) := HBN.out.size
          have HNE : Hid (b9 ≠ w2.heap.size) := by have h := HX9.out.lt; show _ ≠ _; omega
          have HXx := Lib.hid (Box.alloc HX9.out (.cells #[.int .i64 0, .int .i64 0] 54))
          clear HX9
          have HX9 := HXx
          clear HXx
          have HX8 := Lib.hid (Box.new w2 (.int .i64 0) (.int .i64 0) 54)
          have HBx := Lib.hid (below_al HBN.out (.cells #[.int .i64 0, .int .i64 0] 54))
          clear HBN
          have HBN := HBx
          clear HBx
          obtain ⟨b8, hb8⟩ : ∃ b, w2.heap.size = b := ⟨_, rfl⟩
          rw [hb8] at HL8 HX8 HNE ⊢
          clear hb8
          generalize w2.alloc (.cells #[.int .i64 0, .int .i64 0] 54) = X3 at *
          have HN1 : Hid (b8 ≠ b9) := by first | exact HNE.out | exact HNE.out.symm
          refine wpAnyE_one (i := 10) (by kernel_rfl) rfl (fun K hK => ?_)
          obtain ⟨p0, p1, f0, f1⟩ := HX8.out
          go_simp
          refine hK.out _ _ ?_ (fun hHeld => ?_)
          · exact hS.out _ (below_put2 HBN.out HL8.out _ _)
          clear hK K p0 p1 f0 f1
          have HY8 := Lib.hid (HX8.out.put (.int .i64 ak) (.int .i64 ac))
          have HY9 := Lib.hid (HX9.out.other HN1.out.symm (.int .i64 ak) (.int .i64 ac))
          have HBx := Lib.hid (below_put2 HBN.out HL8.out (.int .i64 ak) (.int .i64 ac))
          generalize (X3.setCell ⟨b8, 0, none⟩ (.int .i64 ak)).setCell ⟨b8, 1, none⟩ (.int .i64 ac) = Y at *
          refine wpAnyE_tail 11 (by decide) rfl (by kernel_rfl) ?_
          simp only [List.drop_succ_cons, List.drop_zero]
          obtain ⟨p0, p1, f0, f1⟩ := HY9.out
          go_wp2_with fail
          go_meet
          exact ⟨b8, b9, rfl, rfl, HY8.out.other HN1.out _ _, HY9.out.put _ _, below_put2 HBx.out HL9.out _ _⟩
        · skip
          go_simp
          refine hK.out _ _ ?_ (fun hHeld => ?_)
          · exact hS.out _ (below_al HBN.out _)
          clear hK K
          have HL8 : Hid (W.heap.size ≤ X1.heap.size) := HBN.out.size
          have HNE : Hid (b9 ≠ X1.heap.size) := by have h := HX9.out.lt; show _ ≠ _; omega
          have HXx := Lib.hid (Box.alloc HX9.out (.cells #[.int .i64 0, .int .i64 0] 54))
          clear HX9
          have HX9 := HXx
          clear HXx
          have HX8 := Lib.hid (Box.new X1 (.int .i64 0) (.int .i64 0) 54)
          have HBx := Lib.hid (below_al HBN.out (.cells #[.int .i64 0, .int .i64 0] 54))
          clear HBN
          have HBN := HBx
          clear HBx
          obtain ⟨b8, hb8⟩ : ∃ b, X1.heap.size = b := ⟨_, rfl⟩
          rw [hb8] at HL8 HX8 HNE ⊢
          clear hb8
          generalize X1.alloc (.cells #[.int .i64 0, .int .i64 0] 54) = X2 at *
          refine wpAnyE_one (i := 7) (by kernel_rfl) rfl (fun K hK => ?_)
          go_simp
          go_at_call 37
          refine Calls.mono (HGB.out _ (HW.out.trans (HBN.out.mono HW.out.size))) ?_
          rintro e w2 ⟨rfl, hbn⟩
          have HBx : Hid (Below W.heap.size W w2) := below_nx HBN.out hbn
          have HXx := Lib.hid (Box.nx HX8.out hbn)
          clear HX8
          have HX8 := HXx
          clear HXx
          have HXx := Lib.hid (Box.nx HX9.out hbn)
          clear HX9
          have HX9 := HXx
          clear HXx
          clear HBN hbn
          have HBN := HBx
          clear HBx
          refine hK.out _ _ ?_ (fun hHeld => ?_)
          · exact hS.out _ HBN.out
          clear hK K
          have HN1 : Hid (b8 ≠ b9) := by first | exact HNE.out | exact HNE.out.symm
          refine wpAnyE_one (i := 10) (by kernel_rfl) rfl (fun K hK => ?_)
          obtain ⟨p0, p1, f0, f1⟩ := HX8.out
          go_simp
          refine hK.out _ _ ?_ (fun hHeld => ?_)
          · exact hS.out _ (below_put2 HBN.out HL8.out _ _)
          clear hK K p0 p1 f0 f1
          have HY8 := Lib.hid (HX8.out.put (.int .i64 ak) (.int .i64 ac))
          have HY9 := Lib.hid (HX9.out.other HN1.out.symm (.int .i64 ak) (.int .i64 ac))
          have HBx := Lib.hid (below_put2 HBN.out HL8.out (.int .i64 ak) (.int .i64 ac))
          generalize (w2.setCell ⟨b8, 0, none⟩ (.int .i64 ak)).setCell ⟨b8, 1, none⟩ (.int .i64 ac) = Y at *
          refine wpAnyE_tail 11 (by decide) rfl (by kernel_rfl) ?_
          simp only [List.drop_succ_cons, List.drop_zero]
          obtain ⟨p0, p1, f0, f1⟩ := HY9.out
          go_wp2_with fail
          go_meet
          exact ⟨b8, b9, rfl, rfl, HY8.out.other HN1.out _ _, HY9.out.put _ _, below_put2 HBx.out HL9.out _ _⟩
    · skip
      go_simp
      refine hK.out _ _ ?_ (fun hHeld => ?_)
      · exact hS.out _ (below_al HBN.out _)
      clear hK K
      have HL8 : Hid (W.heap.size ≤ Wd.heap.size) := HBN.out.size
      have HX8 := Lib.hid (Box.new Wd (.int .i64 0) (.int .i64 0) 54)
      have HBx := Lib.hid (below_al HBN.out (.cells #[.int .i64 0, .int .i64 0] 54))
      clear HBN
      have HBN := HBx
      clear HBx
      obtain ⟨b8, hb8⟩ : ∃ b, Wd.heap.size = b := ⟨_, rfl⟩
      rw [hb8] at HL8 HX8 ⊢
      clear hb8
      generalize Wd.alloc (.cells #[.int .i64 0, .int .i64 0] 54) = X0 at *
      refine wpAnyE_fork2 (i := 3) (j := 9) (by kernel_rfl) rfl rfl (fun K hK => ?_) (fun K hK => ?_) 
      · skip
        go_simp
        go_at_call 37
        refine Calls.mono (HGA.out _ (HW.out.trans (HBN.out.mono HW.out.size))) ?_
        rintro e w1 ⟨rfl, hbn⟩
        have HBx : Hid (Below W.heap.size W w1) := below_nx HBN.out hbn
        have HXx := Lib.hid (Box.nx HX8.out hbn)
        clear HX8
        have HX8 := HXx
        clear HXx
        clear HBN hbn
        have HBN := HBx
        clear HBx
        refine hK.out _ _ ?_ (fun hHeld => ?_)
        · exact hS.out _ HBN.out
        clear hK K
        refine wpAnyE_fork2 (i := 7) (j := 9) (by kernel_rfl) rfl rfl (fun K hK => ?_) (fun K hK => ?_) 
        · skip
          go_simp
          go_at_call 37
          refine Calls.mono (HGB.out _ (HW.out.trans (HBN.out.mono HW.out.size))) ?_
          rintro e w2 ⟨rfl, hbn⟩
          have HBx : Hid (Below W.heap.size W w2) := below_nx HBN.out hbn
          have HXx := Lib.hid (Box.nx HX8.out hbn)
          clear HX8
          have HX8 := HXx
          clear HXx
          clear HBN hbn
          have HBN := HBx
          clear HBx
          refine hK.out _ _ ?_ (fun hHeld => ?_)
          · exact hS.out _ HBN.out
          clear hK K
          refine wpAnyE_one (i := 9) (by kernel_rfl) rfl (fun K hK => ?_)
          go_simp
          refine hK.out _ _ ?_ (fun hHeld => ?_)
          · exact hS.out _ (below_al HBN.out _)
          clear hK K
          have HL9 : Hid (W.heap.size ≤ w2.heap.size) := HBN.out.size
          have HNE : Hid (b8 ≠ w2.heap.size) := by have h := HX8.out.lt; show _ ≠ _; omega
          have HXx := Lib.hid (Box.alloc HX8.out (.cells #[.int .i64 0, .int .i64 0] 54))
          clear HX8
          have HX8 := HXx
          clear HXx
          have HX9 := Lib.hid (Box.new w2 (.int .i64 0) (.int .i64 0) 54)
          have HBx := Lib.hid (below_al HBN.out (.cells #[.int .i64 0, .int .i64 0] 54))
          clear HBN
          have HBN := HBx
          clear HBx
          obtain ⟨b9, hb9⟩ : ∃ b, w2.heap.size = b := ⟨_, rfl⟩
          rw [hb9] at HL9 HX9 HNE ⊢
          clear hb9
          generalize w2.alloc (.cells #[.int .i64 0, .int .i64 0] 54) = X3 at *
          have HN1 : Hid (b8 ≠ b9) := by first | exact HNE.out | exact HNE.out.symm
          refine wpAnyE_one (i := 10) (by kernel_rfl) rfl (fun K hK => ?_)
          obtain ⟨p0, p1, f0, f1⟩ := HX8.out
          go_simp
          refine hK.out _ _ ?_ (fun hHeld => ?_)
          · exact hS.out _ (below_put2 HBN.out HL8.out _ _)
          clear hK K p0 p1 f0 f1
          have HY8 := Lib.hid (HX8.out.put (.int .i64 ak) (.int .i64 ac))
          have HY9 := Lib.hid (HX9.out.other HN1.out.symm (.int .i64 ak) (.int .i64 ac))
          have HBx := Lib.hid (below_put2 HBN.out HL8.out (.int .i64 ak) (.int .i64 ac))
          generalize (X3.setCell ⟨b8, 0, none⟩ (.int .i64 ak)).setCell ⟨b8, 1, none⟩ (.int .i64 ac) = Y at *
          refine wpAnyE_tail 11 (by decide) rfl (by kernel_rfl) ?_
          simp only [List.drop_succ_cons, List.drop_zero]
          obtain ⟨p0, p1, f0, f1⟩ := HY9.out
          go_wp2_with fail
          go_meet
          exact ⟨b8, b9, rfl, rfl, HY8.out.other HN1.out _ _, HY9.out.put _ _, below_put2 HBx.out HL9.out _ _⟩
        · skip
          go_simp
          refine hK.out _ _ ?_ (fun hHeld => ?_)
          · exact hS.out _ (below_al HBN.out _)
          clear hK K
          have HL9 : Hid (W.heap.size ≤ w1.heap.size) := HBN.out.size
          have HNE : Hid (b8 ≠ w1.heap.size) := by have h := HX8.out.lt; show _ ≠ _; omega
          have HXx := Lib.hid (Box.alloc HX8.out (.cells #[.int .i64 0, .int .i64 0] 54))
          clear HX8
          have HX8 := HXx
          clear HXx
          have HX9 := Lib.hid (Box.new w1 (.int .i64 0) (.int .i64 0) 54)
          have HBx := Lib.hid (below_al HBN.out (.cells #[.int .i64 0, .int .i64 0] 54))
          clear HBN
          have HBN := HBx
          clear HBx
          obtain ⟨b9, hb9⟩ : ∃ b, w1.heap.size = b := ⟨_, rfl⟩
          rw [hb9] at HL9 HX9 HNE ⊢
          clear hb9
          generalize w1.alloc (.cells #[.int .i64 0, .int .i64 0] 54) = X2 at *
          refine wpAnyE_one (i := 7) (by kernel_rfl) rfl (fun K hK => ?_)
          go_simp
          go_at_call 37
          refine Calls.mono (HGB.out _ (HW.out.trans (HBN.out.mono HW.out.size))) ?_
          rintro e w2 ⟨rfl, hbn⟩
          have HBx : Hid (Below W.heap.size W w2) := below_nx HBN.out hbn
          have HXx := Lib.hid (Box.nx HX8.out hbn)
          clear HX8
          have HX8 := HXx
          clear HXx
          have HXx := Lib.hid (Box.nx HX9.out hbn)
          clear HX9
          have HX9 := HXx
          clear HXx
          clear HBN hbn
          have HBN := HBx
          clear HBx
          refine hK.out _ _ ?_ (fun hHeld => ?_)
          · exact hS.out _ HBN.out
          clear hK K
          have HN1 : Hid (b8 ≠ b9) := by first | exact HNE.out | exact HNE.out.symm
          refine wpAnyE_one (i := 10) (by kernel_rfl) rfl (fun K hK => ?_)
          obtain ⟨p0, p1, f0, f1⟩ := HX8.out
          go_simp
          refine hK.out _ _ ?_ (fun hHeld => ?_)
          · exact hS.out _ (below_put2 HBN.out HL8.out _ _)
          clear hK K p0 p1 f0 f1
          have HY8 := Lib.hid (HX8.out.put (.int .i64 ak) (.int .i64 ac))
          have HY9 := Lib.hid (HX9.out.other HN1.out.symm (.int .i64 ak) (.int .i64 ac))
          have HBx := Lib.hid (below_put2 HBN.out HL8.out (.int .i64 ak) (.int .i64 ac))
          generalize (w2.setCell ⟨b8, 0, none⟩ (.int .i64 ak)).setCell ⟨b8, 1, none⟩ (.int .i64 ac) = Y at *
          refine wpAnyE_tail 11 (by decide) rfl (by kernel_rfl) ?_
          simp only [List.drop_succ_cons, List.drop_zero]
          obtain ⟨p0, p1, f0, f1⟩ := HY9.out
          go_wp2_with fail
          go_meet
          exact ⟨b8, b9, rfl, rfl, HY8.out.other HN1.out _ _, HY9.out.put _ _, below_put2 HBx.out HL9.out _ _⟩
      · skip
        go_simp
        refine hK.out _ _ ?_ (fun hHeld => ?_)
        · exact hS.out _ (below_al HBN.out _)
        clear hK K
        have HL9 : Hid (W.heap.size ≤ X0.heap.size) := HBN.out.size
        have HNE : Hid (b8 ≠ X0.heap.size) := by have h := HX8.out.lt; show _ ≠ _; omega
        have HXx := Lib.hid (Box.alloc HX8.out (.cells #[.int .i64 0, .int .i64 0] 54))
        clear HX8
        have HX8 := HXx
        clear HXx
        have HX9 := Lib.hid (Box.new X0 (.int .i64 0) (.int .i64 0) 54)
        have HBx := Lib.hid (below_al HBN.out (.cells #[.int .i64 0, .int .i64 0] 54))
        clear HBN
        have HBN := HBx
        clear HBx
        obtain ⟨b9, hb9⟩ : ∃ b, X0.heap.size = b := ⟨_, rfl⟩
        rw [hb9] at HL9 HX9 HNE ⊢
        clear hb9
        generalize X0.alloc (.cells #[.int .i64 0, .int .i64 0] 54) = X1 at *
        refine wpAnyE_one (i := 3) (by kernel_rfl) rfl (fun K hK => ?_)
        go_simp
        go_at_call 37
        refine Calls.mono (HGA.out _ (HW.out.trans (HBN.out.mono HW.out.size))) ?_
        rintro e w1 ⟨rfl, hbn⟩
        have HBx : Hid (Below W.heap.size W w1) := below_nx HBN.out hbn
        have HXx := Lib.hid (Box.nx HX8.out hbn)
        clear HX8
        have HX8 := HXx
        clear HXx
        have HXx := Lib.hid (Box.nx HX9.out hbn)
        clear HX9
        have HX9 := HXx
        clear HXx
        clear HBN hbn
        have HBN := HBx
        clear HBx
        refine hK.out _ _ ?_ (fun hHeld => ?_)
        · exact hS.out _ HBN.out
        clear hK K
        refine wpAnyE_one (i := 7) (by kernel_rfl) rfl (fun K hK => ?_)
        go_simp
        go_at_call 37
        refine Calls.mono (HGB.out _ (HW.out.trans (HBN.out.mono HW.out.size))) ?_
        rintro e w2 ⟨rfl, hbn⟩
        have HBx : Hid (Below W.heap.size W w2) := below_nx HBN.out hbn
        have HXx := Lib.hid (Box.nx HX8.out hbn)
        clear HX8
        have HX8 := HXx
        clear HXx
        have HXx := Lib.hid (Box.nx HX9.out hbn)
        clear HX9
        have HX9 := HXx
        clear HXx
        clear HBN hbn
        have HBN := HBx
        clear HBx
        refine hK.out _ _ ?_ (fun hHeld => ?_)
        · exact hS.out _ HBN.out
        clear hK K
        have HN1 : Hid (b8 ≠ b9) := by first | exact HNE.out | exact HNE.out.symm
        refine wpAnyE_one (i := 10) (by kernel_rfl) rfl (fun K hK => ?_)
        obtain ⟨p0, p1, f0, f1⟩ := HX8.out
        go_simp
        refine hK.out _ _ ?_ (fun hHeld => ?_)
        · exact hS.out _ (below_put2 HBN.out HL8.out _ _)
        clear hK K p0 p1 f0 f1
        have HY8 := Lib.hid (HX8.out.put (.int .i64 ak) (.int .i64 ac))
        have HY9 := Lib.hid (HX9.out.other HN1.out.symm (.int .i64 ak) (.int .i64 ac))
        have HBx := Lib.hid (below_put2 HBN.out HL8.out (.int .i64 ak) (.int .i64 ac))
        generalize (w2.setCell ⟨b8, 0, none⟩ (.int .i64 ak)).setCell ⟨b8, 1, none⟩ (.int .i64 ac) = Y at *
        refine wpAnyE_tail 11 (by decide) rfl (by kernel_rfl) ?_
        simp only [List.drop_succ_cons, List.drop_zero]
        obtain ⟨p0, p1, f0, f1⟩ := HY9.out
        go_wp2_with fail
        go_meet
        exact ⟨b8, b9, rfl, rfl, HY8.out.other HN1.out _ _, HY9.out.put _ _, below_put2 HBx.out HL9.out _ _⟩
    · skip
      go_simp
      refine hK.out _ _ ?_ (fun hHeld => ?_)
      · exact hS.out _ (below_al HBN.out _)
      clear hK K
      have HL9 : Hid (W.heap.size ≤ Wd.heap.size) := HBN.out.size
      have HX9 := Lib.hid (Box.new Wd (.int .i64 0) (.int .i64 0) 54)
      have HBx := Lib.hid (below_al HBN.out (.cells #[.int .i64 0, .int .i64 0] 54))
      clear HBN
      have HBN := HBx
      clear HBx
      obtain ⟨b9, hb9⟩ : ∃ b, Wd.heap.size = b := ⟨_, rfl⟩
      rw [hb9] at HL9 HX9 ⊢
      clear hb9
      generalize Wd.alloc (.cells #[.int .i64 0, .int .i64 0] 54) = X0 at *
      refine wpAnyE_fork2 (i := 3) (j := 8) (by kernel_rfl) rfl rfl (fun K hK => ?_) (fun K hK => ?_) 
      · skip
        go_simp
        go_at_call 37
        refine Calls.mono (HGA.out _ (HW.out.trans (HBN.out.mono HW.out.size))) ?_
        rintro e w1 ⟨rfl, hbn⟩
        have HBx : Hid (Below W.heap.size W w1) := below_nx HBN.out hbn
        have HXx := Lib.hid (Box.nx HX9.out hbn)
        clear HX9
        have HX9 := HXx
        clear HXx
        clear HBN hbn
        have HBN := HBx
        clear HBx
        refine hK.out _ _ ?_ (fun hHeld => ?_)
        · exact hS.out _ HBN.out
        clear hK K
        refine wpAnyE_fork2 (i := 7) (j := 8) (by kernel_rfl) rfl rfl (fun K hK => ?_) (fun K hK => ?_) 
        · skip
          go_simp
          go_at_call 37
          refine Calls.mono (HGB.out _ (HW.out.trans (HBN.out.mono HW.out.size))) ?_
          rintro e w2 ⟨rfl, hbn⟩
          have HBx : Hid (Below W.heap.size W w2) := below_nx HBN.out hbn
          have HXx := Lib.hid (Box.nx HX9.out hbn)
          clear HX9
          have HX9 := HXx
          clear HXx
          clear HBN hbn
          have HBN := HBx
          clear HBx
          refine hK.out _ _ ?_ (fun hHeld => ?_)
          · exact hS.out _ HBN.out
          clear hK K
          refine wpAnyE_one (i := 8) (by kernel_rfl) rfl (fun K hK => ?_)
          go_simp
          refine hK.out _ _ ?_ (fun hHeld => ?_)
          · exact hS.out _ (below_al HBN.out _)
          clear hK K
          have HL8 : Hid (W.heap.size ≤ w2.heap.size) := HBN.out.size
          have HNE : Hid (b9 ≠ w2.heap.size) := by have h := HX9.out.lt; show _ ≠ _; omega
          have HXx := Lib.hid (Box.alloc HX9.out (.cells #[.int .i64 0, .int .i64 0] 54))
          clear HX9
          have HX9 := HXx
          clear HXx
          have HX8 := Lib.hid (Box.new w2 (.int .i64 0) (.int .i64 0) 54)
          have HBx := Lib.hid (below_al HBN.out (.cells #[.int .i64 0, .int .i64 0] 54))
          clear HBN
          have HBN := HBx
          clear HBx
          obtain ⟨b8, hb8⟩ : ∃ b, w2.heap.size = b := ⟨_, rfl⟩
          rw [hb8] at HL8 HX8 HNE ⊢
          clear hb8
          generalize w2.alloc (.cells #[.int .i64 0, .int .i64 0] 54) = X3 at *
          have HN1 : Hid (b8 ≠ b9) := by first | exact HNE.out | exact HNE.out.symm
          refine wpAnyE_one (i := 10) (by kernel_rfl) rfl (fun K hK => ?_)
          obtain ⟨p0, p1, f0, f1⟩ := HX8.out
          go_simp
          refine hK.out _ _ ?_ (fun hHeld => ?_)
          · exact hS.out _ (below_put2 HBN.out HL8.out _ _)
          clear hK K p0 p1 f0 f1
          have HY8 := Lib.hid (HX8.out.put (.int .i64 ak) (.int .i64 ac))
          have HY9 := Lib.hid (HX9.out.other HN1.out.symm (.int .i64 ak) (.int .i64 ac))
          have HBx := Lib.hid (below_put2 HBN.out HL8.out (.int .i64 ak) (.int .i64 ac))
          generalize (X3.setCell ⟨b8, 0, none⟩ (.int .i64 ak)).setCell ⟨b8, 1, none⟩ (.int .i64 ac) = Y at *
          refine wpAnyE_tail 11 (by decide) rfl (by kernel_rfl) ?_
          simp only [List.drop_succ_cons, List.drop_zero]
          obtain ⟨p0, p1, f0, f1⟩ := HY9.out
          go_wp2_with fail
          go_meet
          exact ⟨b8, b9, rfl, rfl, HY8.out.other HN1.out _ _, HY9.out.put _ _, below_put2 HBx.out HL9.out _ _⟩
        · skip
          go_simp
          refine hK.out _ _ ?_ (fun hHeld => ?_)
          · exact hS.out _ (below_al HBN.out _)
          clear hK K
          have HL8 : Hid (W.heap.size ≤ w1.heap.size) := HBN.out.size
          have HNE : Hid (b9 ≠ w1.heap.size) := by have h := HX9.out.lt; show _ ≠ _; omega
          have HXx := Lib.hid (Box.alloc HX9.out (.cells #[.int .i64 0, .int .i64 0] 54))
          clear HX9
          have HX9 := HXx
          clear HXx
          have HX8 := Lib.hid (Box.new w1 (.int .i64 0) (.int .i64 0) 54)
          have HBx := Lib.hid (below_al HBN.out (.cells #[.int .i64 0, .int .i64 0] 54))
          clear HBN
          have HBN := HBx
          clear HBx
          obtain ⟨b8, hb8⟩ : ∃ b, w1.heap.size = b := ⟨_, rfl⟩
          rw [hb8] at HL8 HX8 HNE ⊢
          clear hb8
          generalize w1.alloc (.cells #[.int .i64 0, .int .i64 0] 54) = X2 at *
          refine wpAnyE_one (i := 7) (by kernel_rfl) rfl (fun K hK => ?_)
          go_simp
          go_at_call 37
          refine Calls.mono (HGB.out _ (HW.out.trans (HBN.out.mono HW.out.size))) ?_
          rintro e w2 ⟨rfl, hbn⟩
          have HBx : Hid (Below W.heap.size W w2) := below_nx HBN.out hbn
          have HXx := Lib.hid (Box.nx HX8.out hbn)
          clear HX8
          have HX8 := HXx
          clear HXx
          have HXx := Lib.hid (Box.nx HX9.out hbn)
          clear HX9
          have HX9 := HXx
          clear HXx
          clear HBN hbn
          have HBN := HBx
          clear HBx
          refine hK.out _ _ ?_ (fun hHeld => ?_)
          · exact hS.out _ HBN.out
          clear hK K
          have HN1 : Hid (b8 ≠ b9) := by first | exact HNE.out | exact HNE.out.symm
          refine wpAnyE_one (i := 10) (by kernel_rfl) rfl (fun K hK => ?_)
          obtain ⟨p0, p1, f0, f1⟩ := HX8.out
          go_simp
          refine hK.out _ _ ?_ (fun hHeld => ?_)
          · exact hS.out _ (below_put2 HBN.out HL8.out _ _)
          clear hK K p0 p1 f0 f1
          have HY8 := Lib.hid (HX8.out.put (.int .i64 ak) (.int .i64 ac))
          have HY9 := Lib.hid (HX9.out.other HN1.out.symm (.int .i64 ak) (.int .i64 ac))
          have HBx := Lib.hid (below_put2 HBN.out HL8.out (.int .i64 ak) (.int .i64 ac))
          generalize (w2.setCell ⟨b8, 0, none⟩ (.int .i64 ak)).setCell ⟨b8, 1, none⟩ (.int .i64 ac) = Y at *
          refine wpAnyE_tail 11 (by decide) rfl (by kernel_rfl) ?_
          simp only [List.drop_succ_cons, List.drop_zero]
          obtain ⟨p0, p1, f0, f1⟩ := HY9.out
          go_wp2_with fail
          go_meet
          exact ⟨b8, b9, rfl, rfl, HY8.out.other HN1.out _ _, HY9.out.put _ _, below_put2 HBx.out HL9.out _ _⟩
      · skip
        go_simp
        refine hK.out _ _ ?_ (fun hHeld => ?_)
        · exact hS.out _ (below_al HBN.out _)
        clear hK K
        have HL8 : Hid (W.heap.size ≤ X0.heap.size) := HBN.out.size
        have HNE : Hid (b9 ≠ X0.heap.size) := by have h := HX9.out.lt; show _ ≠ _; omega
        have HXx := Lib.hid (Box.alloc HX9.out (.cells #[.int .i64 0, .int .i64 0] 54))
        clear HX9
        have HX9 := HXx
        clear HXx
        have HX8 := Lib.hid (Box.new X0 (.int .i64 0) (.int .i64 0) 54)
        have HBx := Lib.hid (below_al HBN.out (.cells #[.int .i64 0, .int .i64 0] 54))
        clear HBN
        have HBN := HBx
        clear HBx
        obtain ⟨b8, hb8⟩ : ∃ b, X0.heap.size = b := ⟨_, rfl⟩
        rw [hb8] at HL8 HX8 HNE ⊢
        clear hb8
        generalize X0.alloc (.cells #[.int .i64 0, .int .i64 0] 54) = X1 at *
        refine wpAnyE_one (i := 3) (by kernel_rfl) rfl (fun K hK => ?_)
        go_simp
        go_at_call 37
        refine Calls.mono (HGA.out _ (HW.out.trans (HBN.out.mono HW.out.size))) ?_
        rintro e w1 ⟨rfl, hbn⟩
        have HBx : Hid (Below W.heap.size W w1) := below_nx HBN.out hbn
        have HXx := Lib.hid (Box.nx HX8.out hbn)
        clear HX8
        have HX8 := HXx
        clear HXx
        have HXx := Lib.hid (Box.nx HX9.out hbn)
        clear HX9
        have HX9 := HXx
        clear HXx
        clear HBN hbn
        have HBN := HBx
        clear HBx
        refine hK.out _ _ ?_ (fun hHeld => ?_)
        · exact hS.out _ HBN.out
        clear hK K
        refine wpAnyE_one (i := 7) (by kernel_rfl) rfl (fun K hK => ?_)
        go_simp
        go_at_call 37
        refine Calls.mono (HGB.out _ (HW.out.trans (HBN.out.mono HW.out.size))) ?_
        rintro e w2 ⟨rfl, hbn⟩
        have HBx : Hid (Below W.heap.size W w2) := below_nx HBN.out hbn
        have HXx := Lib.hid (Box.nx HX8.out hbn)
        clear HX8
        have HX8 := HXx
        clear HXx
        have HXx := Lib.hid (Box.nx HX9.out hbn)
        clear HX9
        have HX9 := HXx
        clear HXx
        clear HBN hbn
        have HBN := HBx
        clear HBx
        refine hK.out _ _ ?_ (fun hHeld => ?_)
        · exact hS.out _ HBN.out
        clear hK K
        have HN1 : Hid (b8 ≠ b9) := by first | exact HNE.out | exact HNE.out.symm
        refine wpAnyE_one (i := 10) (by kernel_rfl) rfl (fun K hK => ?_)
        obtain ⟨p0, p1, f0, f1⟩ := HX8.out
        go_simp
        refine hK.out _ _ ?_ (fun hHeld => ?_)
        · exact hS.out _ (below_put2 HBN.out HL8.out _ _)
        clear hK K p0 p1 f0 f1
        have HY8 := Lib.hid (HX8.out.put (.int .i64 ak) (.int .i64 ac))
        have HY9 := Lib.hid (HX9.out.other HN1.out.symm (.int .i64 ak) (.int .i64 ac))
        have HBx := Lib.hid (below_put2 HBN.out HL8.out (.int .i64 ak) (.int .i64 ac))
        generalize (w2.setCell ⟨b8, 0, none⟩ (.int .i64 ak)).setCell ⟨b8, 1, none⟩ (.int .i64 ac) = Y at *
        refine wpAnyE_tail 11 (by decide) rfl (by kernel_rfl) ?_
        simp only [List.drop_succ_cons, List.drop_zero]
        obtain ⟨p0, p1, f0, f1⟩ := HY9.out
        go_wp2_with fail
        go_meet
        exact ⟨b8, b9, rfl, rfl, HY8.out.other HN1.out _ _, HY9.out.put _ _, below_put2 HBx.out HL9.out _ _⟩
  case rest =>
    obtain ⟨b5, b6, rfl, rfl, HX, HY, HB⟩ := hcut
    obtain ⟨rk, rc⟩ := r
    have BRc := Lib.hid (HBR.out.below HB.out HBR.out.lt)
    have BIc := Lib.hid (HBI.out.below HB.out (HBI.out.lt (Nat.zero_lt_succ _)))
    have HWc := Lib.hid (HW.out.trans (HB.out.mono HW.out.size))
    clear HBR HBI HBE HW HB HGA HGB
    obtain ⟨p5, q5, -, -⟩ := HX.out
    obtain ⟨p6, q6, -, -⟩ := HY.out
    obtain ⟨r0, r1, f0, f1⟩ := BRc.out
    have k1 := (BIc.out 1 _ rfl).1
    have k5 := (BIc.out 5 _ rfl).1
    try dsimp only
    by_cases hk0 : kind = 0
    · subst hk0
      have hre : vone c = ⟨rk, rc⟩ := by have h := HR.out; simpa using h
      have HC := Lib.hid (Of_any c wc)
      rw [hre] at HC
      unfold V.val at HC
      dsimp only at HC
      clear HR hre
      go_wp2_with (go_at_call 38; refine HC.out.mono ?_; rintro e wn ⟨rfl, hbn⟩; clear r0 r1 f0 f1; obtain ⟨r0, r1, f0, f1⟩ := Box.nx BRc.out hbn; have HBQ := Lib.hid (HWc.out.trans (hbn.mono HWc.out.size)); clear hbn)
      have hB := below_put2 HBQ.out (b := w.heap.size + 1 + 1) (by omega) (.int .i64 rk) (.int .i64 rc)
      exact bodyPost_ret (v := .agg #[.int .i64 rk, .int .i64 rc]) (by simp [results, Tryz.results21, go_sem, r0, r1]) rfl ⟨rfl, hB⟩
    have hb0 : (kind == 0) = false := by simpa using hk0
    by_cases hk1 : kind = 1
    · subst hk1
      have hre : (⟨ak, ac⟩ : V) = ⟨rk, rc⟩ := by have h := HR.out; simpa using h
      obtain ⟨rfl, rfl⟩ : ak = rk ∧ ac = rc := by simpa using hre
      have HBQ := HWc
      clear HR hre
      go_wp2_with fail
      have hB := below_put2 HBQ.out (b := w.heap.size + 1 + 1) (by omega) (.int .i64 ak) (.int .i64 ac)
      exact bodyPost_ret (v := .agg #[.int .i64 ak, .int .i64 ac]) (by simp [results, Tryz.results21, go_sem, r0, r1]) rfl ⟨rfl, hB⟩
    have hb1 : (kind == 1) = false := by simpa using hk1
    by_cases hk2 : kind = 2
    · subst hk2
      have hre : negV ⟨ak, ac⟩ = ⟨rk, rc⟩ := by have h := HR.out; simpa using h
      have HC := Lib.hid (Neg_any ⟨ak, ac⟩ wc)
      rw [hre] at HC
      unfold V.val at HC
      dsimp only at HC
      clear HR hre
      go_wp2_with (go_at_call 39; refine HC.out.mono ?_; rintro e wn ⟨rfl, hbn⟩; clear r0 r1 f0 f1; obtain ⟨r0, r1, f0, f1⟩ := Box.nx BRc.out hbn; have HBQ := Lib.hid (HWc.out.trans (hbn.mono HWc.out.size)); clear hbn)
      have hB := below_put2 HBQ.out (b := w.heap.size + 1 + 1) (by omega) (.int .i64 rk) (.int .i64 rc)
      exact bodyPost_ret (v := .agg #[.int .i64 rk, .int .i64 rc]) (by simp [results, Tryz.results21, go_sem, r0, r1]) rfl ⟨rfl, hB⟩
    have hb2 : (kind == 2) = false := by simpa using hk2
    by_cases hk3 : kind = 3
    · subst hk3
      have hre : addV ⟨ak, ac⟩ ⟨bk, bc⟩ = ⟨rk, rc⟩ := by have h := HR.out; simpa using h
      have HC := Lib.hid (Add_any ⟨ak, ac⟩ ⟨bk, bc⟩ wc)
      rw [hre] at HC
      unfold V.val at HC
      dsimp only at HC
      clear HR hre
      go_wp2_with (go_at_call 40; refine HC.out.mono ?_; rintro e wn ⟨rfl, hbn⟩; clear r0 r1 f0 f1; obtain ⟨r0, r1, f0, f1⟩ := Box.nx BRc.out hbn; have HBQ := Lib.hid (HWc.out.trans (hbn.mono HWc.out.size)); clear hbn)
      have hB := below_put2 HBQ.out (b := w.heap.size + 1 + 1) (by omega) (.int .i64 rk) (.int .i64 rc)
      exact bodyPost_ret (v := .agg #[.int .i64 rk, .int .i64 rc]) (by simp [results, Tryz.results21, go_sem, r0, r1]) rfl ⟨rfl, hB⟩
    have hb3 : (kind == 3) = false := by simpa using hk3
    by_cases hk4 : kind = 4
    · subst hk4
      have hre : subV ⟨ak, ac⟩ ⟨bk, bc⟩ = ⟨rk, rc⟩ := by have h := HR.out; simpa using h
      have HC := Lib.hid (Sub_any ⟨ak, ac⟩ ⟨bk, bc⟩ wc)
      rw [hre] at HC
      unfold V.val at HC
      dsimp only at HC
      clear HR hre
      go_wp2_with (go_at_call 41; refine HC.out.mono ?_; rintro e wn ⟨rfl, hbn⟩; clear r0 r1 f0 f1; obtain ⟨r0, r1, f0, f1⟩ := Box.nx BRc.out hbn; have HBQ := Lib.hid (HWc.out.trans (hbn.mono HWc.out.size)); clear hbn)
      have hB := below_put2 HBQ.out (b := w.heap.size + 1 + 1) (by omega) (.int .i64 rk) (.int .i64 rc)
      exact bodyPost_ret (v := .agg #[.int .i64 rk, .int .i64 rc]) (by simp [results, Tryz.results21, go_sem, r0, r1]) rfl ⟨rfl, hB⟩
    have hb4 : (kind == 4) = false := by simpa using hk4
    by_cases hk5 : kind = 5
    · subst hk5
      have hre : mulV ⟨ak, ac⟩ ⟨bk, bc⟩ = ⟨rk, rc⟩ := by have h := HR.out; simpa using h
      have HC := Lib.hid (Mul_any ⟨ak, ac⟩ ⟨bk, bc⟩ wc)
      rw [hre] at HC
      unfold V.val at HC
      dsimp only at HC
      clear HR hre
      go_wp2_with (go_at_call 42; refine HC.out.mono ?_; rintro e wn ⟨rfl, hbn⟩; clear r0 r1 f0 f1; obtain ⟨r0, r1, f0, f1⟩ := Box.nx BRc.out hbn; have HBQ := Lib.hid (HWc.out.trans (hbn.mono HWc.out.size)); clear hbn)
      have hB := below_put2 HBQ.out (b := w.heap.size + 1 + 1) (by omega) (.int .i64 rk) (.int .i64 rc)
      exact bodyPost_ret (v := .agg #[.int .i64 rk, .int .i64 rc]) (by simp [results, Tryz.results21, go_sem, r0, r1]) rfl ⟨rfl, hB⟩
    have hb5 : (kind == 5) = false := by simpa using hk5
    have hre : vtop = ⟨rk, rc⟩ := by have h := HR.out; simpa [hk0, hk1, hk2, hk3, hk4, hk5] using h
    obtain ⟨rfl, rfl⟩ : 2 = rk ∧ 0 = rc := by simpa [vtop] using hre
    have HBQ := HWc
    clear HR hre
    go_wp2_with fail
    have hB := below_put2 HBQ.out (b := w.heap.size + 1 + 1) (by omega) (.int .i64 2) (.int .i64 0)
    exact bodyPost_ret (v := .agg #[.int .i64 2, .int .i64 0]) (by simp [results, Tryz.results21, go_sem, r0, r1]) rfl ⟨rfl, hB⟩
end Go.Proofs.YtmcbedlmgffckaaGreatDoor
