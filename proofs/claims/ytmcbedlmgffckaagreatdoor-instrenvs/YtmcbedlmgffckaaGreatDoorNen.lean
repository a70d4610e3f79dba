/- InstrEnvs: the law's walk. -/
import Derived.Deep.RegionHeld3
import Derived.Test.YtmcbedlmgffckaaGreatDoorRfV
import Derived.Test.YtmcbedlmgffckaaGreatDoorEnvK
import Derived.Test.YtmcbedlmgffckaaGreatDoorInsJ
namespace Go.Proofs.YtmcbedlmgffckaaGreatDoor
open Go Go.RowKit Go.Sort

set_option maxRecDepth 100000 in
set_option maxHeartbeats 32000000 in
theorem envs_law (on : Bool) (a : Option Addr) (n cap : Nat) (l : List V) (ob : Bool) (ab : Option Addr) (nb capb : Nat) (lb : List Int) (i : Ins) (ans : Int) (w : World) (hA : FE w a n l) (hB : SE w ab nb lb) (hTs : Tabs w) (hT : KTab w) :
    Calls Tryz.prog 3 #[.agg #[.bool on, .slice a n cap], .agg #[.bool ob, .slice ab nb capb], i.val, .int .i64 ans] w fun e w' => e = .returned (.bool true) ∧ Below w.heap.size w w' := by
  have HA0 := Lib.hid hA
  have HB0 := Lib.hid hB
  have HTS := Lib.hid hTs
  have HT0 := Lib.hid hT
  have hb3 := below3 w (.cells #[.bool on, .slice a n cap] 24) (.cells #[.bool ob, .slice ab nb capb] 27) (.cells i.cells.toArray 30)
  have B1 := ((Box.new w (.bool on) (.slice a n cap) 24).alloc (.cells #[.bool ob, .slice ab nb capb] 27)).alloc (.cells i.cells.toArray 30)
  have B2 := (Box.new (w.alloc (.cells #[.bool on, .slice a n cap] 24)) (.bool ob) (.slice ab nb capb) 27).alloc (.cells i.cells.toArray 30)
  have BI := BoxL.new ((w.alloc (.cells #[.bool on, .slice a n cap] 24)).alloc (.cells #[.bool ob, .slice ab nb capb] 27)) i.cells 30
  simp only [World.size_alloc] at B2 BI
  have hszA : szG on l ≤ n := by rw [← hA.2]; unfold szG; split <;> omega
  have hszB : szG ob lb ≤ nb := by rw [← hB.2]; unfold szG; split <;> omega
  obtain ⟨m, hm⟩ : ∃ m, szG on l = m := ⟨_, rfl⟩
  obtain ⟨mb, hmb⟩ : ∃ m, szG ob lb = m := ⟨_, rfl⟩
  rw [hm] at hszA
  rw [hmb] at hszB
  obtain ⟨fl, hfl⟩ : ∃ f, flatI on l i = f := ⟨_, rfl⟩
  obtain ⟨gl, hgl⟩ : ∃ f, signI ob lb i ans = f := ⟨_, rfl⟩
  have HFA := Lib.hid (fun a8 cap8 W (hn : n ≤ 200) (h : FE W a8 n l) (hK : KTab W) => Flat_any on a8 n cap8 l i W h hn hK m hm fl hfl)
  have HFR := Lib.hid (fun W (hn : n ≤ 200) (h : FE W a n l) => rFlat5_any on a n cap l i W h hn m hm fl hfl)
  have HGA := Lib.hid (fun W (hn : nb ≤ 200) (h : SE W ab nb lb) (hTs : Tabs W) (hK : KTab W) => Sign_any ob ab nb capb lb i ans W h hn hTs hK mb hmb gl hgl)
  have HGR := Lib.hid (fun W (hn : nb ≤ 200) (h : SE W ab nb lb) => rSign5_any ob ab nb capb lb i ans W h hn mb hmb gl hgl)
  clear hm hmb hfl hgl
  obtain ⟨id, kind, dst, va, vb, c, f, n', x0, x1, x2⟩ := i
  unfold Ins.val at *
  unfold Ins.cells at *
  dsimp only at *
  generalize hE : ((w.alloc (.cells #[.bool on, .slice a n cap] 24)).alloc (.cells #[.bool ob, .slice ab nb capb] 27)).alloc (.cells (List.toArray [.int .i64 id, .int .i64 kind, .int .i64 dst, .int .i64 va, .int .i64 vb, .int .i64 c, .int .i64 f, .int .i64 n', .int .i64 x0, .int .i64 x1, .int .i64 x2]) 30) = W at *
  have hE' : ((w.alloc (.cells #[.bool on, .slice a n cap] 24)).alloc (.cells #[.bool ob, .slice ab nb capb] 27)).alloc (.cells #[.int .i64 id, .int .i64 kind, .int .i64 dst, .int .i64 va, .int .i64 vb, .int .i64 c, .int .i64 f, .int .i64 n', .int .i64 x0, .int .i64 x1, .int .i64 x2] 30) = W := hE
  have HW := Lib.hid hb3
  have H1 := Lib.hid B1
  have H2 := Lib.hid B2
  have HI := Lib.hid BI
  clear hE hb3 B1 B2 BI hA hB hTs hT
  go_enter Tryz.func3, Tryz.ntmps3
  go_wp2_with fail
  try rw [hE']
  clear hE'
  refine (Bi.awake5_any _ (HT0.out.on HW.out)).mono ?_
  rintro e w1 ⟨rfl, hbn⟩
  have Hx := Lib.hid (Box.nx H1.out hbn)
  clear H1
  have H1 := Hx
  clear Hx
  have Hx := Lib.hid (Box.nx H2.out hbn)
  clear H2
  have H2 := Hx
  clear Hx
  have Hx := Lib.hid (HI.out.below hbn (HI.out.lt (Nat.zero_lt_succ _)))
  clear HI
  have HI := Hx
  clear Hx
  have Hx := Lib.hid (HW.out.trans (hbn.mono HW.out.size))
  clear HW
  have HW := Hx
  clear Hx
  clear hbn
  obtain ⟨p1, q1, -, -⟩ := H1.out
  obtain ⟨p2, q2, -, -⟩ := H2.out
  by_cases hc1 : 100 < n
  · have hc' : (100 : Int) < (n : Int) := by omega
    go_wp2_with fail
    go_ret
    exact ⟨rfl, HW.out⟩
  have hc1i : (n : Int) ≤ 100 := by omega
  by_cases hc2 : 100 < nb
  · have hc' : (100 : Int) < (nb : Int) := by omega
    go_wp2_with fail
    go_ret
    exact ⟨rfl, HW.out⟩
  have hc2i : (nb : Int) ≤ 100 := by omega
  go_upto_region 4 with fail
  clear p1 q1 p2 q2
  have hS : Hid (∀ w', Below w1.heap.size w1 w' → w'.cell? ⟨w.heap.size, 0, none⟩ = some (.bool on) ∧ w'.cell? ⟨w.heap.size, 1, none⟩ = some (.slice a n cap) ∧ w'.cell? ⟨w.heap.size + 1, 0, none⟩ = some (.bool ob) ∧ w'.cell? ⟨w.heap.size + 1, 1, none⟩ = some (.slice ab nb capb) ∧ w'.cell? ⟨w.heap.size + 1 + 1, 0, none⟩ = some (.int .i64 id) ∧ w'.cell? ⟨w.heap.size + 1 + 1, 1, none⟩ = some (.int .i64 kind) ∧ w'.cell? ⟨w.heap.size + 1 + 1, 2, none⟩ = some (.int .i64 dst) ∧ w'.cell? ⟨w.heap.size + 1 + 1, 3, none⟩ = some (.int .i64 va) ∧ w'.cell? ⟨w.heap.size + 1 + 1, 4, none⟩ = some (.int .i64 vb) ∧ w'.cell? ⟨w.heap.size + 1 + 1, 5, none⟩ = some (.int .i64 c) ∧ w'.cell? ⟨w.heap.size + 1 + 1, 6, none⟩ = some (.int .i64 f) ∧ w'.cell? ⟨w.heap.size + 1 + 1, 7, none⟩ = some (.int .i64 n') ∧ w'.cell? ⟨w.heap.size + 1 + 1, 8, none⟩ = some (.int .i64 x0) ∧ w'.cell? ⟨w.heap.size + 1 + 1, 9, none⟩ = some (.int .i64 x1) ∧ w'.cell? ⟨w.heap.size + 1 + 1, 10, none⟩ = some (.int .i64 x2)) := fun w' hb' => ⟨(Box.nx H1.out hb').c0, (Box.nx H1.out hb').c1, (Box.nx H2.out hb').c0, (Box.nx H2.out hb').c1, ((HI.out.below hb' (HI.out.lt (Nat.zero_lt_succ _))) 0 _ rfl).1, ((HI.out.below hb' (HI.out.lt (Nat.zero_lt_succ _))) 1 _ rfl).1, ((HI.out.below hb' (HI.out.lt (Nat.zero_lt_succ _))) 2 _ rfl).1, ((HI.out.below hb' (HI.out.lt (Nat.zero_lt_succ _))) 3 _ rfl).1, ((HI.out.below hb' (HI.out.lt (Nat.zero_lt_succ _))) 4 _ rfl).1, ((HI.out.below hb' (HI.out.lt (Nat.zero_lt_succ _))) 5 _ rfl).1, ((HI.out.below hb' (HI.out.lt (Nat.zero_lt_succ _))) 6 _ rfl).1, ((HI.out.below hb' (HI.out.lt (Nat.zero_lt_succ _))) 7 _ rfl).1, ((HI.out.below hb' (HI.out.lt (Nat.zero_lt_succ _))) 8 _ rfl).1, ((HI.out.below hb' (HI.out.lt (Nat.zero_lt_succ _))) 9 _ rfl).1, ((HI.out.below hb' (HI.out.lt (Nat.zero_lt_succ _))) 10 _ rfl).1⟩
  have HBN : Hid (Below w1.heap.size w1 w1.drew) := (Below.refl _ _).drew
  have tok1 : True := trivial
  have tok2 : True := trivial
  have tok3 : True := trivial
  have tok4 : True := trivial
  have tok5 : True := trivial
  have tok6 : True := trivial
  have tok7 : True := trivial
  have tok8 : True := trivial
  have tok9 : True := trivial
  have tok10 : True := trivial
  go_region_held3 (fun w' => w'.cell? ⟨w.heap.size, 0, none⟩ = some (.bool on) ∧ w'.cell? ⟨w.heap.size, 1, none⟩ = some (.slice a n cap) ∧ w'.cell? ⟨w.heap.size + 1, 0, none⟩ = some (.bool ob) ∧ w'.cell? ⟨w.heap.size + 1, 1, none⟩ = some (.slice ab nb capb) ∧ w'.cell? ⟨w.heap.size + 1 + 1, 0, none⟩ = some (.int .i64 id) ∧ w'.cell? ⟨w.heap.size + 1 + 1, 1, none⟩ = some (.int .i64 kind) ∧ w'.cell? ⟨w.heap.size + 1 + 1, 2, none⟩ = some (.int .i64 dst) ∧ w'.cell? ⟨w.heap.size + 1 + 1, 3, none⟩ = some (.int .i64 va) ∧ w'.cell? ⟨w.heap.size + 1 + 1, 4, none⟩ = some (.int .i64 vb) ∧ w'.cell? ⟨w.heap.size + 1 + 1, 5, none⟩ = some (.int .i64 c) ∧ w'.cell? ⟨w.heap.size + 1 + 1, 6, none⟩ = some (.int .i64 f) ∧ w'.cell? ⟨w.heap.size + 1 + 1, 7, none⟩ = some (.int .i64 n') ∧ w'.cell? ⟨w.heap.size + 1 + 1, 8, none⟩ = some (.int .i64 x0) ∧ w'.cell? ⟨w.heap.size + 1 + 1, 9, none⟩ = some (.int .i64 x1) ∧ w'.cell? ⟨w.heap.size + 1 + 1, 10, none⟩ = some (.int .i64 x2)) (first | exact hS.out _ HBN.out)
    (first
      | (have _t := tok1; go_at_call 8; refine Calls.mono (our5_any on a n cap l _ (HA0.out.below (HW.out.trans (HBN.out.mono HW.out.size))) (by omega)) ?_; clear _t tok1; rintro e y1 ⟨a1, c1, rfl, hF, hbn⟩; have hbx := HBN.out.trans (hbn.mono HBN.out.size); clear HBN; have HBN := Lib.hid hbx; clear hbx; have HR1 := Lib.hid hF; clear hF hbn)
      | (have _t := tok2; go_at_call 7; refine Calls.mono (HFA.out _ _ _ (by omega) HR1.out (HT0.out.on (HW.out.trans (HBN.out.mono HW.out.size)))) ?_; clear _t tok2; rintro e y2 ⟨a2, c2, rfl, hF, hbn⟩; have hbx := HBN.out.trans (hbn.mono HBN.out.size); clear HBN; have HBN := Lib.hid hbx; clear hbx; clear HR1; have HR1 := Lib.hid hF; clear hF hbn)
      | (have _t := tok3; go_at_call 6; refine Calls.mono (their5_any on _ m _ fl _ HR1.out (by omega)) ?_; clear _t tok3; rintro e y3 ⟨a3, c3, rfl, hF, hbn⟩; have hbx := HBN.out.trans (hbn.mono HBN.out.size); clear HBN; have HBN := Lib.hid hbx; clear hbx; clear HR1; have HR1 := Lib.hid hF; clear hF hbn)
      | (have _t := tok4; go_at_call 9; refine Calls.mono (HFR.out _ (by omega) (HA0.out.below (HW.out.trans (HBN.out.mono HW.out.size)))) ?_; clear _t tok4; rintro e y4 ⟨a4, c4, rfl, hF, hbn⟩; have hbx := HBN.out.trans (hbn.mono HBN.out.size); clear HBN; have HBN := Lib.hid hbx; clear hbx; have HR2 := Lib.hid hF; have Hx := Lib.hid (HR1.out.below hbn); clear HR1 hF hbn; have HR1 := Hx; clear Hx)
      | (have _t := tok5; go_at_call 5; refine Calls.mono (SameF_eq on _ _ _ _ m fl _ HR1.out HR2.out (by omega)) ?_; clear _t tok5; rintro e y5 ⟨rfl, hbn⟩; have hbx := HBN.out.trans (hbn.mono HBN.out.size); clear HBN; have HBN := Lib.hid hbx; clear hbx; clear hbn HR1 HR2)
      | (have _t := tok6; go_at_call 13; refine Calls.mono (ourS5_any _ _ _ _ _) ?_; clear _t tok6; rintro e y6 ⟨rfl, hbn⟩; have hbx := HBN.out.trans (hbn.mono HBN.out.size); clear HBN; have HBN := Lib.hid hbx; clear hbx; clear hbn)
      | (have _t := tok7; go_at_call 12; refine Calls.mono (HGA.out _ (by omega) (HB0.out.below (HW.out.trans (HBN.out.mono HW.out.size))) (HTS.out.on (HW.out.trans (HBN.out.mono HW.out.size))) (HT0.out.on (HW.out.trans (HBN.out.mono HW.out.size)))) ?_; clear _t tok7; rintro e y7 ⟨a2, c2, rfl, hF, hbn⟩; have hbx := HBN.out.trans (hbn.mono HBN.out.size); clear HBN; have HBN := Lib.hid hbx; clear hbx; have HR1 := Lib.hid hF; clear hF hbn)
      | (have _t := tok8; go_at_call 11; refine Calls.mono (theirS5_any _ _ _ _ _) ?_; clear _t tok8; rintro e y8 ⟨rfl, hbn⟩; have hbx := HBN.out.trans (hbn.mono HBN.out.size); clear HBN; have HBN := Lib.hid hbx; clear hbx; have Hx := Lib.hid (HR1.out.below hbn); clear HR1 hbn; have HR1 := Hx; clear Hx)
      | (have _t := tok9; go_at_call 14; refine Calls.mono (HGR.out _ (by omega) (HB0.out.below (HW.out.trans (HBN.out.mono HW.out.size)))) ?_; clear _t tok9; rintro e y9 ⟨a4, c4, rfl, hF, hbn⟩; have hbx := HBN.out.trans (hbn.mono HBN.out.size); clear HBN; have HBN := Lib.hid hbx; clear hbx; have HR2 := Lib.hid hF; have Hx := Lib.hid (HR1.out.below hbn); clear HR1 hF hbn; have HR1 := Hx; clear Hx)
      | (have _t := tok10; go_at_call 10; refine Calls.mono (SameS_eq ob _ _ _ _ mb gl _ HR1.out HR2.out (by omega)) ?_; clear _t tok10; rintro e y10 ⟨rfl, hbn⟩; have hbx := HBN.out.trans (hbn.mono HBN.out.size); clear HBN; have HBN := Lib.hid hbx; clear hbx; clear hbn HR1 HR2))
  all_goals
    go_wp2_with fail
    go_ret
    exact ⟨rfl, HW.out.trans (HBN.out.mono HW.out.size)⟩
end Go.Proofs.YtmcbedlmgffckaaGreatDoor
