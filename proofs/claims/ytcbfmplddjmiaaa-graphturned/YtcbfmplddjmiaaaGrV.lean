/- GraphTurned, walked. -/
import Derived.Test.YtcbfmplddjmiaaaGrU
namespace Go.Proofs.Ytcbfmplddjmiaaa
open Go Go.RowKit Go.Sort

set_option maxRecDepth 100000 in
set_option maxHeartbeats 16000000 in
theorem graphTurned_any (av : Option Addr) (g : List (List Int)) (cap n : Nat) (a b : Int) (w : World) (hG : GIs w.heap.size w av g) (hn : g.length = n) (hm : n ≤ maxLen) :
    Calls Try.prog 5 #[.slice av n cap, .int .i64 a, .int .i64 b] w fun e w' => e = .returned (.bool true) ∧ Below w.heap.size w w' := by
  have HG := Lib.hid hG
  have HN := Lib.hid hn
  have HM := Lib.hid hm
  clear hG hn hm
  have HA := Lib.hid (awake10_any w)
  have HFW := Lib.hid (fun W (h : Below w.heap.size w W) => Few_any av g cap n W (HG.out.on h) HN.out HM.out)
  go_enter Try.func5, Try.ntmps5
  go_upto_region 2 with (go_at_call 9; refine HA.out.mono ?_; rintro e w1 ⟨rfl, hb1⟩; have HB1 := Lib.hid hb1; clear hb1)
  by_cases hF : FewG g
  · have hF40 : n ≤ 40 := HN.out ▸ hF.1
    have HF := Lib.hid hF
    clear hF
    have HTU := Lib.hid (fun W (h : Below w.heap.size w W) => Turn_g av g cap n W (HG.out.on h) HF.out HN.out (fun x y => edge g y x) (fun _ _ _ _ => rfl))
    have HCL := Lib.hid (fun W (h : Below w.heap.size w W) => Clean_g av g cap n W (HG.out.on h) HF.out HN.out (edge g) (fun _ _ _ _ => rfl))
    have HPA := Lib.hid (fun W (h : Below w.heap.size w W) => Path_any av g cap n a b W (HG.out.on h) HF.out HN.out)
    have HRE := Lib.hid (fun W (h : Below w.heap.size w W) => Reach_any av g cap n a W (HG.out.on h) HF.out HN.out)
    have HFT := Lib.hid (few_rows (n := n) hF40 (fun x y => edge g y x))
    have HFC := Lib.hid (few_rows (n := n) hF40 (edge g))
    have HET : Hid (∀ x y, x < n → y < n → edge (zss (rows n fun x y => edge g y x)) x y = edge g y x) := Lib.hid fun x y hx hy => edge_rows hx hy
    generalize edge g = E at *
    have hnn : ((n : Int) != (n : Int)) = false := by simp
    by_cases hin : (0 ≤ a ∧ a < (n : Int)) ∧ (0 ≤ b ∧ b < (n : Int))
    · obtain ⟨x, rfl⟩ : ∃ x : Nat, a = (x : Int) := ⟨a.toNat, by omega⟩
      obtain ⟨y, rfl⟩ : ∃ y : Nat, b = (y : Int) := ⟨b.toNat, by omega⟩
      have hxi : (x : Int) < (n : Int) := hin.1.2
      have hyi : (y : Int) < (n : Int) := hin.2.2
      have hx : x < n := by omega
      have hy : y < n := by omega
      have hx0 : ¬ (x : Int) < 0 := by omega
      have hy0 : ¬ (y : Int) < 0 := by omega
      clear hin
      have HPT := Lib.hid (path_turn (E := E) hx hy)
      have HRT := Lib.hid (reach_turn (n := n) (E := E) (x := x) (y := y))
      have HRP := Lib.hid (reach_path (E := E) hx hy)
      obtain ⟨pb, hpb⟩ : ∃ pb, pathB n E (x : Int) (y : Int) = pb := ⟨_, rfl⟩
      obtain ⟨rb, hrb⟩ : ∃ rb, decide (y ∈ orderI n E (x : Int)) = rb := ⟨_, rfl⟩
      rw [hpb] at HPA HPT HRP
      rw [hrb] at HRT HRP
      have HRB := Lib.hid hrb
      clear hpb hrb
      go_upto_region 12 with (first
        | (go_at_call 10; refine (HFW.out _ HB1.out).mono ?_; rintro e w2 ⟨bf, rfl, hbf, hb2⟩; obtain rfl : bf = true := hbf.2 HF.out; have HB2 := Lib.hid (HB1.out.trans (hb2.mono HB1.out.size)); clear hbf hb2)
        | (go_at_call 14; refine (HTU.out _ HB2.out).mono ?_; rintro e w3 ⟨vt, rfl, hb3, ⟨ta, tc, rfl, hgt⟩⟩; have HGT := Lib.hid hgt; have HB3 := Lib.hid (HB2.out.trans (hb3.mono HB2.out.size)); clear hb3 hgt)
        | (go_at_call_of 17 (Value.int .i64 (x : Int)); refine (HRE.out _ HB3.out).mono ?_; rintro e w4 ⟨xb, rfl, -, hxb, hb4⟩; have HXB := Lib.hid hxb; have HGT4 := Lib.hid (HGT.out.on hb4); have HB4 := Lib.hid (HB3.out.trans (hb4.mono HB3.out.size)); clear hxb hb4)
        | (go_at_call_of 17 (Value.int .i64 (y : Int)); refine (Reach_any ta _ tc n y _ HGT4.out HFT.out (zss_length _)).mono ?_; rintro e w5 ⟨yb, rfl, -, hyb, hb5⟩; have HYB := Lib.hid hyb; have HXB5 := Lib.hid (HXB.out.below hb5); have HGT5 := Lib.hid (HGT4.out.on hb5); have HB5 := Lib.hid (HB4.out.trans (hb5.mono HB4.out.size)); clear hyb hb5))
      have hcx := World.rowIs.cell HXB5.out (i := y) (by rw [reachL_length]; exact hy)
      rw [reachL_at hy, HRB.out] at hcx
      have hcy := World.rowIs.cell HYB.out (i := x) (by rw [reachL_length]; exact hx)
      rw [reachL_congr HET.out, reachL_at hx, HRT.out] at hcy
      have HS : Hid (∀ w', Below w5.heap.size w5 w' → w'.cell? ⟨xb, y, none⟩ = some (.bool rb) ∧ w'.cell? ⟨yb, x, none⟩ = some (.bool rb)) := Lib.hid fun w' h => ⟨(h.cell (p := ⟨xb, y, none⟩) (block_lt_of_cell hcx)).trans hcx, (h.cell (p := ⟨yb, x, none⟩) (block_lt_of_cell hcy)).trans hcy⟩
      have HTT := Lib.hid (fun W (h : Below w5.heap.size w5 W) => Turn_g ta _ tc n W (HGT5.out.on h) HFT.out (zss_length _) E (fun x y hx hy => HET.out x y hx hy))
      have HPP := Lib.hid (fun W (h : Below w5.heap.size w5 W) => Path_any ta _ tc n (y : Int) (x : Int) W (HGT5.out.on h) HFT.out (zss_length _))
      rw [pathB_congr HET.out, HPT.out] at HPP
      have hrr : (rb == rb) = true := by cases rb <;> rfl
      have hpp : (pb == pb) = true := by cases pb <;> rfl
      clear hcx hcy
      by_cases hxy : x = y
      · subst hxy
        have hrb1 : rb = true := by rw [HRP.out]; simp
        subst hrb1
        refine wp_region_late (fun w' => Below w5.heap.size w5 w') 47 (by kernel_rfl) ((Below.refl _ _).drew) (fun hHeld => ?_)
        refine wpAnyE_take (i := 0) (v := ?ve0) rfl (by kernel_rfl) (fun _ _ _ h => h) hHeld (by kernel_rfl) ?ye0 ?_
        case ye0 => (intro w' hSw; have hSv := HS.out w' hSw; clear hSw; go_simp <;> with_reducible rfl)
        try simp [Act.put]
        refine wpAnyE_take (i := 1) (v := ?ve1) rfl (by kernel_rfl) (fun _ _ _ h => h) hHeld (by kernel_rfl) ?ye1 ?_
        case ye1 => (intro w' hSw; have hSv := HS.out w' hSw; clear hSw; go_simp <;> with_reducible rfl)
        try simp [Act.put]
        refine wpAnyE_take (i := 2) (v := ?ve2) rfl (by kernel_rfl) (fun _ _ _ h => h) hHeld (by kernel_rfl) ?ye2 ?_
        case ye2 => (intro w' hSw; have hSv := HS.out w' hSw; clear hSw; go_simp <;> with_reducible rfl)
        try simp [Act.put]
        refine wpAnyE_take (i := 4) (v := ?ve4) rfl (by kernel_rfl) (fun _ _ _ h => h) hHeld (by kernel_rfl) ?ye4 ?_
        case ye4 => (intro w' hSw; have hSv := HS.out w' hSw; clear hSw; go_simp <;> with_reducible rfl)
        try simp [Act.put]
        refine wpAnyE_one (i := 3) (by kernel_rfl) rfl (fun K hK => ?_)
        refine Eq.mpr (if_pos ?hwe3) ?_
        case hwe3 => kernel_rfl
        go_simp
        go_at_call 14
        refine Calls.mono (HTT.out _ hHeld) ?_
        rintro e wA ⟨v3, rfl, hbn, ⟨a3, c3, rfl, g3⟩⟩
        have HG3 := Lib.hid g3
        clear g3
        have hHeldN := hHeld.trans (hbn.mono hHeld.size)
        clear hbn
        refine hK.out _ _ hHeldN (fun _ => ?_)
        clear hK K hHeld
        have hHeld := hHeldN
        clear hHeldN
        try simp [Act.put]
        refine wpAnyE_one (i := 5) (by kernel_rfl) rfl (fun K hK => ?_)
        refine Eq.mpr (if_pos ?hwe5) ?_
        case hwe5 => kernel_rfl
        go_simp
        go_at_call 12
        refine Calls.mono (HCL.out _ (HB5.out.trans (hHeld.mono HB5.out.size))) ?_
        rintro e wB ⟨v5, rfl, hbn, ⟨a5, c5, rfl, g5⟩⟩
        have HG5 := Lib.hid g5
        clear g5
        have HG3' := Lib.hid (HG3.out.on hbn)
        have hHeldN := hHeld.trans (hbn.mono hHeld.size)
        clear hbn
        refine hK.out _ _ hHeldN (fun _ => ?_)
        clear hK K hHeld
        have hHeld := hHeldN
        clear hHeldN
        try simp [Act.put]
        refine wpAnyE_one (i := 6) (by kernel_rfl) rfl (fun K hK => ?_)
        refine Eq.mpr (if_pos ?hwe6) ?_
        case hwe6 => kernel_rfl
        go_simp
        go_at_call 11
        refine Calls.mono (Same_eq a3 a5 _ c3 c5 n _ HG3'.out HG5.out HFC.out (zss_length _)) ?_
        rintro e wC ⟨rfl, hbn⟩
        have hHeldN := hHeld.trans (hbn.mono hHeld.size)
        clear hbn
        refine hK.out _ _ hHeldN (fun _ => ?_)
        clear hK K hHeld
        have hHeld := hHeldN
        clear hHeldN
        try simp [Act.put]
        refine wpAnyE_take (i := 7) (v := ?ve7) rfl (by kernel_rfl) (fun _ _ _ h => h) hHeld (by kernel_rfl) ?ye7 ?_
        case ye7 => (intro w' hSw; have hSv := HS.out w' hSw; clear hSw; go_simp <;> with_reducible rfl)
        try simp [Act.put]
        refine wpAnyE_take (i := 8) (v := ?ve8) rfl (by kernel_rfl) (fun _ _ _ h => h) hHeld (by kernel_rfl) ?ye8 ?_
        case ye8 => (intro w' hSw; have hSv := HS.out w' hSw; clear hSw; go_simp <;> with_reducible rfl)
        try simp [Act.put]
        refine wpAnyE_take (i := 9) (v := ?ve9) rfl (by kernel_rfl) (fun _ _ _ h => h) hHeld (by kernel_rfl) ?ye9 ?_
        case ye9 => (intro w' hSw; have hSv := HS.out w' hSw; clear hSw; go_simp <;> with_reducible rfl)
        try simp [Act.put]
        refine wpAnyE_take (i := 10) (v := ?ve10) rfl (by kernel_rfl) (fun _ _ _ h => h) hHeld (by kernel_rfl) ?ye10 ?_
        case ye10 => (intro w' hSw; have hSv := HS.out w' hSw; clear hSw; go_simp <;> with_reducible rfl)
        try simp [Act.put]
        refine wpAnyE_take (i := 11) (v := ?ve11) rfl (by kernel_rfl) (fun _ _ _ h => h) hHeld (by kernel_rfl) ?ye11 ?_
        case ye11 => (intro w' hSw; have hSv := HS.out w' hSw; clear hSw; go_simp <;> with_reducible rfl)
        try simp [Act.put]
        refine wpAnyE_take (i := 12) (v := ?ve12) rfl (by kernel_rfl) (fun _ _ _ h => h) hHeld (by kernel_rfl) ?ye12 ?_
        case ye12 => (intro w' hSw; have hSv := HS.out w' hSw; clear hSw; go_simp <;> with_reducible rfl)
        try simp [Act.put]
        refine wpAnyE_take (i := 13) (v := ?ve13) rfl (by kernel_rfl) (fun _ _ _ h => h) hHeld (by kernel_rfl) ?ye13 ?_
        case ye13 => (intro w' hSw; have hSv := HS.out w' hSw; clear hSw; go_simp <;> with_reducible rfl)
        try simp [Act.put]
        refine wpAnyE_take (i := 14) (v := ?ve14) rfl (by kernel_rfl) (fun _ _ _ h => h) hHeld (by kernel_rfl) ?ye14 ?_
        case ye14 => (intro w' hSw; have hSv := HS.out w' hSw; clear hSw; go_simp <;> with_reducible rfl)
        try simp [Act.put]
        refine wpAnyE_take (i := 15) (v := ?ve15) rfl (by kernel_rfl) (fun _ _ _ h => h) hHeld (by kernel_rfl) ?ye15 ?_
        case ye15 => (intro w' hSw; have hSv := HS.out w' hSw; clear hSw; go_simp <;> with_reducible rfl)
        try simp [Act.put]
        refine wpAnyE_take (i := 16) (v := ?ve16) rfl (by kernel_rfl) (fun _ _ _ h => h) hHeld (by kernel_rfl) ?ye16 ?_
        case ye16 => (intro w' hSw; have hSv := HS.out w' hSw; clear hSw; go_simp <;> with_reducible rfl)
        try simp [Act.put]
        refine wpAnyE_take (i := 17) (v := ?ve17) rfl (by kernel_rfl) (fun _ _ _ h => h) hHeld (by kernel_rfl) ?ye17 ?_
        case ye17 => (intro w' hSw; have hSv := HS.out w' hSw; clear hSw; go_simp <;> with_reducible rfl)
        try simp [Act.put]
        refine wpAnyE_take (i := 18) (v := ?ve18) rfl (by kernel_rfl) (fun _ _ _ h => h) hHeld (by kernel_rfl) ?ye18 ?_
        case ye18 => (intro w' hSw; have hSv := HS.out w' hSw; clear hSw; go_simp <;> with_reducible rfl)
        try simp [Act.put]
        refine wpAnyE_take (i := 19) (v := ?ve19) rfl (by kernel_rfl) (fun _ _ _ h => h) hHeld (by kernel_rfl) ?ye19 ?_
        case ye19 => (intro w' hSw; have hSv := HS.out w' hSw; clear hSw; go_simp <;> with_reducible rfl)
        try simp [Act.put]
        refine wpAnyE_take (i := 20) (v := ?ve20) rfl (by kernel_rfl) (fun _ _ _ h => h) hHeld (by kernel_rfl) ?ye20 ?_
        case ye20 => (intro w' hSw; have hSv := HS.out w' hSw; clear hSw; go_simp <;> with_reducible rfl)
        try simp [Act.put]
        refine wpAnyE_take (i := 21) (v := ?ve21) rfl (by kernel_rfl) (fun _ _ _ h => h) hHeld (by kernel_rfl) ?ye21 ?_
        case ye21 => (intro w' hSw; have hSv := HS.out w' hSw; clear hSw; go_simp <;> with_reducible rfl)
        try simp [Act.put]
        refine wpAnyE_take (i := 22) (v := ?ve22) rfl (by kernel_rfl) (fun _ _ _ h => h) hHeld (by kernel_rfl) ?ye22 ?_
        case ye22 => (intro w' hSw; have hSv := HS.out w' hSw; clear hSw; go_simp <;> with_reducible rfl)
        try simp [Act.put]
        refine wpAnyE_take (i := 24) (v := ?ve24) rfl (by kernel_rfl) (fun _ _ _ h => h) hHeld (by kernel_rfl) ?ye24 ?_
        case ye24 => (intro w' hSw; have hSv := HS.out w' hSw; clear hSw; go_simp <;> with_reducible rfl)
        try simp [Act.put]
        refine wpAnyE_take (i := 25) (v := ?ve25) rfl (by kernel_rfl) (fun _ _ _ h => h) hHeld (by kernel_rfl) ?ye25 ?_
        case ye25 => (intro w' hSw; have hSv := HS.out w' hSw; clear hSw; go_simp <;> with_reducible rfl)
        try simp [Act.put]
        refine wpAnyE_take (i := 26) (v := ?ve26) rfl (by kernel_rfl) (fun _ _ _ h => h) hHeld (by kernel_rfl) ?ye26 ?_
        case ye26 => (intro w' hSw; have hSv := HS.out w' hSw; clear hSw; go_simp <;> with_reducible rfl)
        try simp [Act.put]
        refine wpAnyE_one (i := 23) (by kernel_rfl) rfl (fun K hK => ?_)
        refine Eq.mpr (if_pos ?hwe23) ?_
        case hwe23 => kernel_rfl
        go_simp
        go_at_call 26
        refine Calls.mono (HPA.out _ (HB5.out.trans (hHeld.mono HB5.out.size))) ?_
        rintro e wD ⟨rfl, hbn⟩
        have hHeldN := hHeld.trans (hbn.mono hHeld.size)
        clear hbn
        refine hK.out _ _ hHeldN (fun _ => ?_)
        clear hK K hHeld
        have hHeld := hHeldN
        clear hHeldN
        try simp [Act.put]
        refine wpAnyE_one (i := 27) (by kernel_rfl) rfl (fun K hK => ?_)
        refine Eq.mpr (if_pos ?hwe27) ?_
        case hwe27 => kernel_rfl
        go_simp
        go_at_call 26
        refine Calls.mono (HPP.out _ hHeld) ?_
        rintro e wE ⟨rfl, hbn⟩
        have hHeldN := hHeld.trans (hbn.mono hHeld.size)
        clear hbn
        refine hK.out _ _ hHeldN (fun _ => ?_)
        clear hK K hHeld
        have hHeld := hHeldN
        clear hHeldN
        try simp [Act.put]
        refine wpAnyE_take (i := 28) (v := ?ve28) rfl (by kernel_rfl) (fun _ _ _ h => h) hHeld (by kernel_rfl) ?ye28 ?_
        case ye28 => (intro w' hSw; have hSv := HS.out w' hSw; clear hSw; go_simp <;> with_reducible rfl)
        try simp [Act.put]
        refine wpAnyE_take (i := 29) (v := ?ve29) rfl (by kernel_rfl) (fun _ _ _ h => h) hHeld (by kernel_rfl) ?ye29 ?_
        case ye29 => (intro w' hSw; have hSv := HS.out w' hSw; clear hSw; go_simp <;> with_reducible rfl)
        try simp [Act.put]
        refine wpAnyE_take (i := 30) (v := ?ve30) rfl (by kernel_rfl) (fun _ _ _ h => h) hHeld (by kernel_rfl) ?ye30 ?_
        case ye30 => (intro w' hSw; have hSv := HS.out w' hSw; clear hSw; go_simp <;> with_reducible rfl)
        try simp [Act.put]
        refine wpAnyE_take (i := 31) (v := ?ve31) rfl (by kernel_rfl) (fun _ _ _ h => h) hHeld (by kernel_rfl) ?ye31 ?_
        case ye31 => (intro w' hSw; have hSv := HS.out w' hSw; clear hSw; go_simp <;> with_reducible rfl)
        try simp [Act.put]
        refine wpAnyE_take (i := 32) (v := ?ve32) rfl (by kernel_rfl) (fun _ _ _ h => h) hHeld (by kernel_rfl) ?ye32 ?_
        case ye32 => (intro w' hSw; have hSv := HS.out w' hSw; clear hSw; go_simp <;> with_reducible rfl)
        try simp [Act.put]
        refine wpAnyE_take (i := 33) (v := ?ve33) rfl (by kernel_rfl) (fun _ _ _ h => h) hHeld (by kernel_rfl) ?ye33 ?_
        case ye33 => (intro w' hSw; have hSv := HS.out w' hSw; clear hSw; go_simp <;> with_reducible rfl)
        try simp [Act.put]
        refine wpAnyE_take (i := 34) (v := ?ve34) rfl (by kernel_rfl) (fun _ _ _ h => h) hHeld (by kernel_rfl) ?ye34 ?_
        case ye34 => (intro w' hSw; have hSv := HS.out w' hSw; clear hSw; go_simp <;> with_reducible rfl)
        try simp [Act.put]
        refine wpAnyE_take (i := 35) (v := ?ve35) rfl (by kernel_rfl) (fun _ _ _ h => h) hHeld (by kernel_rfl) ?ye35 ?_
        case ye35 => (intro w' hSw; have hSv := HS.out w' hSw; clear hSw; go_simp <;> with_reducible rfl)
        try simp [Act.put]
        refine wpAnyE_take (i := 36) (v := ?ve36) rfl (by kernel_rfl) (fun _ _ _ h => h) hHeld (by kernel_rfl) ?ye36 ?_
        case ye36 => (intro w' hSw; have hSv := HS.out w' hSw; clear hSw; go_simp <;> with_reducible rfl)
        try simp [Act.put]
        refine wpAnyE_take (i := 37) (v := ?ve37) rfl (by kernel_rfl) (fun _ _ _ h => h) hHeld (by kernel_rfl) ?ye37 ?_
        case ye37 => (intro w' hSw; have hSv := HS.out w' hSw; clear hSw; go_simp <;> with_reducible rfl)
        try simp [Act.put]
        refine wpAnyE_take (i := 38) (v := ?ve38) rfl (by kernel_rfl) (fun _ _ _ h => h) hHeld (by kernel_rfl) ?ye38 ?_
        case ye38 => (intro w' hSw; have hSv := HS.out w' hSw; clear hSw; go_simp <;> with_reducible rfl)
        try simp [Act.put]
        refine wpAnyE_skip (i := 39) rfl (by kernel_rfl) (fun _ _ _ h => h) hHeld (by kernel_rfl) ?_
        try simp [Act.put]
        refine wpAnyE_skip (i := 40) rfl (by kernel_rfl) (fun _ _ _ h => h) hHeld (by kernel_rfl) ?_
        try simp [Act.put]
        refine wpAnyE_skip (i := 41) rfl (by kernel_rfl) (fun _ _ _ h => h) hHeld (by kernel_rfl) ?_
        try simp [Act.put]
        refine wpAnyE_skip (i := 42) rfl (by kernel_rfl) (fun _ _ _ h => h) hHeld (by kernel_rfl) ?_
        try simp [Act.put]
        refine wpAnyE_take (i := 43) (v := ?ve43) rfl (by kernel_rfl) (fun _ _ _ h => h) hHeld (by kernel_rfl) ?ye43 ?_
        case ye43 => (intro w' hSw; have hSv := HS.out w' hSw; clear hSw; go_simp <;> with_reducible rfl)
        try simp [Act.put]
        refine wpAnyE_take (i := 44) (v := ?ve44) rfl (by kernel_rfl) (fun _ _ _ h => h) hHeld (by kernel_rfl) ?ye44 ?_
        case ye44 => (intro w' hSw; have hSv := HS.out w' hSw; clear hSw; go_simp <;> with_reducible rfl)
        try simp [Act.put]
        refine wpAnyE_take (i := 45) (v := ?ve45) rfl (by kernel_rfl) (fun _ _ _ h => h) hHeld (by kernel_rfl) ?ye45 ?_
        case ye45 => (intro w' hSw; have hSv := HS.out w' hSw; clear hSw; go_simp <;> with_reducible rfl)
        try simp [Act.put]
        refine wpAnyE_take (i := 46) (v := ?ve46) rfl (by kernel_rfl) (fun _ _ _ h => h) hHeld (by kernel_rfl) ?ye46 ?_
        case ye46 => (intro w' hSw; have hSv := HS.out w' hSw; clear hSw; go_simp <;> with_reducible rfl)
        try simp [Act.put]
        refine ⟨by kernel_rfl, ?_⟩
        go_wp2_with fail
        go_ret
        exact ⟨rfl, HB5.out.trans (hHeld.mono HB5.out.size)⟩
      · have hxy' : ((x : Int) == (y : Int)) = false := by rw [beq_eq_false_iff_ne]; omega
        have hrb1 : rb = pb := by rw [HRP.out]; simp [hxy]
        subst hrb1
        clear hxy
        refine wp_region_late (fun w' => Below w5.heap.size w5 w') 47 (by kernel_rfl) ((Below.refl _ _).drew) (fun hHeld => ?_)
        refine wpAnyE_take (i := 0) (v := ?vn0) rfl (by kernel_rfl) (fun _ _ _ h => h) hHeld (by kernel_rfl) ?yn0 ?_
        case yn0 => (intro w' hSw; have hSv := HS.out w' hSw; clear hSw; go_simp <;> with_reducible rfl)
        try simp [Act.put]
        refine wpAnyE_take (i := 1) (v := ?vn1) rfl (by kernel_rfl) (fun _ _ _ h => h) hHeld (by kernel_rfl) ?yn1 ?_
        case yn1 => (intro w' hSw; have hSv := HS.out w' hSw; clear hSw; go_simp <;> with_reducible rfl)
        try simp [Act.put]
        refine wpAnyE_take (i := 2) (v := ?vn2) rfl (by kernel_rfl) (fun _ _ _ h => h) hHeld (by kernel_rfl) ?yn2 ?_
        case yn2 => (intro w' hSw; have hSv := HS.out w' hSw; clear hSw; go_simp <;> with_reducible rfl)
        try simp [Act.put]
        refine wpAnyE_take (i := 4) (v := ?vn4) rfl (by kernel_rfl) (fun _ _ _ h => h) hHeld (by kernel_rfl) ?yn4 ?_
        case yn4 => (intro w' hSw; have hSv := HS.out w' hSw; clear hSw; go_simp <;> with_reducible rfl)
        try simp [Act.put]
        refine wpAnyE_one (i := 3) (by kernel_rfl) rfl (fun K hK => ?_)
        refine Eq.mpr (if_pos ?hwn3) ?_
        case hwn3 => kernel_rfl
        go_simp
        go_at_call 14
        refine Calls.mono (HTT.out _ hHeld) ?_
        rintro e wA ⟨v3, rfl, hbn, ⟨a3, c3, rfl, g3⟩⟩
        have HG3 := Lib.hid g3
        clear g3
        have hHeldN := hHeld.trans (hbn.mono hHeld.size)
        clear hbn
        refine hK.out _ _ hHeldN (fun _ => ?_)
        clear hK K hHeld
        have hHeld := hHeldN
        clear hHeldN
        try simp [Act.put]
        refine wpAnyE_one (i := 5) (by kernel_rfl) rfl (fun K hK => ?_)
        refine Eq.mpr (if_pos ?hwn5) ?_
        case hwn5 => kernel_rfl
        go_simp
        go_at_call 12
        refine Calls.mono (HCL.out _ (HB5.out.trans (hHeld.mono HB5.out.size))) ?_
        rintro e wB ⟨v5, rfl, hbn, ⟨a5, c5, rfl, g5⟩⟩
        have HG5 := Lib.hid g5
        clear g5
        have HG3' := Lib.hid (HG3.out.on hbn)
        have hHeldN := hHeld.trans (hbn.mono hHeld.size)
        clear hbn
        refine hK.out _ _ hHeldN (fun _ => ?_)
        clear hK K hHeld
        have hHeld := hHeldN
        clear hHeldN
        try simp [Act.put]
        refine wpAnyE_one (i := 6) (by kernel_rfl) rfl (fun K hK => ?_)
        refine Eq.mpr (if_pos ?hwn6) ?_
        case hwn6 => kernel_rfl
        go_simp
        go_at_call 11
        refine Calls.mono (Same_eq a3 a5 _ c3 c5 n _ HG3'.out HG5.out HFC.out (zss_length _)) ?_
        rintro e wC ⟨rfl, hbn⟩
        have hHeldN := hHeld.trans (hbn.mono hHeld.size)
        clear hbn
        refine hK.out _ _ hHeldN (fun _ => ?_)
        clear hK K hHeld
        have hHeld := hHeldN
        clear hHeldN
        try simp [Act.put]
        refine wpAnyE_take (i := 7) (v := ?vn7) rfl (by kernel_rfl) (fun _ _ _ h => h) hHeld (by kernel_rfl) ?yn7 ?_
        case yn7 => (intro w' hSw; have hSv := HS.out w' hSw; clear hSw; go_simp <;> with_reducible rfl)
        try simp [Act.put]
        refine wpAnyE_take (i := 8) (v := ?vn8) rfl (by kernel_rfl) (fun _ _ _ h => h) hHeld (by kernel_rfl) ?yn8 ?_
        case yn8 => (intro w' hSw; have hSv := HS.out w' hSw; clear hSw; go_simp <;> with_reducible rfl)
        try simp [Act.put]
        refine wpAnyE_take (i := 9) (v := ?vn9) rfl (by kernel_rfl) (fun _ _ _ h => h) hHeld (by kernel_rfl) ?yn9 ?_
        case yn9 => (intro w' hSw; have hSv := HS.out w' hSw; clear hSw; go_simp <;> with_reducible rfl)
        try simp [Act.put]
        refine wpAnyE_take (i := 10) (v := ?vn10) rfl (by kernel_rfl) (fun _ _ _ h => h) hHeld (by kernel_rfl) ?yn10 ?_
        case yn10 => (intro w' hSw; have hSv := HS.out w' hSw; clear hSw; go_simp <;> with_reducible rfl)
        try simp [Act.put]
        refine wpAnyE_take (i := 11) (v := ?vn11) rfl (by kernel_rfl) (fun _ _ _ h => h) hHeld (by kernel_rfl) ?yn11 ?_
        case yn11 => (intro w' hSw; have hSv := HS.out w' hSw; clear hSw; go_simp <;> with_reducible rfl)
        try simp [Act.put]
        refine wpAnyE_take (i := 12) (v := ?vn12) rfl (by kernel_rfl) (fun _ _ _ h => h) hHeld (by kernel_rfl) ?yn12 ?_
        case yn12 => (intro w' hSw; have hSv := HS.out w' hSw; clear hSw; go_simp <;> with_reducible rfl)
        try simp [Act.put]
        refine wpAnyE_take (i := 13) (v := ?vn13) rfl (by kernel_rfl) (fun _ _ _ h => h) hHeld (by kernel_rfl) ?yn13 ?_
        case yn13 => (intro w' hSw; have hSv := HS.out w' hSw; clear hSw; go_simp <;> with_reducible rfl)
        try simp [Act.put]
        refine wpAnyE_take (i := 14) (v := ?vn14) rfl (by kernel_rfl) (fun _ _ _ h => h) hHeld (by kernel_rfl) ?yn14 ?_
        case yn14 => (intro w' hSw; have hSv := HS.out w' hSw; clear hSw; go_simp <;> with_reducible rfl)
        try simp [Act.put]
        refine wpAnyE_take (i := 15) (v := ?vn15) rfl (by kernel_rfl) (fun _ _ _ h => h) hHeld (by kernel_rfl) ?yn15 ?_
        case yn15 => (intro w' hSw; have hSv := HS.out w' hSw; clear hSw; go_simp <;> with_reducible rfl)
        try simp [Act.put]
        refine wpAnyE_take (i := 16) (v := ?vn16) rfl (by kernel_rfl) (fun _ _ _ h => h) hHeld (by kernel_rfl) ?yn16 ?_
        case yn16 => (intro w' hSw; have hSv := HS.out w' hSw; clear hSw; go_simp <;> with_reducible rfl)
        try simp [Act.put]
        refine wpAnyE_take (i := 17) (v := ?vn17) rfl (by kernel_rfl) (fun _ _ _ h => h) hHeld (by kernel_rfl) ?yn17 ?_
        case yn17 => (intro w' hSw; have hSv := HS.out w' hSw; clear hSw; go_simp <;> with_reducible rfl)
        try simp [Act.put]
        refine wpAnyE_take (i := 18) (v := ?vn18) rfl (by kernel_rfl) (fun _ _ _ h => h) hHeld (by kernel_rfl) ?yn18 ?_
        case yn18 => (intro w' hSw; have hSv := HS.out w' hSw; clear hSw; go_simp <;> with_reducible rfl)
        try simp [Act.put]
        refine wpAnyE_take (i := 19) (v := ?vn19) rfl (by kernel_rfl) (fun _ _ _ h => h) hHeld (by kernel_rfl) ?yn19 ?_
        case yn19 => (intro w' hSw; have hSv := HS.out w' hSw; clear hSw; go_simp <;> with_reducible rfl)
        try simp [Act.put]
        refine wpAnyE_take (i := 20) (v := ?vn20) rfl (by kernel_rfl) (fun _ _ _ h => h) hHeld (by kernel_rfl) ?yn20 ?_
        case yn20 => (intro w' hSw; have hSv := HS.out w' hSw; clear hSw; go_simp <;> with_reducible rfl)
        try simp [Act.put]
        refine wpAnyE_take (i := 21) (v := ?vn21) rfl (by kernel_rfl) (fun _ _ _ h => h) hHeld (by kernel_rfl) ?yn21 ?_
        case yn21 => (intro w' hSw; have hSv := HS.out w' hSw; clear hSw; go_simp <;> with_reducible rfl)
        try simp [Act.put]
        refine wpAnyE_take (i := 22) (v := ?vn22) rfl (by kernel_rfl) (fun _ _ _ h => h) hHeld (by kernel_rfl) ?yn22 ?_
        case yn22 => (intro w' hSw; have hSv := HS.out w' hSw; clear hSw; go_simp <;> with_reducible rfl)
        try simp [Act.put]
        refine wpAnyE_take (i := 24) (v := ?vn24) rfl (by kernel_rfl) (fun _ _ _ h => h) hHeld (by kernel_rfl) ?yn24 ?_
        case yn24 => (intro w' hSw; have hSv := HS.out w' hSw; clear hSw; go_simp <;> with_reducible rfl)
        try simp [Act.put]
        refine wpAnyE_take (i := 25) (v := ?vn25) rfl (by kernel_rfl) (fun _ _ _ h => h) hHeld (by kernel_rfl) ?yn25 ?_
        case yn25 => (intro w' hSw; have hSv := HS.out w' hSw; clear hSw; go_simp <;> with_reducible rfl)
        try simp [Act.put]
        refine wpAnyE_take (i := 26) (v := ?vn26) rfl (by kernel_rfl) (fun _ _ _ h => h) hHeld (by kernel_rfl) ?yn26 ?_
        case yn26 => (intro w' hSw; have hSv := HS.out w' hSw; clear hSw; go_simp <;> with_reducible rfl)
        try simp [Act.put]
        refine wpAnyE_one (i := 23) (by kernel_rfl) rfl (fun K hK => ?_)
        refine Eq.mpr (if_pos ?hwn23) ?_
        case hwn23 => kernel_rfl
        go_simp
        go_at_call 26
        refine Calls.mono (HPA.out _ (HB5.out.trans (hHeld.mono HB5.out.size))) ?_
        rintro e wD ⟨rfl, hbn⟩
        have hHeldN := hHeld.trans (hbn.mono hHeld.size)
        clear hbn
        refine hK.out _ _ hHeldN (fun _ => ?_)
        clear hK K hHeld
        have hHeld := hHeldN
        clear hHeldN
        try simp [Act.put]
        refine wpAnyE_one (i := 27) (by kernel_rfl) rfl (fun K hK => ?_)
        refine Eq.mpr (if_pos ?hwn27) ?_
        case hwn27 => kernel_rfl
        go_simp
        go_at_call 26
        refine Calls.mono (HPP.out _ hHeld) ?_
        rintro e wE ⟨rfl, hbn⟩
        have hHeldN := hHeld.trans (hbn.mono hHeld.size)
        clear hbn
        refine hK.out _ _ hHeldN (fun _ => ?_)
        clear hK K hHeld
        have hHeld := hHeldN
        clear hHeldN
        try simp [Act.put]
        refine wpAnyE_take (i := 28) (v := ?vn28) rfl (by kernel_rfl) (fun _ _ _ h => h) hHeld (by kernel_rfl) ?yn28 ?_
        case yn28 => (intro w' hSw; have hSv := HS.out w' hSw; clear hSw; go_simp <;> with_reducible rfl)
        try simp [Act.put]
        refine wpAnyE_take (i := 29) (v := ?vn29) rfl (by kernel_rfl) (fun _ _ _ h => h) hHeld (by kernel_rfl) ?yn29 ?_
        case yn29 => (intro w' hSw; have hSv := HS.out w' hSw; clear hSw; go_simp <;> with_reducible rfl)
        try simp [Act.put]
        refine wpAnyE_take (i := 30) (v := ?vn30) rfl (by kernel_rfl) (fun _ _ _ h => h) hHeld (by kernel_rfl) ?yn30 ?_
        case yn30 => (intro w' hSw; have hSv := HS.out w' hSw; clear hSw; go_simp <;> with_reducible rfl)
        try simp [Act.put]
        refine wpAnyE_take (i := 31) (v := ?vn31) rfl (by kernel_rfl) (fun _ _ _ h => h) hHeld (by kernel_rfl) ?yn31 ?_
        case yn31 => (intro w' hSw; have hSv := HS.out w' hSw; clear hSw; go_simp <;> with_reducible rfl)
        try simp [Act.put]
        refine wpAnyE_take (i := 32) (v := ?vn32) rfl (by kernel_rfl) (fun _ _ _ h => h) hHeld (by kernel_rfl) ?yn32 ?_
        case yn32 => (intro w' hSw; have hSv := HS.out w' hSw; clear hSw; go_simp <;> with_reducible rfl)
        try simp [Act.put]
        refine wpAnyE_take (i := 33) (v := ?vn33) rfl (by kernel_rfl) (fun _ _ _ h => h) hHeld (by kernel_rfl) ?yn33 ?_
        case yn33 => (intro w' hSw; have hSv := HS.out w' hSw; clear hSw; go_simp <;> with_reducible rfl)
        try simp [Act.put]
        refine wpAnyE_take (i := 34) (v := ?vn34) rfl (by kernel_rfl) (fun _ _ _ h => h) hHeld (by kernel_rfl) ?yn34 ?_
        case yn34 => (intro w' hSw; have hSv := HS.out w' hSw; clear hSw; go_simp <;> with_reducible rfl)
        try simp [Act.put]
        refine wpAnyE_take (i := 35) (v := ?vn35) rfl (by kernel_rfl) (fun _ _ _ h => h) hHeld (by kernel_rfl) ?yn35 ?_
        case yn35 => (intro w' hSw; have hSv := HS.out w' hSw; clear hSw; go_simp <;> with_reducible rfl)
        try simp [Act.put]
        refine wpAnyE_take (i := 36) (v := ?vn36) rfl (by kernel_rfl) (fun _ _ _ h => h) hHeld (by kernel_rfl) ?yn36 ?_
        case yn36 => (intro w' hSw; have hSv := HS.out w' hSw; clear hSw; go_simp <;> with_reducible rfl)
        try simp [Act.put]
        refine wpAnyE_take (i := 37) (v := ?vn37) rfl (by kernel_rfl) (fun _ _ _ h => h) hHeld (by kernel_rfl) ?yn37 ?_
        case yn37 => (intro w' hSw; have hSv := HS.out w' hSw; clear hSw; go_simp <;> with_reducible rfl)
        try simp [Act.put]
        refine wpAnyE_take (i := 38) (v := ?vn38) rfl (by kernel_rfl) (fun _ _ _ h => h) hHeld (by kernel_rfl) ?yn38 ?_
        case yn38 => (intro w' hSw; have hSv := HS.out w' hSw; clear hSw; go_simp <;> with_reducible rfl)
        try simp [Act.put]
        refine wpAnyE_take (i := 39) (v := ?vn39) rfl (by kernel_rfl) (fun _ _ _ h => h) hHeld (by kernel_rfl) ?yn39 ?_
        case yn39 => (intro w' hSw; have hSv := HS.out w' hSw; clear hSw; go_simp <;> with_reducible rfl)
        try simp [Act.put]
        refine wpAnyE_take (i := 40) (v := ?vn40) rfl (by kernel_rfl) (fun _ _ _ h => h) hHeld (by kernel_rfl) ?yn40 ?_
        case yn40 => (intro w' hSw; have hSv := HS.out w' hSw; clear hSw; go_simp <;> with_reducible rfl)
        try simp [Act.put]
        refine wpAnyE_take (i := 41) (v := ?vn41) rfl (by kernel_rfl) (fun _ _ _ h => h) hHeld (by kernel_rfl) ?yn41 ?_
        case yn41 => (intro w' hSw; have hSv := HS.out w' hSw; clear hSw; go_simp <;> with_reducible rfl)
        try simp [Act.put]
        refine wpAnyE_one (i := 42) (by kernel_rfl) rfl (fun K hK => ?_)
        refine Eq.mpr (if_pos ?hwn42) ?_
        case hwn42 => kernel_rfl
        go_simp
        go_at_call 26
        refine Calls.mono (HPA.out _ (HB5.out.trans (hHeld.mono HB5.out.size))) ?_
        rintro e wF ⟨rfl, hbn⟩
        have hHeldN := hHeld.trans (hbn.mono hHeld.size)
        clear hbn
        refine hK.out _ _ hHeldN (fun _ => ?_)
        clear hK K hHeld
        have hHeld := hHeldN
        clear hHeldN
        try simp [Act.put]
        refine wpAnyE_take (i := 43) (v := ?vn43) rfl (by kernel_rfl) (fun _ _ _ h => h) hHeld (by kernel_rfl) ?yn43 ?_
        case yn43 => (intro w' hSw; have hSv := HS.out w' hSw; clear hSw; go_simp <;> with_reducible rfl)
        try simp [Act.put]
        refine wpAnyE_take (i := 44) (v := ?vn44) rfl (by kernel_rfl) (fun _ _ _ h => h) hHeld (by kernel_rfl) ?yn44 ?_
        case yn44 => (intro w' hSw; have hSv := HS.out w' hSw; clear hSw; go_simp <;> with_reducible rfl)
        try simp [Act.put]
        refine wpAnyE_take (i := 45) (v := ?vn45) rfl (by kernel_rfl) (fun _ _ _ h => h) hHeld (by kernel_rfl) ?yn45 ?_
        case yn45 => (intro w' hSw; have hSv := HS.out w' hSw; clear hSw; go_simp <;> with_reducible rfl)
        try simp [Act.put]
        refine wpAnyE_take (i := 46) (v := ?vn46) rfl (by kernel_rfl) (fun _ _ _ h => h) hHeld (by kernel_rfl) ?yn46 ?_
        case yn46 => (intro w' hSw; have hSv := HS.out w' hSw; clear hSw; go_simp <;> with_reducible rfl)
        try simp [Act.put]
        refine ⟨by kernel_rfl, ?_⟩
        go_wp2_with fail
        go_ret
        exact ⟨rfl, HB5.out.trans (hHeld.mono HB5.out.size)⟩
    · have hpo := pathB_out (E := E) hin
      rw [hpo] at HPA
      clear hpo
      rcases (by omega : a < 0 ∨ (¬ a < 0 ∧ (n : Int) ≤ a) ∨ (¬ a < 0 ∧ ¬ (n : Int) ≤ a ∧ b < 0) ∨ (¬ a < 0 ∧ ¬ (n : Int) ≤ a ∧ ¬ b < 0 ∧ (n : Int) ≤ b)) with h1 | ⟨h1, h2⟩ | ⟨h1, h2, h3⟩ | ⟨h1, h2, h3, h4⟩
      · have g1 : ¬ 0 ≤ a := by omega
        clear hin h1
        go_wp2_with (first
          | (go_at_call 10; refine (HFW.out _ HB1.out).mono ?_; rintro e w2 ⟨bf, rfl, hbf, hb2⟩; obtain rfl : bf = true := hbf.2 HF.out; have HB2 := Lib.hid (HB1.out.trans (hb2.mono HB1.out.size)); clear hbf hb2)
          | (go_at_call 14; refine (HTU.out _ HB2.out).mono ?_; rintro e w3 ⟨vt, rfl, hb3, ⟨ta, tc, rfl, hgt⟩⟩; have HGT := Lib.hid hgt; have HB3 := Lib.hid (HB2.out.trans (hb3.mono HB2.out.size)); clear hb3 hgt)
          | (go_at_call 26; refine (HPA.out _ HB3.out).mono ?_; rintro e w4 ⟨rfl, hb4⟩; have HB4 := Lib.hid (HB3.out.trans (hb4.mono HB3.out.size)); clear hb4))
        go_ret
        exact ⟨rfl, HB4.out⟩
      · have g1 : 0 ≤ a := by omega
        have g2 : ¬ a < (n : Int) := by omega
        clear hin h1 h2
        go_wp2_with (first
          | (go_at_call 10; refine (HFW.out _ HB1.out).mono ?_; rintro e w2 ⟨bf, rfl, hbf, hb2⟩; obtain rfl : bf = true := hbf.2 HF.out; have HB2 := Lib.hid (HB1.out.trans (hb2.mono HB1.out.size)); clear hbf hb2)
          | (go_at_call 14; refine (HTU.out _ HB2.out).mono ?_; rintro e w3 ⟨vt, rfl, hb3, ⟨ta, tc, rfl, hgt⟩⟩; have HGT := Lib.hid hgt; have HB3 := Lib.hid (HB2.out.trans (hb3.mono HB2.out.size)); clear hb3 hgt)
          | (go_at_call 26; refine (HPA.out _ HB3.out).mono ?_; rintro e w4 ⟨rfl, hb4⟩; have HB4 := Lib.hid (HB3.out.trans (hb4.mono HB3.out.size)); clear hb4))
        go_ret
        exact ⟨rfl, HB4.out⟩
      · have g1 : 0 ≤ a := by omega
        have g2 : a < (n : Int) := by omega
        have g3 : ¬ 0 ≤ b := by omega
        clear hin h1 h2 h3
        go_wp2_with (first
          | (go_at_call 10; refine (HFW.out _ HB1.out).mono ?_; rintro e w2 ⟨bf, rfl, hbf, hb2⟩; obtain rfl : bf = true := hbf.2 HF.out; have HB2 := Lib.hid (HB1.out.trans (hb2.mono HB1.out.size)); clear hbf hb2)
          | (go_at_call 14; refine (HTU.out _ HB2.out).mono ?_; rintro e w3 ⟨vt, rfl, hb3, ⟨ta, tc, rfl, hgt⟩⟩; have HGT := Lib.hid hgt; have HB3 := Lib.hid (HB2.out.trans (hb3.mono HB2.out.size)); clear hb3 hgt)
          | (go_at_call 26; refine (HPA.out _ HB3.out).mono ?_; rintro e w4 ⟨rfl, hb4⟩; have HB4 := Lib.hid (HB3.out.trans (hb4.mono HB3.out.size)); clear hb4))
        go_ret
        exact ⟨rfl, HB4.out⟩
      · have g1 : 0 ≤ a := by omega
        have g2 : a < (n : Int) := by omega
        obtain ⟨y, rfl⟩ : ∃ y : Nat, b = (y : Int) := ⟨b.toNat, by omega⟩
        have g4 : ¬ y < n := by omega
        clear hin h1 h2 h3 h4
        go_wp2_with (first
          | (go_at_call 10; refine (HFW.out _ HB1.out).mono ?_; rintro e w2 ⟨bf, rfl, hbf, hb2⟩; obtain rfl : bf = true := hbf.2 HF.out; have HB2 := Lib.hid (HB1.out.trans (hb2.mono HB1.out.size)); clear hbf hb2)
          | (go_at_call 14; refine (HTU.out _ HB2.out).mono ?_; rintro e w3 ⟨vt, rfl, hb3, ⟨ta, tc, rfl, hgt⟩⟩; have HGT := Lib.hid hgt; have HB3 := Lib.hid (HB2.out.trans (hb3.mono HB2.out.size)); clear hb3 hgt)
          | (go_at_call 26; refine (HPA.out _ HB3.out).mono ?_; rintro e w4 ⟨rfl, hb4⟩; have HB4 := Lib.hid (HB3.out.trans (hb4.mono HB3.out.size)); clear hb4))
        go_ret
        exact ⟨rfl, HB4.out⟩
  · go_wp2_with (go_at_call 10; refine (HFW.out _ HB1.out).mono ?_; rintro e w2 ⟨bf, rfl, hbf, hb2⟩; obtain rfl : bf = false := (by cases bf; rfl; exact absurd (hbf.1 rfl) hF); have HB2 := Lib.hid (HB1.out.trans (hb2.mono HB1.out.size)); clear hbf hb2)
    go_ret
    exact ⟨rfl, HB2.out⟩
end Go.Proofs.Ytcbfmplddjmiaaa
