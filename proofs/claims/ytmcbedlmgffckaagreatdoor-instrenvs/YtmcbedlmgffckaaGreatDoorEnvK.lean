/- Stage 5: ourFlat, ourSign of its own laws. -/
import Derived.Test.YtmcbedlmgffckaaGreatDoorEnvZ
namespace Go.Proofs.YtmcbedlmgffckaaGreatDoor
open Go Go.RowKit Go.Sort

set_option maxRecDepth 100000 in
set_option maxHeartbeats 8000000 in
theorem our5_any (on : Bool) (a : Option Addr) (n cap : Nat) (l : List V) (w : World) (h : FE w a n l) (hl : n ≤ 200) :
    Calls Tryz.prog 8 #[.agg #[.bool on, .slice a n cap]] w fun e w' => ∃ a' cap', e = .returned (.agg #[.bool on, .slice a' n cap']) ∧ FE w' a' n l ∧ Below w.heap.size w w' := by
  obtain ⟨hF, hn⟩ := h
  have HF := Lib.hid hF
  have HN := Lib.hid hn
  have BE := ((Box.new w (.bool on) (.slice a n cap) 24).alloc (.cells #[.bool false, .slice none 0 0] 36)).alloc (.cells #[.bool on, .slice none 0 0] 36)
  have BR := (Box.new (w.alloc (.cells #[.bool on, .slice a n cap] 24)) (.bool false) (.slice none 0 0) 36).alloc (.cells #[.bool on, .slice none 0 0] 36)
  have BO := Box.new ((w.alloc (.cells #[.bool on, .slice a n cap] 24)).alloc (.cells #[.bool false, .slice none 0 0] 36)) (.bool on) (.slice none 0 0) 36
  have hW := below3 w (.cells #[.bool on, .slice a n cap] 24) (.cells #[.bool false, .slice none 0 0] 36) (.cells #[.bool on, .slice none 0 0] 36)
  have hsz : (((w.alloc (.cells #[.bool on, .slice a n cap] 24)).alloc (.cells #[.bool false, .slice none 0 0] 36)).alloc (.cells #[.bool on, .slice none 0 0] 36)).heap.size = w.heap.size + 3 := by simp
  simp only [World.size_alloc] at BR BO
  have HW := Lib.hid hW
  have HZ := Lib.hid hsz
  have HE := Lib.hid BE
  have HR := Lib.hid BR
  have HO := Lib.hid BO
  obtain ⟨c0, c1, -, -⟩ := BE
  clear hF hn hW hsz BR BO
  obtain ⟨i0, hi, hz0, hz1, hz2⟩ := info_parts infoF
  go_enter Tryz.func8, Tryz.ntmps8
  go_wp2_with fail
  generalize hE : ((w.alloc (.cells #[.bool on, .slice a n cap] 24)).alloc (.cells #[.bool false, .slice none 0 0] 36)).alloc (.cells #[.bool on, .slice none 0 0] 36) = W at *
  clear hE c0 c1
  go_loopw [4] (fun i wr => ∃ (j : Nat) (v : Value), j ≤ n ∧ i = .int .i64 j ∧ Hid (wr.ownsRow (w.heap.size + 3) 54 2 v j (encF (l.take j))) ∧ Hid (Box wr (w.heap.size + 1 + 1) (.bool on) v) ∧ Hid (Box wr w.heap.size (.bool on) (.slice a n cap)) ∧ Hid (Box wr (w.heap.size + 1) (.bool false) (.slice none 0 0)) ∧ Hid (Below w.heap.size w wr) ∧ Hid (w.heap.size + 3 ≤ wr.heap.size)) (fun i _ => n - (intOf i).toNat)
  case atStart => exact ⟨0, .slice none 0 0, Nat.zero_le _, rfl, World.ownsRow_nil _ _ _ _, HO, HE, HR, HW, by show _ ≤ _; rw [HZ.out]; exact Nat.le_refl _⟩
  case round =>
    clear HO HE HR HW HZ
    obtain ⟨j, v, hj, rfl, hown, hO, hE, hR, hBw, hsz⟩ := hrel
    by_cases hlt : j < n
    · have hji : (j : Int) < (n : Int) := by omega
      have hj0 : (0 : Int) ≤ (j : Int) := by omega
      have hjl : j < l.length := by rw [HN.out]; exact hlt
      obtain ⟨b, o, rfl, hbl, e0, e1⟩ := HF.out j hjl
      have htk : l.take (j + 1) = l.take j ++ [l[j]?.getD vbot] := by
        rw [List.take_succ_eq_append_getElem hjl]; simp [hjl]
      generalize l[j]?.getD vbot = u at *
      obtain ⟨x, y⟩ := u
      have henc : encF (l.take (j + 1)) = encF (l.take j) ++ [.int .i64 x, .int .i64 y] := by rw [htk, encF_snoc]
      have HENC := Lib.hid henc
      have hS : Hid (∀ w', Below (w.heap.size + 3) wr w' → w'.cell? ⟨w.heap.size + 1 + 1, 1, none⟩ = some v ∧ w'.cell? ⟨w.heap.size, 1, none⟩ = some (.slice (some ⟨b, o, none⟩) n cap) ∧ w'.cell? ⟨b, o + j * 2, none⟩ = some (.int .i64 x) ∧ w'.cell? ⟨b, o + j * 2 + 1, none⟩ = some (.int .i64 y)) := fun w' hb' =>
        ⟨(hO.out.below hb' (by omega)).c1, (hE.out.below hb' (by omega)).c1, (hb'.cell (p := ⟨b, o + j * 2, none⟩) (by show b < _; omega)).trans ((hBw.out.cell (p := ⟨b, o + j * 2, none⟩) hbl).trans e0), (hb'.cell (p := ⟨b, o + j * 2 + 1, none⟩) (by show b < _; omega)).trans ((hBw.out.cell (p := ⟨b, o + j * 2 + 1, none⟩) hbl).trans e1)⟩
      have c1 := hE.out.c1
      have hsz' := hsz.out
      have h63 : j + 1 ≤ maxLen := by unfold maxLen; omega
      have hby : (j + 1) * 16 ≤ 140737488355328 := by omega
      clear htk henc e0 e1 hjl
      go_wp2_with fail
      clear c1

      refine wp_region_late (fun w' => w'.cell? ⟨w.heap.size + 1 + 1, 1, none⟩ = some v ∧ w'.cell? ⟨w.heap.size, 1, none⟩ = some (.slice (some ⟨b, o, none⟩) n cap) ∧ w'.cell? ⟨b, o + j * 2, none⟩ = some (.int .i64 x) ∧ w'.cell? ⟨b, o + j * 2 + 1, none⟩ = some (.int .i64 y)) 17 (by kernel_rfl) (hS.out _ (Below.refl _ _).drew) (fun hHeld => ?_)
      refine wpAnyE_take (i := 0) (v := ?v0) rfl (by kernel_rfl) (fun _ _ _ h => h) hHeld (by rfl) ?y0 ?_
      case y0 => (intro w' hSw; (try dsimp only at hSw); go_simp <;> with_reducible rfl)
      refine wpAnyE_take (i := 1) (v := ?v1) rfl (by kernel_rfl) (fun _ _ _ h => h) hHeld (by rfl) ?y1 ?_
      case y1 => (intro w' hSw; (try dsimp only at hSw); go_simp <;> with_reducible rfl)
      refine wpAnyE_take (i := 2) (v := ?v2) rfl (by kernel_rfl) (fun _ _ _ h => h) hHeld (by rfl) ?y2 ?_
      case y2 => (intro w' hSw; (try dsimp only at hSw); go_simp <;> with_reducible rfl)
      refine wpAnyE_take (i := 3) (v := ?v3) rfl (by kernel_rfl) (fun _ _ _ h => h) hHeld (by rfl) ?y3 ?_
      case y3 => (intro w' hSw; (try dsimp only at hSw); go_simp <;> with_reducible rfl)
      refine wpAnyE_take (i := 4) (v := ?v4) rfl (by kernel_rfl) (fun _ _ _ h => h) hHeld (by rfl) ?y4 ?_
      case y4 => (intro w' hSw; (try dsimp only at hSw); go_simp <;> with_reducible rfl)
      refine wpAnyE_take (i := 5) (v := ?v5) rfl (by kernel_rfl) (fun _ _ _ h => h) hHeld (by rfl) ?y5 ?_
      case y5 => (intro w' hSw; (try dsimp only at hSw); go_simp <;> with_reducible rfl)
      refine wpAnyE_take (i := 6) (v := ?v6) rfl (by kernel_rfl) (fun _ _ _ h => h) hHeld (by rfl) ?y6 ?_
      case y6 => (intro w' hSw; (try dsimp only at hSw); go_simp <;> with_reducible rfl)
      refine wpAnyE_take (i := 7) (v := ?v7) rfl (by kernel_rfl) (fun _ _ _ h => h) hHeld (by rfl) ?y7 ?_
      case y7 => (intro w' hSw; (try dsimp only at hSw); go_simp <;> with_reducible rfl)
      refine wpAnyE_take (i := 8) (v := ?v8) rfl (by kernel_rfl) (fun _ _ _ h => h) hHeld (by rfl) ?y8 ?_
      case y8 => (intro w' hSw; (try dsimp only at hSw); go_simp <;> with_reducible rfl)
      refine wpAnyE_take (i := 9) (v := ?v9) rfl (by kernel_rfl) (fun _ _ _ h => h) hHeld (by rfl) ?y9 ?_
      case y9 => (intro w' hSw; (try dsimp only at hSw); go_simp <;> with_reducible rfl)
      refine wpAnyE_take (i := 10) (v := ?v10) rfl (by kernel_rfl) (fun _ _ _ h => h) hHeld (by rfl) ?y10 ?_
      case y10 => (intro w' hSw; (try dsimp only at hSw); go_simp <;> with_reducible rfl)
      refine wpAnyE_take (i := 11) (v := ?v11) rfl (by kernel_rfl) (fun _ _ _ h => h) hHeld (by rfl) ?y11 ?_
      case y11 => (intro w' hSw; (try dsimp only at hSw); go_simp <;> with_reducible rfl)
      refine wpAnyE_take (i := 12) (v := ?v12) rfl (by kernel_rfl) (fun _ _ _ h => h) hHeld (by rfl) ?y12 ?_
      case y12 => (intro w' hSw; (try dsimp only at hSw); go_simp <;> with_reducible rfl)
      refine wpAnyE_take (i := 13) (v := ?v13) rfl (by kernel_rfl) (fun _ _ _ h => h) hHeld (by rfl) ?y13 ?_
      case y13 => (intro w' hSw; (try dsimp only at hSw); go_simp <;> with_reducible rfl)
      refine wpAnyE_take (i := 14) (v := ?v14) rfl (by kernel_rfl) (fun _ _ _ h => h) hHeld (by rfl) ?y14 ?_
      case y14 => (intro w' hSw; (try dsimp only at hSw); go_simp <;> with_reducible rfl)
      refine wpAnyE_one (i := 15) (by kernel_rfl) rfl (fun K hK => ?_)
      go_simp
      refine hK.out _ _ ?_ (fun hHeld => ?_)
      · exact hS.out _ ((Below.refl _ _).drew.alloc (by simp; omega) _)
      clear hK K
      refine wpAnyE_one (i := 16) (by kernel_rfl) rfl (fun K hK => ?_)
      refine step_append_lies _ (by rfl) _ _ _ (by rfl) (w.heap.size + 3) 54 i0 _ 2 16 Tryz.underlying34 hi hz0 hz1 hz2 rfl (by omega) v j (encF (l.take j)) (by rfl) (owns_below' hown.out ((Below.refl _ wr).drew.alloc (Nat.le_refl _) _)) ⟨wr.heap.size, 0, none⟩ 1 1 [.int .i64 x, .int .i64 y] (by rfl) (by rfl) (World.news_of_block (cs := #[.int .i64 x, .int .i64 y]) (t := 54) (fr := (0, 0)) (heap_alloc_new wr.drew _)) (by simp [Value.oneCell']) (by omega) h63 hby (by simp; omega) (wr.heap.size + 1) (by simp) ?_
      intro gg cp w1 hown1 hgrow hat hlt2
      have HBN : Hid (Below (w.heap.size + 3) wr w1) := ((Below.refl (w.heap.size + 3) wr).drew.alloc (by simp; omega) _).grown hgrow (by simp; omega) (fun k e => (hown.out.lt k e).1)
      have HOWN := Lib.hid hown1
      clear hown1 hgrow hat hlt2
      refine hK.out _ _ ?_ (fun hHeld => ?_)
      · exact hS.out _ HBN.out
      clear hK K
      refine wpAnyE_tail 17 (by decide) rfl (by kernel_rfl) ?_
      simp only [List.drop_succ_cons, List.drop_zero]
      have o3 := (hO.out.below HBN.out (by omega)).c1
      have f3 := (hO.out.below HBN.out (by omega)).f1
      go_wp2_with fail
      go_roundw
      case rel =>
        have hb := hBw.out.trans (HBN.out.mono (by omega))
        have hz := HBN.out.size
        refine ⟨j + 1, .slice (some ⟨gg, 0, none⟩) (j + 1) cp, by omega, by go_num, ?_, Lib.hid ((hO.out.below HBN.out (by omega)).put1 _), Lib.hid ((hE.out.below HBN.out (by omega)).far1 (by omega)), Lib.hid ((hR.out.below HBN.out (by omega)).far1 (by omega)), Lib.hid (hb.setCell (p := ⟨w.heap.size + 1 + 1, 1, none⟩) (by show w.heap.size ≤ w.heap.size + 1 + 1; omega) _), ?_⟩
        · show World.ownsRow _ _ _ _ _ _ _
          rw [HENC.out]
          exact owns_far HOWN.out (fun g h1 _ => heap_put1 _ _ _ _ _ (by omega))
        · show _ ≤ _
          rw [size_put1]; omega
      case measure => simp [intOf]; omega
    · obtain rfl : j = n := by omega
      have htk : l.take j = l := List.take_of_length_le (by rw [HN.out]; exact Nat.le_refl _)
      rw [htk] at hown
      obtain ⟨a', cap', rfl, hOwn⟩ := ownF_of hown.out HN.out
      obtain ⟨c0, c1, -, -⟩ := id hE.out
      obtain ⟨o0, o1, -, -⟩ := id hO.out
      obtain ⟨r0, r1, f0, f1⟩ := id hR.out
      have HOwn := Lib.hid hOwn
      have hb2 := Lib.hid (below_put2 hBw.out (b := w.heap.size + 1) (by omega) (.bool on) (.slice a' j cap'))
      clear hOwn htk
      go_wp2_with fail
      refine bodyPost_ret (v := .agg #[.bool on, .slice a' j cap']) (by simp [results, Tryz.results8, go_sem, r0, r1]) rfl ⟨a', cap', rfl, ⟨?_, HN.out⟩, hb2.out⟩
      exact (HOwn.out.block (Nat.le_refl _) (fun g h1 _ => heap_put2 _ _ _ _ _ (by omega))).fis

set_option maxRecDepth 100000 in
set_option maxHeartbeats 8000000 in
theorem their5_any (on : Bool) (a : Option Addr) (n cap : Nat) (l : List V) (w : World) (h : FE w a n l) (hl : n ≤ 200) :
    Calls Tryz.prog 6 #[.agg #[.bool on, .slice a n cap]] w fun e w' => ∃ a' cap', e = .returned (.agg #[.bool on, .slice a' n cap']) ∧ FE w' a' n l ∧ Below w.heap.size w w' := by
  obtain ⟨hF, hn⟩ := h
  have HF := Lib.hid hF
  have HN := Lib.hid hn
  have BE := ((Box.new w (.bool on) (.slice a n cap) 36).alloc (.cells #[.bool false, .slice none 0 0] 24)).alloc (.cells #[.bool on, .slice none 0 0] 24)
  have BR := (Box.new (w.alloc (.cells #[.bool on, .slice a n cap] 36)) (.bool false) (.slice none 0 0) 24).alloc (.cells #[.bool on, .slice none 0 0] 24)
  have BO := Box.new ((w.alloc (.cells #[.bool on, .slice a n cap] 36)).alloc (.cells #[.bool false, .slice none 0 0] 24)) (.bool on) (.slice none 0 0) 24
  have hW := below3 w (.cells #[.bool on, .slice a n cap] 36) (.cells #[.bool false, .slice none 0 0] 24) (.cells #[.bool on, .slice none 0 0] 24)
  have hsz : (((w.alloc (.cells #[.bool on, .slice a n cap] 36)).alloc (.cells #[.bool false, .slice none 0 0] 24)).alloc (.cells #[.bool on, .slice none 0 0] 24)).heap.size = w.heap.size + 3 := by simp
  simp only [World.size_alloc] at BR BO
  have HW := Lib.hid hW
  have HZ := Lib.hid hsz
  have HE := Lib.hid BE
  have HR := Lib.hid BR
  have HO := Lib.hid BO
  obtain ⟨c0, c1, -, -⟩ := BE
  clear hF hn hW hsz BR BO
  obtain ⟨i0, hi, hz0, hz1, hz2⟩ := info_parts infoR
  go_enter Tryz.func6, Tryz.ntmps6
  go_wp2_with fail
  generalize hE : ((w.alloc (.cells #[.bool on, .slice a n cap] 36)).alloc (.cells #[.bool false, .slice none 0 0] 24)).alloc (.cells #[.bool on, .slice none 0 0] 24) = W at *
  clear hE c0 c1
  go_loopw [4] (fun i wr => ∃ (j : Nat) (v : Value), j ≤ n ∧ i = .int .i64 j ∧ Hid (wr.ownsRow (w.heap.size + 3) 53 2 v j (encF (l.take j))) ∧ Hid (Box wr (w.heap.size + 1 + 1) (.bool on) v) ∧ Hid (Box wr w.heap.size (.bool on) (.slice a n cap)) ∧ Hid (Box wr (w.heap.size + 1) (.bool false) (.slice none 0 0)) ∧ Hid (Below w.heap.size w wr) ∧ Hid (w.heap.size + 3 ≤ wr.heap.size)) (fun i _ => n - (intOf i).toNat)
  case atStart => exact ⟨0, .slice none 0 0, Nat.zero_le _, rfl, World.ownsRow_nil _ _ _ _, HO, HE, HR, HW, by show _ ≤ _; rw [HZ.out]; exact Nat.le_refl _⟩
  case round =>
    clear HO HE HR HW HZ
    obtain ⟨j, v, hj, rfl, hown, hO, hE, hR, hBw, hsz⟩ := hrel
    by_cases hlt : j < n
    · have hji : (j : Int) < (n : Int) := by omega
      have hj0 : (0 : Int) ≤ (j : Int) := by omega
      have hjl : j < l.length := by rw [HN.out]; exact hlt
      obtain ⟨b, o, rfl, hbl, e0, e1⟩ := HF.out j hjl
      have htk : l.take (j + 1) = l.take j ++ [l[j]?.getD vbot] := by
        rw [List.take_succ_eq_append_getElem hjl]; simp [hjl]
      generalize l[j]?.getD vbot = u at *
      obtain ⟨x, y⟩ := u
      have henc : encF (l.take (j + 1)) = encF (l.take j) ++ [.int .i64 x, .int .i64 y] := by rw [htk, encF_snoc]
      have HENC := Lib.hid henc
      have hS : Hid (∀ w', Below (w.heap.size + 3) wr w' → w'.cell? ⟨w.heap.size + 1 + 1, 1, none⟩ = some v ∧ w'.cell? ⟨w.heap.size, 1, none⟩ = some (.slice (some ⟨b, o, none⟩) n cap) ∧ w'.cell? ⟨b, o + j * 2, none⟩ = some (.int .i64 x) ∧ w'.cell? ⟨b, o + j * 2 + 1, none⟩ = some (.int .i64 y)) := fun w' hb' =>
        ⟨(hO.out.below hb' (by omega)).c1, (hE.out.below hb' (by omega)).c1, (hb'.cell (p := ⟨b, o + j * 2, none⟩) (by show b < _; omega)).trans ((hBw.out.cell (p := ⟨b, o + j * 2, none⟩) hbl).trans e0), (hb'.cell (p := ⟨b, o + j * 2 + 1, none⟩) (by show b < _; omega)).trans ((hBw.out.cell (p := ⟨b, o + j * 2 + 1, none⟩) hbl).trans e1)⟩
      have c1 := hE.out.c1
      have hsz' := hsz.out
      have h63 : j + 1 ≤ maxLen := by unfold maxLen; omega
      have hby : (j + 1) * 16 ≤ 140737488355328 := by omega
      clear htk henc e0 e1 hjl
      go_wp2_with fail
      clear c1

      refine wp_region_late (fun w' => w'.cell? ⟨w.heap.size + 1 + 1, 1, none⟩ = some v ∧ w'.cell? ⟨w.heap.size, 1, none⟩ = some (.slice (some ⟨b, o, none⟩) n cap) ∧ w'.cell? ⟨b, o + j * 2, none⟩ = some (.int .i64 x) ∧ w'.cell? ⟨b, o + j * 2 + 1, none⟩ = some (.int .i64 y)) 17 (by kernel_rfl) (hS.out _ (Below.refl _ _).drew) (fun hHeld => ?_)
      refine wpAnyE_take (i := 0) (v := ?v0) rfl (by kernel_rfl) (fun _ _ _ h => h) hHeld (by rfl) ?y0 ?_
      case y0 => (intro w' hSw; (try dsimp only at hSw); go_simp <;> with_reducible rfl)
      refine wpAnyE_take (i := 1) (v := ?v1) rfl (by kernel_rfl) (fun _ _ _ h => h) hHeld (by rfl) ?y1 ?_
      case y1 => (intro w' hSw; (try dsimp only at hSw); go_simp <;> with_reducible rfl)
      refine wpAnyE_take (i := 2) (v := ?v2) rfl (by kernel_rfl) (fun _ _ _ h => h) hHeld (by rfl) ?y2 ?_
      case y2 => (intro w' hSw; (try dsimp only at hSw); go_simp <;> with_reducible rfl)
      refine wpAnyE_take (i := 3) (v := ?v3) rfl (by kernel_rfl) (fun _ _ _ h => h) hHeld (by rfl) ?y3 ?_
      case y3 => (intro w' hSw; (try dsimp only at hSw); go_simp <;> with_reducible rfl)
      refine wpAnyE_take (i := 4) (v := ?v4) rfl (by kernel_rfl) (fun _ _ _ h => h) hHeld (by rfl) ?y4 ?_
      case y4 => (intro w' hSw; (try dsimp only at hSw); go_simp <;> with_reducible rfl)
      refine wpAnyE_take (i := 5) (v := ?v5) rfl (by kernel_rfl) (fun _ _ _ h => h) hHeld (by rfl) ?y5 ?_
      case y5 => (intro w' hSw; (try dsimp only at hSw); go_simp <;> with_reducible rfl)
      refine wpAnyE_take (i := 6) (v := ?v6) rfl (by kernel_rfl) (fun _ _ _ h => h) hHeld (by rfl) ?y6 ?_
      case y6 => (intro w' hSw; (try dsimp only at hSw); go_simp <;> with_reducible rfl)
      refine wpAnyE_take (i := 7) (v := ?v7) rfl (by kernel_rfl) (fun _ _ _ h => h) hHeld (by rfl) ?y7 ?_
      case y7 => (intro w' hSw; (try dsimp only at hSw); go_simp <;> with_reducible rfl)
      refine wpAnyE_take (i := 8) (v := ?v8) rfl (by kernel_rfl) (fun _ _ _ h => h) hHeld (by rfl) ?y8 ?_
      case y8 => (intro w' hSw; (try dsimp only at hSw); go_simp <;> with_reducible rfl)
      refine wpAnyE_take (i := 9) (v := ?v9) rfl (by kernel_rfl) (fun _ _ _ h => h) hHeld (by rfl) ?y9 ?_
      case y9 => (intro w' hSw; (try dsimp only at hSw); go_simp <;> with_reducible rfl)
      refine wpAnyE_take (i := 10) (v := ?v10) rfl (by kernel_rfl) (fun _ _ _ h => h) hHeld (by rfl) ?y10 ?_
      case y10 => (intro w' hSw; (try dsimp only at hSw); go_simp <;> with_reducible rfl)
      refine wpAnyE_take (i := 11) (v := ?v11) rfl (by kernel_rfl) (fun _ _ _ h => h) hHeld (by rfl) ?y11 ?_
      case y11 => (intro w' hSw; (try dsimp only at hSw); go_simp <;> with_reducible rfl)
      refine wpAnyE_take (i := 12) (v := ?v12) rfl (by kernel_rfl) (fun _ _ _ h => h) hHeld (by rfl) ?y12 ?_
      case y12 => (intro w' hSw; (try dsimp only at hSw); go_simp <;> with_reducible rfl)
      refine wpAnyE_take (i := 13) (v := ?v13) rfl (by kernel_rfl) (fun _ _ _ h => h) hHeld (by rfl) ?y13 ?_
      case y13 => (intro w' hSw; (try dsimp only at hSw); go_simp <;> with_reducible rfl)
      refine wpAnyE_take (i := 14) (v := ?v14) rfl (by kernel_rfl) (fun _ _ _ h => h) hHeld (by rfl) ?y14 ?_
      case y14 => (intro w' hSw; (try dsimp only at hSw); go_simp <;> with_reducible rfl)
      refine wpAnyE_one (i := 15) (by kernel_rfl) rfl (fun K hK => ?_)
      go_simp
      refine hK.out _ _ ?_ (fun hHeld => ?_)
      · exact hS.out _ ((Below.refl _ _).drew.alloc (by simp; omega) _)
      clear hK K
      refine wpAnyE_one (i := 16) (by kernel_rfl) rfl (fun K hK => ?_)
      refine step_append_lies _ (by rfl) _ _ _ (by rfl) (w.heap.size + 3) 53 i0 _ 2 16 Tryz.underlying22 hi hz0 hz1 hz2 rfl (by omega) v j (encF (l.take j)) (by rfl) (owns_below' hown.out ((Below.refl _ wr).drew.alloc (Nat.le_refl _) _)) ⟨wr.heap.size, 0, none⟩ 1 1 [.int .i64 x, .int .i64 y] (by rfl) (by rfl) (World.news_of_block (cs := #[.int .i64 x, .int .i64 y]) (t := 53) (fr := (0, 0)) (heap_alloc_new wr.drew _)) (by simp [Value.oneCell']) (by omega) h63 hby (by simp; omega) (wr.heap.size + 1) (by simp) ?_
      intro gg cp w1 hown1 hgrow hat hlt2
      have HBN : Hid (Below (w.heap.size + 3) wr w1) := ((Below.refl (w.heap.size + 3) wr).drew.alloc (by simp; omega) _).grown hgrow (by simp; omega) (fun k e => (hown.out.lt k e).1)
      have HOWN := Lib.hid hown1
      clear hown1 hgrow hat hlt2
      refine hK.out _ _ ?_ (fun hHeld => ?_)
      · exact hS.out _ HBN.out
      clear hK K
      refine wpAnyE_tail 17 (by decide) rfl (by kernel_rfl) ?_
      simp only [List.drop_succ_cons, List.drop_zero]
      have o3 := (hO.out.below HBN.out (by omega)).c1
      have f3 := (hO.out.below HBN.out (by omega)).f1
      go_wp2_with fail
      go_roundw
      case rel =>
        have hb := hBw.out.trans (HBN.out.mono (by omega))
        have hz := HBN.out.size
        refine ⟨j + 1, .slice (some ⟨gg, 0, none⟩) (j + 1) cp, by omega, by go_num, ?_, Lib.hid ((hO.out.below HBN.out (by omega)).put1 _), Lib.hid ((hE.out.below HBN.out (by omega)).far1 (by omega)), Lib.hid ((hR.out.below HBN.out (by omega)).far1 (by omega)), Lib.hid (hb.setCell (p := ⟨w.heap.size + 1 + 1, 1, none⟩) (by show w.heap.size ≤ w.heap.size + 1 + 1; omega) _), ?_⟩
        · show World.ownsRow _ _ _ _ _ _ _
          rw [HENC.out]
          exact owns_far HOWN.out (fun g h1 _ => heap_put1 _ _ _ _ _ (by omega))
        · show _ ≤ _
          rw [size_put1]; omega
      case measure => simp [intOf]; omega
    · obtain rfl : j = n := by omega
      have htk : l.take j = l := List.take_of_length_le (by rw [HN.out]; exact Nat.le_refl _)
      rw [htk] at hown
      obtain ⟨a', cap', rfl, hOwn⟩ := ownF_of hown.out HN.out
      obtain ⟨c0, c1, -, -⟩ := id hE.out
      obtain ⟨o0, o1, -, -⟩ := id hO.out
      obtain ⟨r0, r1, f0, f1⟩ := id hR.out
      have HOwn := Lib.hid hOwn
      have hb2 := Lib.hid (below_put2 hBw.out (b := w.heap.size + 1) (by omega) (.bool on) (.slice a' j cap'))
      clear hOwn htk
      go_wp2_with fail
      refine bodyPost_ret (v := .agg #[.bool on, .slice a' j cap']) (by simp [results, Tryz.results6, go_sem, r0, r1]) rfl ⟨a', cap', rfl, ⟨?_, HN.out⟩, hb2.out⟩
      exact (HOwn.out.block (Nat.le_refl _) (fun g h1 _ => heap_put2 _ _ _ _ _ (by omega))).fis

set_option maxHeartbeats 2000000 in
theorem ourS5_any (on : Bool) (a : Option Addr) (n cap : Nat) (w : World) :
    Calls Tryz.prog 13 #[.agg #[.bool on, .slice a n cap]] w fun e w' => e = .returned (.agg #[.bool on, .slice a n cap]) ∧ Below w.heap.size w w' := by
  have BE := (Box.new w (.bool on) (.slice a n cap) 27).alloc (.cells #[.bool false, .slice none 0 0] 42)
  have BR := Box.new (w.alloc (.cells #[.bool on, .slice a n cap] 27)) (.bool false) (.slice none 0 0) 42
  have hW := below2 w (.cells #[.bool on, .slice a n cap] 27) (.cells #[.bool false, .slice none 0 0] 42)
  simp only [World.size_alloc] at BR
  generalize hE : (w.alloc (.cells #[.bool on, .slice a n cap] 27)).alloc (.cells #[.bool false, .slice none 0 0] 42) = W at *
  obtain ⟨c0, c1, -, -⟩ := BE
  obtain ⟨r0, r1, f0, f1⟩ := BR
  have hb2 := Lib.hid (below_put2 hW (b := w.heap.size + 1) (by omega) (.bool on) (.slice a n cap))
  clear hW
  go_enter Tryz.func13, Tryz.ntmps13
  go_wp2_with fail
  exact bodyPost_ret (v := .agg #[.bool on, .slice a n cap]) (by simp [results, Tryz.results13, go_sem, r0, r1]) rfl ⟨rfl, hb2.out⟩

set_option maxHeartbeats 2000000 in
theorem theirS5_any (on : Bool) (a : Option Addr) (n cap : Nat) (w : World) :
    Calls Tryz.prog 11 #[.agg #[.bool on, .slice a n cap]] w fun e w' => e = .returned (.agg #[.bool on, .slice a n cap]) ∧ Below w.heap.size w w' := by
  have BE := (Box.new w (.bool on) (.slice a n cap) 42).alloc (.cells #[.bool false, .slice none 0 0] 27)
  have BR := Box.new (w.alloc (.cells #[.bool on, .slice a n cap] 42)) (.bool false) (.slice none 0 0) 27
  have hW := below2 w (.cells #[.bool on, .slice a n cap] 42) (.cells #[.bool false, .slice none 0 0] 27)
  simp only [World.size_alloc] at BR
  generalize hE : (w.alloc (.cells #[.bool on, .slice a n cap] 42)).alloc (.cells #[.bool false, .slice none 0 0] 27) = W at *
  obtain ⟨c0, c1, -, -⟩ := BE
  obtain ⟨r0, r1, f0, f1⟩ := BR
  have hb2 := Lib.hid (below_put2 hW (b := w.heap.size + 1) (by omega) (.bool on) (.slice a n cap))
  clear hW
  go_enter Tryz.func11, Tryz.ntmps11
  go_wp2_with fail
  exact bodyPost_ret (v := .agg #[.bool on, .slice a n cap]) (by simp [results, Tryz.results11, go_sem, r0, r1]) rfl ⟨rfl, hb2.out⟩
end Go.Proofs.YtmcbedlmgffckaaGreatDoor
