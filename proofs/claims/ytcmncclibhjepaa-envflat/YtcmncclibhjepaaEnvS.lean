import Derived.Test.YtcmncclibhjepaaEnvR
import Derived.Test.YtcmncclibhjepaaLate
namespace Go.Proofs.Ytcmncclibhjepaa
open Go Go.RowKit Go.Sort

/-- With values that may be. -/
def ownLF (on : Bool) (l : List V) : List V := if on then tabG (fun j => (atG vbot true l (j : Int)).sn) l.length else []
def ownLS (on : Bool) (l : List Int) : List Int := if on then tabG (fun j => ((sS (atG 0 true l (j : Int)) : Nat) : Int)) l.length else []
theorem ownLF_len (on : Bool) (l : List V) : (ownLF on l).length = szG on l := by cases on <;> simp [ownLF, szG, tabG_length]
theorem ownLS_len (on : Bool) (l : List Int) : (ownLS on l).length = szG on l := by cases on <;> simp [ownLS, szG, tabG_length]
theorem encS_snoc (l : List Int) (x : Int) : (l ++ [x]).map (Value.int .i64) = l.map (Value.int .i64) ++ [.int .i64 x] := by simp

theorem rownF_off (a : Option Addr) (n cap : Nat) (w : World) :
    Calls Try.prog 48 #[.agg #[.bool false, .slice a n cap]] w fun e w' => e = .returned (.agg #[.bool false, .slice none 0 0]) ∧ Below w.heap.size w w' := by
  have HW := Lib.hid (below2 w (.cells #[.bool false, .slice a n cap] 24) (.cells #[.bool false, .slice none 0 0] 24))
  go_enter Try.func48, Try.ntmps48
  go_wp2_with fail
  exact bodyPost_ret (v := .agg #[.bool false, .slice none 0 0]) (by simp [results, Try.results48, go_sem]) rfl ⟨rfl, HW.out⟩

set_option maxRecDepth 100000 in
set_option maxHeartbeats 8000000 in
theorem rownF_on (a : Option Addr) (n cap : Nat) (l : List V) (w : World) (h : FE w a n l) (hl : n ≤ 200) (f : Nat → V) (hf : ∀ j : Nat, (atG vbot true l (j : Int)).sn = f j) :
    Calls Try.prog 48 #[.agg #[.bool true, .slice a n cap]] w fun e w' => ∃ a' cap', e = .returned (.agg #[.bool true, .slice a' n cap']) ∧ OwnF 26 w.heap.size w' a' (tabG f n) ∧ Below w.heap.size w w' := by
  have HG : Hid (∀ (j : Nat) W, Below w.heap.size w W → Calls Try.prog 12 #[.agg #[.bool true, .slice a n cap], .int .i64 (j : Int)] W fun e w' => e = .returned (f j).val ∧ Below W.heap.size W w') := fun j W hW => by
    have := rGetF_any true a n cap l (j : Int) W (h.below hW)
    rw [← hf j]; exact this
  have BE := ((Box.new w (.bool true) (.slice a n cap) 24).alloc (.cells #[.bool false, .slice none 0 0] 24)).alloc (.cells #[.bool true, .slice none 0 0] 24)
  have BR := (Box.new (w.alloc (.cells #[.bool true, .slice a n cap] 24)) (.bool false) (.slice none 0 0) 24).alloc (.cells #[.bool true, .slice none 0 0] 24)
  have BO := Box.new ((w.alloc (.cells #[.bool true, .slice a n cap] 24)).alloc (.cells #[.bool false, .slice none 0 0] 24)) (.bool true) (.slice none 0 0) 24
  have hW := below3 w (.cells #[.bool true, .slice a n cap] 24) (.cells #[.bool false, .slice none 0 0] 24) (.cells #[.bool true, .slice none 0 0] 24)
  have hsz : (((w.alloc (.cells #[.bool true, .slice a n cap] 24)).alloc (.cells #[.bool false, .slice none 0 0] 24)).alloc (.cells #[.bool true, .slice none 0 0] 24)).heap.size = w.heap.size + 3 := by simp
  simp only [World.size_alloc] at BR BO
  have HW := Lib.hid hW
  have HZ := Lib.hid hsz
  have HE := Lib.hid BE
  have HR := Lib.hid BR
  have HO := Lib.hid BO
  obtain ⟨c0, c1, -, -⟩ := (Box.new w (.bool true) (.slice a n cap) 24).alloc (.cells #[.bool false, .slice none 0 0] 24)
  clear hW hsz BR BO BE h hf
  obtain ⟨i0, hi, hz0, hz1, hz2⟩ := info_parts infoR
  go_enter Try.func48, Try.ntmps48
  go_wp2_with fail
  generalize hE : ((w.alloc (.cells #[.bool true, .slice a n cap] 24)).alloc (.cells #[.bool false, .slice none 0 0] 24)).alloc (.cells #[.bool true, .slice none 0 0] 24) = W at *
  clear hE c0 c1
  go_loopw [4] (fun i wr => ∃ (j : Nat) (v : Value), j ≤ n ∧ i = .int .i64 j ∧ Hid (wr.ownsRow (w.heap.size + 3) 26 2 v j (encF (tabG f j))) ∧ Hid (Box wr (w.heap.size + 1 + 1) (.bool true) v) ∧ Hid (Box wr w.heap.size (.bool true) (.slice a n cap)) ∧ Hid (Box wr (w.heap.size + 1) (.bool false) (.slice none 0 0)) ∧ Hid (Below w.heap.size w wr) ∧ Hid (w.heap.size + 3 ≤ wr.heap.size)) (fun i _ => n - (intOf i).toNat)
  case atStart => exact ⟨0, .slice none 0 0, Nat.zero_le _, rfl, World.ownsRow_nil _ _ _ _, HO, HE, HR, HW, by show _ ≤ _; rw [HZ.out]; exact Nat.le_refl _⟩
  case round =>
    clear HO HE HR HW HZ
    obtain ⟨j, v, hj, rfl, hown, hO, hE, hR, hBw, hsz⟩ := hrel
    obtain ⟨c0, c1, -, -⟩ := id hE.out
    by_cases hlt : j < n
    · have hji : (j : Int) < (n : Int) := by omega
      have q1 := Lib.hid (fun W (hb : Below wr.heap.size wr W) => HG.out j W (hBw.out.trans (hb.mono hBw.out.size)))
      obtain ⟨fj, hfj⟩ : ∃ u, f j = u := ⟨_, rfl⟩
      have henc : (encF (tabG f (j + 1))) = (encF (tabG f j)) ++ [.int .i64 fj.k, .int .i64 fj.c] := by rw [tabG_succ, hfj, encF_snoc]
      rw [hfj] at q1
      obtain ⟨x, y⟩ := fj
      unfold V.val at q1
      have HENC := Lib.hid henc
      have hsz' := hsz.out
      have h63 : j + 1 ≤ maxLen := by unfold maxLen; omega
      have hby : (j + 1) * 16 ≤ 140737488355328 := by omega
      have hS : Hid (∀ w', Below (w.heap.size + 3) wr w' → w'.cell? ⟨w.heap.size + 1 + 1, 1, none⟩ = some v ∧ w'.cell? ⟨w.heap.size, 0, none⟩ = some (.bool true) ∧ w'.cell? ⟨w.heap.size, 1, none⟩ = some (.slice a n cap)) := fun w' hb' =>
        ⟨(hO.out.below hb' (by omega)).c1, (hE.out.below hb' (by omega)).c0, (hE.out.below hb' (by omega)).c1⟩
      have HBN : Hid (Below wr.heap.size wr wr.drew) := (Below.refl _ _).drew
      clear henc hfj
      go_wp2_with fail
      clear c0 c1
      refine wp_region_late (fun w' => w'.cell? ⟨w.heap.size + 1 + 1, 1, none⟩ = some v ∧ w'.cell? ⟨w.heap.size, 0, none⟩ = some (.bool true) ∧ w'.cell? ⟨w.heap.size, 1, none⟩ = some (.slice a n cap)) 7 (by kernel_rfl) (hS.out _ (Below.refl _ _).drew) (fun hHeld => ?_)
      refine wpAnyE_take (i := 0) (v := ?v0) rfl (by kernel_rfl) (fun _ _ _ h => h) hHeld (by rfl) ?y0 ?_
      case y0 => (intro w' hSw; (try dsimp only at hSw); go_simp <;> with_reducible rfl)
      refine wpAnyE_take (i := 1) (v := ?v1) rfl (by kernel_rfl) (fun _ _ _ h => h) hHeld (by rfl) ?y1 ?_
      case y1 => (intro w' hSw; (try dsimp only at hSw); go_simp <;> with_reducible rfl)
      refine wpAnyE_take (i := 2) (v := ?v2) rfl (by kernel_rfl) (fun _ _ _ h => h) hHeld (by rfl) ?y2 ?_
      case y2 => (intro w' hSw; (try dsimp only at hSw); go_simp <;> with_reducible rfl)
      refine wpAnyE_take (i := 3) (v := ?v3) rfl (by kernel_rfl) (fun _ _ _ h => h) hHeld (by rfl) ?y3 ?_
      case y3 => (intro w' hSw; (try dsimp only at hSw); go_simp <;> with_reducible rfl)
      refine wpAnyE_one (i := 4) (by kernel_rfl) rfl (fun K hK => ?_)
      go_simp
      go_at_call 12
      refine (q1.out _ HBN.out).mono ?_
      rintro e wn ⟨rfl, hbn⟩
      have hbx := HBN.out.trans (hbn.mono HBN.out.size)
      clear HBN hbn
      have HBN := Lib.hid hbx
      clear hbx
      go_wp2_with fail
      refine hK.out _ _ ?_ (fun hHeld => ?_)
      · exact hS.out _ (HBN.out.mono hsz')
      clear hK K
      refine wpAnyE_one (i := 5) (by kernel_rfl) rfl (fun K hK => ?_)
      go_simp
      refine hK.out _ _ ?_ (fun hHeld => ?_)
      · exact hS.out _ ((HBN.out.mono hsz').alloc (Nat.le_trans hsz' HBN.out.size) _)
      clear hK K
      refine wpAnyE_one (i := 6) (by kernel_rfl) rfl (fun K hK => ?_)
      refine step_append_lies _ (by rfl) _ _ _ (by rfl) (w.heap.size + 3) 26 i0 _ 2 16 Try.underlying22 hi hz0 hz1 hz2 rfl (by omega) v j (encF (tabG f j)) (by rfl) (owns_below' (owns_below' hown.out HBN.out) ((Below.refl _ wn).alloc (Nat.le_refl _) _)) ⟨wn.heap.size, 0, none⟩ 1 1 [.int .i64 x, .int .i64 y] (by rfl) (by rfl) (World.news_of_block (cs := #[.int .i64 x, .int .i64 y]) (t := 26) (fr := (0, 0)) (heap_alloc_new wn _)) (by simp [Value.oneCell']) (by omega) h63 hby (by have := HBN.out.size; simp; omega) (wn.heap.size + 1) (by simp) ?_
      intro gg cp w1 hown1 hgrow hat hlt2
      have HB3 : Hid (Below (w.heap.size + 3) wr w1) := ((HBN.out.mono hsz').alloc (Nat.le_trans hsz' HBN.out.size) _).grown hgrow (by have := HBN.out.size; simp; omega) (fun k e => (hown.out.lt k e).1)
      have HOWN := Lib.hid hown1
      clear hown1 hgrow hat hlt2
      refine hK.out _ _ ?_ (fun hHeld => ?_)
      · exact hS.out _ HB3.out
      clear hK K
      refine wpAnyE_tail 7 (by decide) rfl (by kernel_rfl) ?_
      simp only [List.drop_succ_cons, List.drop_zero]
      have o3 := (hO.out.below HB3.out (by omega)).c1
      have f3 := (hO.out.below HB3.out (by omega)).f1
      go_wp2_with fail
      go_roundw
      case rel =>
        have hb := hBw.out.trans (HB3.out.mono (by omega))
        have hz := HB3.out.size
        refine ⟨j + 1, .slice (some ⟨gg, 0, none⟩) (j + 1) cp, by omega, by go_num, ?_, Lib.hid ((hO.out.below HB3.out (by omega)).put1 _), Lib.hid ((hE.out.below HB3.out (by omega)).far1 (by omega)), Lib.hid ((hR.out.below HB3.out (by omega)).far1 (by omega)), Lib.hid (hb.setCell (p := ⟨w.heap.size + 1 + 1, 1, none⟩) (by show w.heap.size ≤ w.heap.size + 1 + 1; omega) _), ?_⟩
        · show World.ownsRow _ _ _ _ _ _ _
          rw [HENC.out]
          exact owns_far HOWN.out (fun g h1 _ => heap_put1 _ _ _ _ _ (by omega))
        · show _ ≤ _
          rw [size_put1]; omega
      case measure => simp [intOf]; omega
    · obtain rfl : j = n := by omega
      obtain ⟨a', cap', rfl, hOwn⟩ := ownF_of hown.out (tabG_length f j)
      obtain ⟨o0, o1, -, -⟩ := id hO.out
      obtain ⟨r0, r1, f0, f1⟩ := id hR.out
      have HOwn := Lib.hid hOwn
      have hb2 := Lib.hid (below_put2 hBw.out (b := w.heap.size + 1) (by omega) (.bool true) (.slice a' j cap'))
      clear hOwn HG
      go_wp2_with fail
      refine bodyPost_ret (v := .agg #[.bool true, .slice a' j cap']) (by simp [results, Try.results48, go_sem, r0, r1]) rfl ⟨a', cap', rfl, ?_, hb2.out⟩
      exact HOwn.out.block (by omega) (fun g h1 _ => heap_put2 _ _ _ _ _ (by omega))

theorem rownF_any (on : Bool) (a : Option Addr) (n cap : Nat) (l : List V) (w : World) (h : FE w a n l) (hl : n ≤ 200) (m : Nat) (hm : szG on l = m) (l' : List V) (hl' : ownLF on l = l') :
    Calls Try.prog 48 #[.agg #[.bool on, .slice a n cap]] w fun e w' => ∃ a' cap', e = .returned (.agg #[.bool on, .slice a' m cap']) ∧ OwnF 26 w.heap.size w' a' l' ∧ Below w.heap.size w w' := by
  subst hm hl'
  cases on with
  | false =>
    refine (rownF_off a n cap w).mono ?_
    rintro e w' ⟨rfl, hb⟩
    exact ⟨none, 0, rfl, .inl rfl, hb⟩
  | true =>
    have hn := h.2
    refine (rownF_on a n cap l w h hl _ (fun _ => rfl)).mono ?_
    rintro e w' ⟨a', cap', rfl, hO, hb⟩
    refine ⟨a', cap', ?_, ?_, hb⟩
    · show _ = Ending.returned (.agg #[.bool true, .slice a' l.length cap'])
      rw [hn]
    · show OwnF _ _ _ _ (tabG _ l.length)
      rw [hn]; exact hO

theorem rownS_off (a : Option Addr) (n cap : Nat) (w : World) :
    Calls Try.prog 60 #[.agg #[.bool false, .slice a n cap]] w fun e w' => e = .returned (.agg #[.bool false, .slice none 0 0]) ∧ Below w.heap.size w w' := by
  have HW := Lib.hid (below2 w (.cells #[.bool false, .slice a n cap] 48) (.cells #[.bool false, .slice none 0 0] 48))
  go_enter Try.func60, Try.ntmps60
  go_wp2_with fail
  exact bodyPost_ret (v := .agg #[.bool false, .slice none 0 0]) (by simp [results, Try.results60, go_sem]) rfl ⟨rfl, HW.out⟩

set_option maxRecDepth 100000 in
set_option maxHeartbeats 8000000 in
theorem rownS_on (a : Option Addr) (n cap : Nat) (l : List Int) (w : World) (h : SE w a n l) (hl : n ≤ 200) (f : Nat → Int) (hf : ∀ j : Nat, ((sS (atG 0 true l (j : Int)) : Nat) : Int) = f j) :
    Calls Try.prog 60 #[.agg #[.bool true, .slice a n cap]] w fun e w' => ∃ a' cap', e = .returned (.agg #[.bool true, .slice a' n cap']) ∧ OwnS 3 w.heap.size w' a' (tabG f n) ∧ Below w.heap.size w w' := by
  have HG : Hid (∀ (j : Nat) W, Below w.heap.size w W → Calls Try.prog 27 #[.agg #[.bool true, .slice a n cap], .int .i64 (j : Int)] W fun e w' => e = .returned (.int .i64 (f j)) ∧ Below W.heap.size W w') := fun j W hW => by
    have := rGetS_any true a n cap l (j : Int) W (h.below hW)
    rw [← hf j]; exact this
  have BE := ((Box.new w (.bool true) (.slice a n cap) 48).alloc (.cells #[.bool false, .slice none 0 0] 48)).alloc (.cells #[.bool true, .slice none 0 0] 48)
  have BR := (Box.new (w.alloc (.cells #[.bool true, .slice a n cap] 48)) (.bool false) (.slice none 0 0) 48).alloc (.cells #[.bool true, .slice none 0 0] 48)
  have BO := Box.new ((w.alloc (.cells #[.bool true, .slice a n cap] 48)).alloc (.cells #[.bool false, .slice none 0 0] 48)) (.bool true) (.slice none 0 0) 48
  have hW := below3 w (.cells #[.bool true, .slice a n cap] 48) (.cells #[.bool false, .slice none 0 0] 48) (.cells #[.bool true, .slice none 0 0] 48)
  have hsz : (((w.alloc (.cells #[.bool true, .slice a n cap] 48)).alloc (.cells #[.bool false, .slice none 0 0] 48)).alloc (.cells #[.bool true, .slice none 0 0] 48)).heap.size = w.heap.size + 3 := by simp
  simp only [World.size_alloc] at BR BO
  have HW := Lib.hid hW
  have HZ := Lib.hid hsz
  have HE := Lib.hid BE
  have HR := Lib.hid BR
  have HO := Lib.hid BO
  obtain ⟨c0, c1, -, -⟩ := (Box.new w (.bool true) (.slice a n cap) 48).alloc (.cells #[.bool false, .slice none 0 0] 48)
  clear hW hsz BR BO BE h hf
  obtain ⟨i0, hi, hz0, hz1, hz2⟩ := info_parts info3
  go_enter Try.func60, Try.ntmps60
  go_wp2_with fail
  generalize hE : ((w.alloc (.cells #[.bool true, .slice a n cap] 48)).alloc (.cells #[.bool false, .slice none 0 0] 48)).alloc (.cells #[.bool true, .slice none 0 0] 48) = W at *
  clear hE c0 c1
  go_loopw [4] (fun i wr => ∃ (j : Nat) (v : Value), j ≤ n ∧ i = .int .i64 j ∧ Hid (wr.ownsRow (w.heap.size + 3) 3 1 v j ((tabG f j).map (Value.int .i64))) ∧ Hid (Box wr (w.heap.size + 1 + 1) (.bool true) v) ∧ Hid (Box wr w.heap.size (.bool true) (.slice a n cap)) ∧ Hid (Box wr (w.heap.size + 1) (.bool false) (.slice none 0 0)) ∧ Hid (Below w.heap.size w wr) ∧ Hid (w.heap.size + 3 ≤ wr.heap.size)) (fun i _ => n - (intOf i).toNat)
  case atStart => exact ⟨0, .slice none 0 0, Nat.zero_le _, rfl, World.ownsRow_nil _ _ _ _, HO, HE, HR, HW, by show _ ≤ _; rw [HZ.out]; exact Nat.le_refl _⟩
  case round =>
    clear HO HE HR HW HZ
    obtain ⟨j, v, hj, rfl, hown, hO, hE, hR, hBw, hsz⟩ := hrel
    obtain ⟨c0, c1, -, -⟩ := id hE.out
    by_cases hlt : j < n
    · have hji : (j : Int) < (n : Int) := by omega
      have q1 := Lib.hid (fun W (hb : Below wr.heap.size wr W) => HG.out j W (hBw.out.trans (hb.mono hBw.out.size)))
      obtain ⟨x, hfj⟩ : ∃ u, f j = u := ⟨_, rfl⟩
      have henc : ((tabG f (j + 1)).map (Value.int .i64)) = ((tabG f j).map (Value.int .i64)) ++ [.int .i64 x] := by rw [tabG_succ, hfj, encS_snoc]
      rw [hfj] at q1
      have hdes0 : True := trivial
      have hdes : True := trivial
      have HENC := Lib.hid henc
      have hsz' := hsz.out
      have h63 : j + 1 ≤ maxLen := by unfold maxLen; omega
      have hby : (j + 1) * 8 ≤ 140737488355328 := by omega
      have hS : Hid (∀ w', Below (w.heap.size + 3) wr w' → w'.cell? ⟨w.heap.size + 1 + 1, 1, none⟩ = some v ∧ w'.cell? ⟨w.heap.size, 0, none⟩ = some (.bool true) ∧ w'.cell? ⟨w.heap.size, 1, none⟩ = some (.slice a n cap)) := fun w' hb' =>
        ⟨(hO.out.below hb' (by omega)).c1, (hE.out.below hb' (by omega)).c0, (hE.out.below hb' (by omega)).c1⟩
      have HBN : Hid (Below wr.heap.size wr wr.drew) := (Below.refl _ _).drew
      clear henc hfj
      go_wp2_with fail
      clear c0 c1
      refine wp_region_late (fun w' => w'.cell? ⟨w.heap.size + 1 + 1, 1, none⟩ = some v ∧ w'.cell? ⟨w.heap.size, 0, none⟩ = some (.bool true) ∧ w'.cell? ⟨w.heap.size, 1, none⟩ = some (.slice a n cap)) 7 (by kernel_rfl) (hS.out _ (Below.refl _ _).drew) (fun hHeld => ?_)
      refine wpAnyE_take (i := 0) (v := ?v0) rfl (by kernel_rfl) (fun _ _ _ h => h) hHeld (by rfl) ?y0 ?_
      case y0 => (intro w' hSw; (try dsimp only at hSw); go_simp <;> with_reducible rfl)
      refine wpAnyE_take (i := 1) (v := ?v1) rfl (by kernel_rfl) (fun _ _ _ h => h) hHeld (by rfl) ?y1 ?_
      case y1 => (intro w' hSw; (try dsimp only at hSw); go_simp <;> with_reducible rfl)
      refine wpAnyE_take (i := 2) (v := ?v2) rfl (by kernel_rfl) (fun _ _ _ h => h) hHeld (by rfl) ?y2 ?_
      case y2 => (intro w' hSw; (try dsimp only at hSw); go_simp <;> with_reducible rfl)
      refine wpAnyE_take (i := 3) (v := ?v3) rfl (by kernel_rfl) (fun _ _ _ h => h) hHeld (by rfl) ?y3 ?_
      case y3 => (intro w' hSw; (try dsimp only at hSw); go_simp <;> with_reducible rfl)
      refine wpAnyE_one (i := 4) (by kernel_rfl) rfl (fun K hK => ?_)
      go_simp
      go_at_call 27
      refine (q1.out _ HBN.out).mono ?_
      rintro e wn ⟨rfl, hbn⟩
      have hbx := HBN.out.trans (hbn.mono HBN.out.size)
      clear HBN hbn
      have HBN := Lib.hid hbx
      clear hbx
      go_wp2_with fail
      refine hK.out _ _ ?_ (fun hHeld => ?_)
      · exact hS.out _ (HBN.out.mono hsz')
      clear hK K
      refine wpAnyE_one (i := 5) (by kernel_rfl) rfl (fun K hK => ?_)
      go_simp
      refine hK.out _ _ ?_ (fun hHeld => ?_)
      · exact hS.out _ ((HBN.out.mono hsz').alloc (Nat.le_trans hsz' HBN.out.size) _)
      clear hK K
      refine wpAnyE_one (i := 6) (by kernel_rfl) rfl (fun K hK => ?_)
      refine step_append_lies _ (by rfl) _ _ _ (by rfl) (w.heap.size + 3) 3 i0 _ 1 8 Try.underlying46 hi hz0 hz1 hz2 rfl (by omega) v j ((tabG f j).map (Value.int .i64)) (by rfl) (owns_below' (owns_below' hown.out HBN.out) ((Below.refl _ wn).alloc (Nat.le_refl _) _)) ⟨wn.heap.size, 0, none⟩ 1 1 [.int .i64 x] (by rfl) (by rfl) (World.news_of_block (cs := #[.int .i64 x]) (t := 3) (fr := (0, 0)) (heap_alloc_new wn _)) (by simp [Value.oneCell']) (by omega) h63 hby (by have := HBN.out.size; simp; omega) (wn.heap.size + 1) (by simp) ?_
      intro gg cp w1 hown1 hgrow hat hlt2
      have HB3 : Hid (Below (w.heap.size + 3) wr w1) := ((HBN.out.mono hsz').alloc (Nat.le_trans hsz' HBN.out.size) _).grown hgrow (by have := HBN.out.size; simp; omega) (fun k e => (hown.out.lt k e).1)
      have HOWN := Lib.hid hown1
      clear hown1 hgrow hat hlt2
      refine hK.out _ _ ?_ (fun hHeld => ?_)
      · exact hS.out _ HB3.out
      clear hK K
      refine wpAnyE_tail 7 (by decide) rfl (by kernel_rfl) ?_
      simp only [List.drop_succ_cons, List.drop_zero]
      have o3 := (hO.out.below HB3.out (by omega)).c1
      have f3 := (hO.out.below HB3.out (by omega)).f1
      go_wp2_with fail
      go_roundw
      case rel =>
        have hb := hBw.out.trans (HB3.out.mono (by omega))
        have hz := HB3.out.size
        refine ⟨j + 1, .slice (some ⟨gg, 0, none⟩) (j + 1) cp, by omega, by go_num, ?_, Lib.hid ((hO.out.below HB3.out (by omega)).put1 _), Lib.hid ((hE.out.below HB3.out (by omega)).far1 (by omega)), Lib.hid ((hR.out.below HB3.out (by omega)).far1 (by omega)), Lib.hid (hb.setCell (p := ⟨w.heap.size + 1 + 1, 1, none⟩) (by show w.heap.size ≤ w.heap.size + 1 + 1; omega) _), ?_⟩
        · show World.ownsRow _ _ _ _ _ _ _
          rw [HENC.out]
          exact owns_far HOWN.out (fun g h1 _ => heap_put1 _ _ _ _ _ (by omega))
        · show _ ≤ _
          rw [size_put1]; omega
      case measure => simp [intOf]; omega
    · obtain rfl : j = n := by omega
      obtain ⟨a', cap', rfl, hOwn⟩ := ownS_of hown.out (tabG_length f j)
      obtain ⟨o0, o1, -, -⟩ := id hO.out
      obtain ⟨r0, r1, f0, f1⟩ := id hR.out
      have HOwn := Lib.hid hOwn
      have hb2 := Lib.hid (below_put2 hBw.out (b := w.heap.size + 1) (by omega) (.bool true) (.slice a' j cap'))
      clear hOwn HG
      go_wp2_with fail
      refine bodyPost_ret (v := .agg #[.bool true, .slice a' j cap']) (by simp [results, Try.results60, go_sem, r0, r1]) rfl ⟨a', cap', rfl, ?_, hb2.out⟩
      exact HOwn.out.block (by omega) (fun g h1 _ => heap_put2 _ _ _ _ _ (by omega))

theorem rownS_any (on : Bool) (a : Option Addr) (n cap : Nat) (l : List Int) (w : World) (h : SE w a n l) (hl : n ≤ 200) (m : Nat) (hm : szG on l = m) (l' : List Int) (hl' : ownLS on l = l') :
    Calls Try.prog 60 #[.agg #[.bool on, .slice a n cap]] w fun e w' => ∃ a' cap', e = .returned (.agg #[.bool on, .slice a' m cap']) ∧ OwnS 3 w.heap.size w' a' l' ∧ Below w.heap.size w w' := by
  subst hm hl'
  cases on with
  | false =>
    refine (rownS_off a n cap w).mono ?_
    rintro e w' ⟨rfl, hb⟩
    exact ⟨none, 0, rfl, .inl rfl, hb⟩
  | true =>
    have hn := h.2
    refine (rownS_on a n cap l w h hl _ (fun _ => rfl)).mono ?_
    rintro e w' ⟨a', cap', rfl, hO, hb⟩
    refine ⟨a', cap', ?_, ?_, hb⟩
    · show _ = Ending.returned (.agg #[.bool true, .slice a' l.length cap'])
      rw [hn]
    · show OwnS _ _ _ _ (tabG _ l.length)
      rw [hn]; exact hO

set_option maxRecDepth 100000 in
set_option maxHeartbeats 8000000 in
theorem rFlats_any (n : Int) (vk vc : Int) (w : World) (m : Nat) (hm : clG n 64 = m) (l : List V) (hl : tabG (fun _ => V.sn ⟨vk, vc⟩) m = l) :
    Calls Try.prog 22 #[.int .i64 n, .agg #[.int .i64 vk, .int .i64 vc]] w fun e w' => ∃ a' cap', e = .returned (.agg #[.bool true, .slice a' m cap']) ∧ FE w' a' m l ∧ Below w.heap.size w w' := by
  subst hl
  have q1 : Hid (∀ W, Calls Try.prog 43 #[.agg #[.int .i64 vk, .int .i64 vc]] W fun e w' => e = .returned (V.sn ⟨vk, vc⟩).val ∧ Below W.heap.size W w') := fun W => rval_any ⟨vk, vc⟩ W
  have hm64 := clG_le n 64
  rw [hm] at hm64
  have hcase : (n < 0 ∧ m = 0) ∨ (64 < n ∧ m = 64) ∨ (n = (m : Int)) := by
    rw [← hm]; unfold clG; split <;> (try split) <;> omega
  obtain ⟨u, hu⟩ : ∃ u, V.sn ⟨vk, vc⟩ = u := ⟨_, rfl⟩
  rw [hu] at q1 ⊢
  have HT : ∀ j, (encF (tabG (fun _ => u) (j + 1))) = (encF (tabG (fun _ => u) j)) ++ [.int .i64 u.k, .int .i64 u.c] := fun j => by rw [tabG_succ, encF_snoc]
  have HENC := Lib.hid HT
  clear hu hm HT
  have BV := ((Box.new w (.int .i64 vk) (.int .i64 vc) 26).alloc (.cells #[.bool false, .slice none 0 0] 24)).alloc (.cells #[.bool true, .slice none 0 0] 24)
  have BR := (Box.new (w.alloc (.cells #[.int .i64 vk, .int .i64 vc] 26)) (.bool false) (.slice none 0 0) 24).alloc (.cells #[.bool true, .slice none 0 0] 24)
  have BO := Box.new ((w.alloc (.cells #[.int .i64 vk, .int .i64 vc] 26)).alloc (.cells #[.bool false, .slice none 0 0] 24)) (.bool true) (.slice none 0 0) 24
  have hW := below3 w (.cells #[.int .i64 vk, .int .i64 vc] 26) (.cells #[.bool false, .slice none 0 0] 24) (.cells #[.bool true, .slice none 0 0] 24)
  have hsz : (((w.alloc (.cells #[.int .i64 vk, .int .i64 vc] 26)).alloc (.cells #[.bool false, .slice none 0 0] 24)).alloc (.cells #[.bool true, .slice none 0 0] 24)).heap.size = w.heap.size + 3 := by simp
  simp only [World.size_alloc] at BR BO
  have HV := Lib.hid BV
  have HW := Lib.hid hW
  have HZ := Lib.hid hsz
  have HR := Lib.hid BR
  have HO := Lib.hid BO
  clear hW hsz BR BO BV
  obtain ⟨i0, hi, hz0, hz1, hz2⟩ := info_parts infoR
  go_enter Try.func22, Try.ntmps22
  go_wp2_with fail
  generalize hE : ((w.alloc (.cells #[.int .i64 vk, .int .i64 vc] 26)).alloc (.cells #[.bool false, .slice none 0 0] 24)).alloc (.cells #[.bool true, .slice none 0 0] 24) = W at *
  clear hE
  go_loopw [6] (fun i wr => ∃ (j : Nat) (v : Value), j ≤ m ∧ i = .int .i64 j ∧ Hid (wr.ownsRow (w.heap.size + 3) 26 2 v j (encF (tabG (fun _ => u) j))) ∧ Hid (Box wr (w.heap.size + 1 + 1) (.bool true) v) ∧ Hid (Box wr w.heap.size (.int .i64 vk) (.int .i64 vc)) ∧ Hid (Box wr (w.heap.size + 1) (.bool false) (.slice none 0 0)) ∧ Hid (Below w.heap.size w wr) ∧ Hid (w.heap.size + 3 ≤ wr.heap.size)) (fun i _ => m - (intOf i).toNat)
  case atStart => exact ⟨0, .slice none 0 0, Nat.zero_le _, rfl, World.ownsRow_nil _ _ _ _, HO, HV, HR, HW, by show _ ≤ _; rw [HZ.out]; exact Nat.le_refl _⟩
  case round =>
    clear HO HR HW HZ HV
    obtain ⟨j, v, hj, rfl, hown, hO, hV, hR, hBw, hsz⟩ := hrel
    by_cases hlt : j < m
    · have hji : (j : Int) < (m : Int) := by omega
      have hj64 : (j : Int) < 64 := by omega
      have hjn : (j : Int) < n := by omega
      have hc2 : n ≤ 64 ∨ 64 < n := by omega
      have henc := HENC.out j
      obtain ⟨x, y⟩ := u
      unfold V.val at q1
      have HENCJ := Lib.hid henc
      have hsz' := hsz.out
      have h63 : j + 1 ≤ maxLen := by unfold maxLen; omega
      have hby : (j + 1) * 16 ≤ 140737488355328 := by omega
      have hS : Hid (∀ w', Below (w.heap.size + 3) wr w' → w'.cell? ⟨w.heap.size + 1 + 1, 1, none⟩ = some v ∧ w'.cell? ⟨w.heap.size, 0, none⟩ = some (.int .i64 vk) ∧ w'.cell? ⟨w.heap.size, 1, none⟩ = some (.int .i64 vc)) := fun w' hb' =>
        ⟨(hO.out.below hb' (by omega)).c1, (hV.out.below hb' (by omega)).c0, (hV.out.below hb' (by omega)).c1⟩
      have HBN : Hid (Below wr.heap.size wr wr.drew) := (Below.refl _ _).drew
      clear henc hcase HENC
      rcases hc2 with hc2 | hc2
      all_goals
        go_wp2_with fail
        refine wp_region_late (fun w' => w'.cell? ⟨w.heap.size + 1 + 1, 1, none⟩ = some v ∧ w'.cell? ⟨w.heap.size, 0, none⟩ = some (.int .i64 vk) ∧ w'.cell? ⟨w.heap.size, 1, none⟩ = some (.int .i64 vc)) 6 (by kernel_rfl) (hS.out _ (Below.refl _ _).drew) (fun hHeld => ?_)
        refine wpAnyE_take (i := 0) (v := ?v0) rfl (by kernel_rfl) (fun _ _ _ h => h) hHeld (by rfl) ?y0 ?_
        case y0 => (intro w' hSw; (try dsimp only at hSw); go_simp <;> with_reducible rfl)
        refine wpAnyE_take (i := 1) (v := ?v1) rfl (by kernel_rfl) (fun _ _ _ h => h) hHeld (by rfl) ?y1 ?_
        case y1 => (intro w' hSw; (try dsimp only at hSw); go_simp <;> with_reducible rfl)
        refine wpAnyE_take (i := 2) (v := ?v2) rfl (by kernel_rfl) (fun _ _ _ h => h) hHeld (by rfl) ?y2 ?_
        case y2 => (intro w' hSw; (try dsimp only at hSw); go_simp <;> with_reducible rfl)
        refine wpAnyE_one (i := 3) (by kernel_rfl) rfl (fun K hK => ?_)
        go_simp
        go_at_call 43
        refine (q1.out _).mono ?_
        rintro e wn ⟨rfl, hbn⟩
        have hbx := HBN.out.trans (hbn.mono HBN.out.size)
        clear HBN hbn
        have HBN := Lib.hid hbx
        clear hbx
        go_wp2_with fail
        refine hK.out _ _ ?_ (fun hHeld => ?_)
        · exact hS.out _ (HBN.out.mono hsz')
        clear hK K
        refine wpAnyE_one (i := 4) (by kernel_rfl) rfl (fun K hK => ?_)
        go_simp
        refine hK.out _ _ ?_ (fun hHeld => ?_)
        · exact hS.out _ ((HBN.out.mono hsz').alloc (Nat.le_trans hsz' HBN.out.size) _)
        clear hK K
        refine wpAnyE_one (i := 5) (by kernel_rfl) rfl (fun K hK => ?_)
        refine step_append_lies _ (by rfl) _ _ _ (by rfl) (w.heap.size + 3) 26 i0 _ 2 16 Try.underlying22 hi hz0 hz1 hz2 rfl (by omega) v j (encF (tabG (fun _ => (⟨x, y⟩ : V)) j)) (by rfl) (owns_below' (owns_below' hown.out HBN.out) ((Below.refl _ wn).alloc (Nat.le_refl _) _)) ⟨wn.heap.size, 0, none⟩ 1 1 [.int .i64 x, .int .i64 y] (by rfl) (by rfl) (World.news_of_block (cs := #[.int .i64 x, .int .i64 y]) (t := 26) (fr := (0, 0)) (heap_alloc_new wn _)) (by simp [Value.oneCell']) (by omega) h63 hby (by have := HBN.out.size; simp; omega) (wn.heap.size + 1) (by simp) ?_
        intro gg cp w1 hown1 hgrow hat hlt2
        have HB3 : Hid (Below (w.heap.size + 3) wr w1) := ((HBN.out.mono hsz').alloc (Nat.le_trans hsz' HBN.out.size) _).grown hgrow (by have := HBN.out.size; simp; omega) (fun k e => (hown.out.lt k e).1)
        have HOWN := Lib.hid hown1
        clear hown1 hgrow hat hlt2
        refine hK.out _ _ ?_ (fun hHeld => ?_)
        · exact hS.out _ HB3.out
        clear hK K
        refine wpAnyE_tail 6 (by decide) rfl (by kernel_rfl) ?_
        simp only [List.drop_succ_cons, List.drop_zero]
        have o3 := (hO.out.below HB3.out (by omega)).c1
        have f3 := (hO.out.below HB3.out (by omega)).f1
        go_wp2_with fail
        go_roundw
        case rel =>
          have hb := hBw.out.trans (HB3.out.mono (by omega))
          have hz := HB3.out.size
          refine ⟨j + 1, .slice (some ⟨gg, 0, none⟩) (j + 1) cp, by omega, by go_num, ?_, Lib.hid ((hO.out.below HB3.out (by omega)).put1 _), Lib.hid ((hV.out.below HB3.out (by omega)).far1 (by omega)), Lib.hid ((hR.out.below HB3.out (by omega)).far1 (by omega)), Lib.hid (hb.setCell (p := ⟨w.heap.size + 1 + 1, 1, none⟩) (by show w.heap.size ≤ w.heap.size + 1 + 1; omega) _), ?_⟩
          · show World.ownsRow _ _ _ _ _ _ _
            rw [HENCJ.out]
            exact owns_far HOWN.out (fun g h1 _ => heap_put1 _ _ _ _ _ (by omega))
          · show _ ≤ _
            rw [size_put1]; omega
        case measure => simp [intOf]; omega
    · obtain rfl : j = m := by omega
      obtain ⟨a', cap', rfl, hOwn⟩ := ownF_of hown.out (tabG_length _ j)
      obtain ⟨o0, o1, -, -⟩ := id hO.out
      obtain ⟨r0, r1, f0, f1⟩ := id hR.out
      have HOwn := Lib.hid hOwn
      have hb2 := Lib.hid (below_put2 hBw.out (b := w.heap.size + 1) (by omega) (.bool true) (.slice a' j cap'))
      clear hOwn q1 HENC
      have hc3 : (n ≤ 64 ∧ n ≤ (j : Int)) ∨ (64 < n ∧ 64 ≤ (j : Int)) := by omega
      clear hcase
      rcases hc3 with ⟨h1, h2⟩ | ⟨h1, h2⟩
      all_goals
        go_wp2_with fail
        refine bodyPost_ret (v := .agg #[.bool true, .slice a' j cap']) (by simp [results, Try.results22, go_sem, r0, r1]) rfl ⟨a', cap', rfl, ⟨?_, tabG_length _ _⟩, hb2.out⟩
        exact (HOwn.out.block (Nat.le_refl _) (fun g h1 _ => heap_put2 _ _ _ _ _ (by omega))).fis

set_option maxRecDepth 100000 in
set_option maxHeartbeats 8000000 in
theorem rSigns_any (n : Int) (s : Int) (w : World) (m : Nat) (hm : clG n 64 = m) (l : List Int) (hl : tabG (fun _ => ((sS s : Nat) : Int)) m = l) :
    Calls Try.prog 37 #[.int .i64 n, .int .i64 s] w fun e w' => ∃ a' cap', e = .returned (.agg #[.bool true, .slice a' m cap']) ∧ SE w' a' m l ∧ Below w.heap.size w w' := by
  subst hl
  have q1 : Hid (∀ W, Calls Try.prog 55 #[.int .i64 s] W fun e w' => e = .returned (.int .i64 (((sS s : Nat) : Int))) ∧ Below W.heap.size W w') := fun W => rset_any s W
  have hm64 := clG_le n 64
  rw [hm] at hm64
  have hcase : (n < 0 ∧ m = 0) ∨ (64 < n ∧ m = 64) ∨ (n = (m : Int)) := by
    rw [← hm]; unfold clG; split <;> (try split) <;> omega
  obtain ⟨x, hu⟩ : ∃ u, ((sS s : Nat) : Int) = u := ⟨_, rfl⟩
  rw [hu] at q1 ⊢
  have HT : ∀ j, ((tabG (fun _ => x) (j + 1)).map (Value.int .i64)) = ((tabG (fun _ => x) j).map (Value.int .i64)) ++ [.int .i64 x] := fun j => by rw [tabG_succ, encS_snoc]
  have HENC := Lib.hid HT
  clear hu hm HT
  have BR := (Box.new w (.bool false) (.slice none 0 0) 48).alloc (.cells #[.bool true, .slice none 0 0] 48)
  have BO := Box.new (w.alloc (.cells #[.bool false, .slice none 0 0] 48)) (.bool true) (.slice none 0 0) 48
  have hW := below2 w (.cells #[.bool false, .slice none 0 0] 48) (.cells #[.bool true, .slice none 0 0] 48)
  have hsz : ((w.alloc (.cells #[.bool false, .slice none 0 0] 48)).alloc (.cells #[.bool true, .slice none 0 0] 48)).heap.size = w.heap.size + 2 := by simp
  simp only [World.size_alloc] at BO
  have HW := Lib.hid hW
  have HZ := Lib.hid hsz
  have HR := Lib.hid BR
  have HO := Lib.hid BO
  clear hW hsz BR BO
  obtain ⟨i0, hi, hz0, hz1, hz2⟩ := info_parts info3
  go_enter Try.func37, Try.ntmps37
  go_wp2_with fail
  generalize hE : (w.alloc (.cells #[.bool false, .slice none 0 0] 48)).alloc (.cells #[.bool true, .slice none 0 0] 48) = W at *
  clear hE
  go_loopw [6] (fun i wr => ∃ (j : Nat) (v : Value), j ≤ m ∧ i = .int .i64 j ∧ Hid (wr.ownsRow (w.heap.size + 2) 3 1 v j ((tabG (fun _ => x) j).map (Value.int .i64))) ∧ Hid (Box wr (w.heap.size + 1) (.bool true) v) ∧ Hid (Box wr (w.heap.size) (.bool false) (.slice none 0 0)) ∧ Hid (Below w.heap.size w wr) ∧ Hid (w.heap.size + 2 ≤ wr.heap.size)) (fun i _ => m - (intOf i).toNat)
  case atStart => exact ⟨0, .slice none 0 0, Nat.zero_le _, rfl, World.ownsRow_nil _ _ _ _, HO, HR, HW, by show _ ≤ _; rw [HZ.out]; exact Nat.le_refl _⟩
  case round =>
    clear HO HR HW HZ
    obtain ⟨j, v, hj, rfl, hown, hO, hR, hBw, hsz⟩ := hrel
    by_cases hlt : j < m
    · have hji : (j : Int) < (m : Int) := by omega
      have hj64 : (j : Int) < 64 := by omega
      have hjn : (j : Int) < n := by omega
      have hc2 : n ≤ 64 ∨ 64 < n := by omega
      have henc := HENC.out j
      have hdes0 : True := trivial
      have hdes : True := trivial
      have HENCJ := Lib.hid henc
      have hsz' := hsz.out
      have h63 : j + 1 ≤ maxLen := by unfold maxLen; omega
      have hby : (j + 1) * 8 ≤ 140737488355328 := by omega
      have hS : Hid (∀ w', Below (w.heap.size + 2) wr w' → w'.cell? ⟨w.heap.size + 1, 1, none⟩ = some v) := fun w' hb' => (hO.out.below hb' (by omega)).c1
      have HBN : Hid (Below wr.heap.size wr wr.drew) := (Below.refl _ _).drew
      clear henc hcase HENC
      rcases hc2 with hc2 | hc2
      all_goals
        go_wp2_with fail
        refine wp_region_late (fun w' => w'.cell? ⟨w.heap.size + 1, 1, none⟩ = some v) 6 (by kernel_rfl) (hS.out _ (Below.refl _ _).drew) (fun hHeld => ?_)
        refine wpAnyE_take (i := 0) (v := ?v0) rfl (by kernel_rfl) (fun _ _ _ h => h) hHeld (by rfl) ?y0 ?_
        case y0 => (intro w' hSw; (try dsimp only at hSw); go_simp <;> with_reducible rfl)
        refine wpAnyE_take (i := 1) (v := ?v1) rfl (by kernel_rfl) (fun _ _ _ h => h) hHeld (by rfl) ?y1 ?_
        case y1 => (intro w' hSw; (try dsimp only at hSw); go_simp <;> with_reducible rfl)
        refine wpAnyE_take (i := 2) (v := ?v2) rfl (by kernel_rfl) (fun _ _ _ h => h) hHeld (by rfl) ?y2 ?_
        case y2 => (intro w' hSw; (try dsimp only at hSw); go_simp <;> with_reducible rfl)
        refine wpAnyE_one (i := 3) (by kernel_rfl) rfl (fun K hK => ?_)
        go_simp
        go_at_call 55
        refine (q1.out _).mono ?_
        rintro e wn ⟨rfl, hbn⟩
        have hbx := HBN.out.trans (hbn.mono HBN.out.size)
        clear HBN hbn
        have HBN := Lib.hid hbx
        clear hbx
        go_wp2_with fail
        refine hK.out _ _ ?_ (fun hHeld => ?_)
        · exact hS.out _ (HBN.out.mono hsz')
        clear hK K
        refine wpAnyE_one (i := 4) (by kernel_rfl) rfl (fun K hK => ?_)
        go_simp
        refine hK.out _ _ ?_ (fun hHeld => ?_)
        · exact hS.out _ ((HBN.out.mono hsz').alloc (Nat.le_trans hsz' HBN.out.size) _)
        clear hK K
        refine wpAnyE_one (i := 5) (by kernel_rfl) rfl (fun K hK => ?_)
        refine step_append_lies _ (by rfl) _ _ _ (by rfl) (w.heap.size + 2) 3 i0 _ 1 8 Try.underlying46 hi hz0 hz1 hz2 rfl (by omega) v j ((tabG (fun _ => x) j).map (Value.int .i64)) (by rfl) (owns_below' (owns_below' hown.out HBN.out) ((Below.refl _ wn).alloc (Nat.le_refl _) _)) ⟨wn.heap.size, 0, none⟩ 1 1 [.int .i64 x] (by rfl) (by rfl) (World.news_of_block (cs := #[.int .i64 x]) (t := 3) (fr := (0, 0)) (heap_alloc_new wn _)) (by simp [Value.oneCell']) (by omega) h63 hby (by have := HBN.out.size; simp; omega) (wn.heap.size + 1) (by simp) ?_
        intro gg cp w1 hown1 hgrow hat hlt2
        have HB3 : Hid (Below (w.heap.size + 2) wr w1) := ((HBN.out.mono hsz').alloc (Nat.le_trans hsz' HBN.out.size) _).grown hgrow (by have := HBN.out.size; simp; omega) (fun k e => (hown.out.lt k e).1)
        have HOWN := Lib.hid hown1
        clear hown1 hgrow hat hlt2
        refine hK.out _ _ ?_ (fun hHeld => ?_)
        · exact hS.out _ HB3.out
        clear hK K
        refine wpAnyE_tail 6 (by decide) rfl (by kernel_rfl) ?_
        simp only [List.drop_succ_cons, List.drop_zero]
        have o3 := (hO.out.below HB3.out (by omega)).c1
        have f3 := (hO.out.below HB3.out (by omega)).f1
        go_wp2_with fail
        go_roundw
        case rel =>
          have hb := hBw.out.trans (HB3.out.mono (by omega))
          have hz := HB3.out.size
          refine ⟨j + 1, .slice (some ⟨gg, 0, none⟩) (j + 1) cp, by omega, by go_num, ?_, Lib.hid ((hO.out.below HB3.out (by omega)).put1 _), Lib.hid ((hR.out.below HB3.out (by omega)).far1 (by omega)), Lib.hid (hb.setCell (p := ⟨w.heap.size + 1, 1, none⟩) (by show w.heap.size ≤ w.heap.size + 1; omega) _), ?_⟩
          · show World.ownsRow _ _ _ _ _ _ _
            rw [HENCJ.out]
            exact owns_far HOWN.out (fun g h1 _ => heap_put1 _ _ _ _ _ (by omega))
          · show _ ≤ _
            rw [size_put1]; omega
        case measure => simp [intOf]; omega
    · obtain rfl : j = m := by omega
      obtain ⟨a', cap', rfl, hOwn⟩ := ownS_of hown.out (tabG_length _ j)
      obtain ⟨o0, o1, -, -⟩ := id hO.out
      obtain ⟨r0, r1, f0, f1⟩ := id hR.out
      have HOwn := Lib.hid hOwn
      have hb2 := Lib.hid (below_put2 hBw.out (b := w.heap.size) (by omega) (.bool true) (.slice a' j cap'))
      clear hOwn q1 HENC
      have hc3 : (n ≤ 64 ∧ n ≤ (j : Int)) ∨ (64 < n ∧ 64 ≤ (j : Int)) := by omega
      clear hcase
      rcases hc3 with ⟨h1, h2⟩ | ⟨h1, h2⟩
      all_goals
        go_wp2_with fail
        refine bodyPost_ret (v := .agg #[.bool true, .slice a' j cap']) (by simp [results, Try.results37, go_sem, r0, r1]) rfl ⟨a', cap', rfl, ⟨?_, tabG_length _ _⟩, hb2.out⟩
        exact (HOwn.out.block (Nat.le_refl _) (fun g h1 _ => heap_put2 _ _ _ _ _ (by omega))).fis

end Go.Proofs.Ytcmncclibhjepaa