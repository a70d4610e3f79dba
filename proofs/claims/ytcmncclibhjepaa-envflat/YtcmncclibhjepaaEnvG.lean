import Derived.Test.YtcmncclibhjepaaEnvF
import Derived.Test.YtcmncclibhjepaaLate
namespace Go.Proofs.Ytcmncclibhjepaa
open Go Go.RowKit Go.Sort

/-- The cells of values. -/
def encF (l : List V) : List Value := l.flatMap fun v => [.int .i64 v.k, .int .i64 v.c]
theorem encF_snoc (l : List V) (v : V) : encF (l ++ [v]) = encF l ++ [.int .i64 v.k, .int .i64 v.c] := by simp [encF]
theorem encF_at (l : List V) : ∀ j, j < l.length → (encF l)[j * 2]? = some (.int .i64 (l[j]?.getD vbot).k) ∧ (encF l)[j * 2 + 1]? = some (.int .i64 (l[j]?.getD vbot).c) := by
  induction l with
  | nil => intro j hj; exact absurd hj (Nat.not_lt_zero _)
  | cons v r ih =>
    intro j hj
    have e : encF (v :: r) = .int .i64 v.k :: .int .i64 v.c :: encF r := by simp [encF]
    rw [e]
    cases j with
    | zero => simp
    | succ j =>
      have := ih j (by simpa using hj)
      rw [show (j + 1) * 2 = j * 2 + 1 + 1 by omega]
      simpa using this
/-- Values of the call's own, as a slice that is read, and may be written. -/
def OwnF (t : TypeId) (n0 : Nat) (W : World) (a : Option Addr) (l : List V) : Prop := l = [] ∨ ∃ g, a = some ⟨g, 0, none⟩ ∧ FreshF t n0 W g l
def OwnS (t : TypeId) (n0 : Nat) (W : World) (a : Option Addr) (l : List Int) : Prop := l = [] ∨ ∃ g, a = some ⟨g, 0, none⟩ ∧ FreshS t n0 W g l
theorem OwnF.fis {t : TypeId} {n0 : Nat} {W : World} {a : Option Addr} {l : List V} (h : OwnF t n0 W a l) : FIs W.heap.size W a l := by
  rcases h with rfl | ⟨g, rfl, hF⟩
  · exact FIs.nil _ _ _
  · exact hF.fis
theorem OwnS.fis {t : TypeId} {n0 : Nat} {W : World} {a : Option Addr} {l : List Int} (h : OwnS t n0 W a l) : Is W.heap.size W a l := by
  rcases h with rfl | ⟨g, rfl, hF⟩
  · exact Is.nil _ _ _
  · exact hF.fis
theorem OwnF.block {t : TypeId} {n0 n1 : Nat} {W W' : World} {a : Option Addr} {l : List V} (h : OwnF t n0 W a l) (hn : n1 ≤ n0) (hb : ∀ g, n0 ≤ g → g < W.heap.size → W'.heap[g]? = W.heap[g]?) : OwnF t n1 W' a l :=
  h.imp id fun ⟨g, e, hF⟩ => ⟨g, e, (hF.block (hb g hF.1 hF.lt)).base hn⟩
theorem OwnS.block {t : TypeId} {n0 n1 : Nat} {W W' : World} {a : Option Addr} {l : List Int} (h : OwnS t n0 W a l) (hn : n1 ≤ n0) (hb : ∀ g, n0 ≤ g → g < W.heap.size → W'.heap[g]? = W.heap[g]?) : OwnS t n1 W' a l :=
  h.imp id fun ⟨g, e, hF⟩ => ⟨g, e, (hF.block (hb g hF.1 hF.lt)).base hn⟩
theorem ownF_of {t : TypeId} {n0 : Nat} {W : World} {v : Value} {l : List V} {n : Nat} (h : W.ownsRow n0 t 2 v n (encF l)) (hn : l.length = n) : ∃ a cap, v = .slice a n cap ∧ OwnF t n0 W a l := by
  obtain ⟨hlen, ⟨rfl, h0⟩ | ⟨g, cap, cur, rfl, hb, hc, hle, _, hsz, htk⟩⟩ := h
  · subst h0
    exact ⟨none, 0, rfl, .inl (List.eq_nil_of_length_eq_zero hn)⟩
  · refine ⟨_, cap, rfl, .inr ⟨g, rfl, hb, cur, hc, by rw [hn, hsz]; exact Nat.mul_le_mul_right _ hle, fun j hj => ?_⟩⟩
    obtain ⟨e0, e1⟩ := encF_at l j hj
    have ht : ∀ q, q < n * 2 → cur[q]? = (encF l)[q]? := fun q hq => by rw [← htk, List.getElem?_take_of_lt hq, Array.getElem?_toList]
    exact ⟨(ht _ (by omega)).trans e0, (ht _ (by omega)).trans e1⟩
theorem ownS_of {t : TypeId} {n0 : Nat} {W : World} {v : Value} {l : List Int} {n : Nat} (h : W.ownsRow n0 t 1 v n (l.map (Value.int .i64))) (hn : l.length = n) : ∃ a cap, v = .slice a n cap ∧ OwnS t n0 W a l := by
  obtain ⟨hlen, ⟨rfl, h0⟩ | ⟨g, cap, cur, rfl, hb, hc, hle, _, hsz, htk⟩⟩ := h
  · subst h0
    exact ⟨none, 0, rfl, .inl (List.eq_nil_of_length_eq_zero hn)⟩
  · refine ⟨_, cap, rfl, .inr ⟨g, rfl, hb, cur, hc, by rw [hn, hsz]; omega, fun j hj => ?_⟩⟩
    have ht : cur[j]? = (l.map (Value.int .i64))[j]? := by rw [← htk, List.getElem?_take_of_lt (by omega), Array.getElem?_toList]
    rw [ht]
    simp [hj]
/-- A row of the call's own, of which the world's blocks from B on have not been written. -/
theorem owns_far {W W' : World} {b : Nat} {e : TypeId} {size n : Nat} {v : Value} {xs : List Value} (h : W.ownsRow b e size v n xs) (hb : ∀ g, b ≤ g → g < W.heap.size → W'.heap[g]? = W.heap[g]?) : W'.ownsRow b e size v n xs :=
  ⟨h.1, h.2.imp id fun ⟨g, cap, cur, a, hg, hc, r⟩ => ⟨g, cap, cur, a, hg, (hb g hg (Array.getElem?_eq_some_iff.1 hc).1).trans hc, r⟩⟩
theorem owns_below' {W W' : World} {b : Nat} {e : TypeId} {size n : Nat} {v : Value} {xs : List Value} (h : W.ownsRow b e size v n xs) (hb : Below W.heap.size W W') : W'.ownsRow b e size v n xs := owns_far h fun g _ hl => hb.block g hl
theorem own_ne {W : World} {b : Nat} {e : TypeId} {size n : Nat} {v : Value} {xs : List Value} (h : W.ownsRow b e size v n xs) {k : Nat} (hk : k < b) : some k ≠ v.ownBlock := fun he => by
  have := (h.lt k he.symm).1
  omega
theorem Box.put1 {W : World} {b : Nat} {x y : Value} (h : Box W b x y) (y' : Value) : Box (W.setCell ⟨b, 1, none⟩ y') b x y' := by
  obtain ⟨c0, c1, f0, f1⟩ := h
  refine ⟨by rw [World.cell?_setCell_other _ _ _ _ (by simp)]; exact c0, World.cell?_setCell_same' _ _ _ (by rw [c1]; rfl), by rw [World.frozen?_setCell]; exact f0, by rw [World.frozen?_setCell]; exact f1⟩
theorem heap_put1 (W : World) (b k i : Nat) (x : Value) (h : k ≠ b) : (W.setCell ⟨b, i, none⟩ x).heap[k]? = W.heap[k]? := Below.heap_setCell _ _ _ _ (by simpa using h)
theorem size_put1 (W : World) (b i : Nat) (x : Value) : (W.setCell ⟨b, i, none⟩ x).heap.size = W.heap.size := by simp [World.setCell]

set_option maxRecDepth 100000 in
set_option maxHeartbeats 8000000 in
theorem our_any (on : Bool) (a : Option Addr) (n cap : Nat) (l : List V) (w : World) (h : FE w a n l) (hl : n ≤ 200) :
    Calls Try.prog 10 #[.agg #[.bool on, .slice a n cap]] w fun e w' => ∃ a' cap', e = .returned (.agg #[.bool on, .slice a' n cap']) ∧ FE w' a' n l ∧ Below w.heap.size w w' := by
  obtain ⟨hF, hn⟩ := h
  have HF := Lib.hid hF
  have HN := Lib.hid hn
  have BE := ((Box.new w (.bool on) (.slice a n cap) 24).alloc (.cells #[.bool false, .slice none 0 0] 30)).alloc (.cells #[.bool on, .slice none 0 0] 30)
  have BR := (Box.new (w.alloc (.cells #[.bool on, .slice a n cap] 24)) (.bool false) (.slice none 0 0) 30).alloc (.cells #[.bool on, .slice none 0 0] 30)
  have BO := Box.new ((w.alloc (.cells #[.bool on, .slice a n cap] 24)).alloc (.cells #[.bool false, .slice none 0 0] 30)) (.bool on) (.slice none 0 0) 30
  have hW := below3 w (.cells #[.bool on, .slice a n cap] 24) (.cells #[.bool false, .slice none 0 0] 30) (.cells #[.bool on, .slice none 0 0] 30)
  have hsz : (((w.alloc (.cells #[.bool on, .slice a n cap] 24)).alloc (.cells #[.bool false, .slice none 0 0] 30)).alloc (.cells #[.bool on, .slice none 0 0] 30)).heap.size = w.heap.size + 3 := by simp
  simp only [World.size_alloc] at BR BO
  have HW := Lib.hid hW
  have HZ := Lib.hid hsz
  have HE := Lib.hid BE
  have HR := Lib.hid BR
  have HO := Lib.hid BO
  obtain ⟨c0, c1, -, -⟩ := BE
  clear hF hn hW hsz BR BO
  obtain ⟨i0, hi, hz0, hz1, hz2⟩ := info_parts infoF
  go_enter Try.func10, Try.ntmps10
  go_wp2_with fail
  generalize hE : ((w.alloc (.cells #[.bool on, .slice a n cap] 24)).alloc (.cells #[.bool false, .slice none 0 0] 30)).alloc (.cells #[.bool on, .slice none 0 0] 30) = W at *
  clear hE c0 c1
  go_loopw [4] (fun i wr => ∃ (j : Nat) (v : Value), j ≤ n ∧ i = .int .i64 j ∧ Hid (wr.ownsRow (w.heap.size + 3) 32 2 v j (encF (l.take j))) ∧ Hid (Box wr (w.heap.size + 1 + 1) (.bool on) v) ∧ Hid (Box wr w.heap.size (.bool on) (.slice a n cap)) ∧ Hid (Box wr (w.heap.size + 1) (.bool false) (.slice none 0 0)) ∧ Hid (Below w.heap.size w wr) ∧ Hid (w.heap.size + 3 ≤ wr.heap.size)) (fun i _ => n - (intOf i).toNat)
  case atStart => exact ⟨0, .slice none 0 0, Nat.zero_le _, rfl, World.ownsRow_nil _ _ _ _, HO, HE, HR, HW, by show _ ≤ _; rw [HZ.out]; exact Nat.le_refl _⟩
  case round =>
    clear HO HE HR HW HZ
    obtain ⟨j, v, hj, rfl, hown, hO, hE, hR, hBw, hsz⟩ := hrel
    by_cases hlt : j < n
    · have hji : (j : Int) < (n : Int) := by omega
      have hj0 : (0 : Int) ≤ (j : Int) := by omega
      have hjl : j < l.length := by rw [HN.out]; exact hlt
      obtain ⟨b, o, rfl, hbl, e0, e1⟩ := HF.out j hjl
      have htk : l.take (j + 1) = l.take j ++ [l[j]?.getD vbot] := by
        rw [List.take_succ_eq_append_getElem hjl]; simp [hjl]
      generalize l[j]?.getD vbot = u at *
      obtain ⟨x, y⟩ := u
      have henc : encF (l.take (j + 1)) = encF (l.take j) ++ [.int .i64 x, .int .i64 y] := by rw [htk, encF_snoc]
      have HENC := Lib.hid henc
      have hS : Hid (∀ w', Below (w.heap.size + 3) wr w' → w'.cell? ⟨w.heap.size + 1 + 1, 1, none⟩ = some v ∧ w'.cell? ⟨w.heap.size, 1, none⟩ = some (.slice (some ⟨b, o, none⟩) n cap) ∧ w'.cell? ⟨b, o + j * 2, none⟩ = some (.int .i64 x) ∧ w'.cell? ⟨b, o + j * 2 + 1, none⟩ = some (.int .i64 y)) := fun w' hb' =>
        ⟨(hO.out.below hb' (by omega)).c1, (hE.out.below hb' (by omega)).c1, (hb'.cell (p := ⟨b, o + j * 2, none⟩) (by show b < _; omega)).trans ((hBw.out.cell (p := ⟨b, o + j * 2, none⟩) hbl).trans e0), (hb'.cell (p := ⟨b, o + j * 2 + 1, none⟩) (by show b < _; omega)).trans ((hBw.out.cell (p := ⟨b, o + j * 2 + 1, none⟩) hbl).trans e1)⟩
      have c1 := hE.out.c1
      have hsz' := hsz.out
      have h63 : j + 1 ≤ maxLen := by unfold maxLen; omega
      have hby : (j + 1) * 16 ≤ 140737488355328 := by omega
      clear htk henc e0 e1 hjl
      go_wp2_with fail
      clear c1

      refine wp_region_late (fun w' => w'.cell? ⟨w.heap.size + 1 + 1, 1, none⟩ = some v ∧ w'.cell? ⟨w.heap.size, 1, none⟩ = some (.slice (some ⟨b, o, none⟩) n cap) ∧ w'.cell? ⟨b, o + j * 2, none⟩ = some (.int .i64 x) ∧ w'.cell? ⟨b, o + j * 2 + 1, none⟩ = some (.int .i64 y)) 17 (by kernel_rfl) (hS.out _ (Below.refl _ _).drew) (fun hHeld => ?_)
      refine wpAnyE_take (i := 0) (v := ?v0) rfl (by kernel_rfl) (fun _ _ _ h => h) hHeld (by rfl) ?y0 ?_
      case y0 => (intro w' hSw; (try dsimp only at hSw); go_simp <;> with_reducible rfl)
      refine wpAnyE_take (i := 1) (v := ?v1) rfl (by kernel_rfl) (fun _ _ _ h => h) hHeld (by rfl) ?y1 ?_
      case y1 => (intro w' hSw; (try dsimp only at hSw); go_simp <;> with_reducible rfl)
      refine wpAnyE_take (i := 2) (v := ?v2) rfl (by kernel_rfl) (fun _ _ _ h => h) hHeld (by rfl) ?y2 ?_
      case y2 => (intro w' hSw; (try dsimp only at hSw); go_simp <;> with_reducible rfl)
      refine wpAnyE_take (i := 3) (v := ?v3) rfl (by kernel_rfl) (fun _ _ _ h => h) hHeld (by rfl) ?y3 ?_
      case y3 => (intro w' hSw; (try dsimp only at hSw); go_simp <;> with_reducible rfl)
      refine wpAnyE_take (i := 4) (v := ?v4) rfl (by kernel_rfl) (fun _ _ _ h => h) hHeld (by rfl) ?y4 ?_
      case y4 => (intro w' hSw; (try dsimp only at hSw); go_simp <;> with_reducible rfl)
      refine wpAnyE_take (i := 5) (v := ?v5) rfl (by kernel_rfl) (fun _ _ _ h => h) hHeld (by rfl) ?y5 ?_
      case y5 => (intro w' hSw; (try dsimp only at hSw); go_simp <;> with_reducible rfl)
      refine wpAnyE_take (i := 6) (v := ?v6) rfl (by kernel_rfl) (fun _ _ _ h => h) hHeld (by rfl) ?y6 ?_
      case y6 => (intro w' hSw; (try dsimp only at hSw); go_simp <;> with_reducible rfl)
      refine wpAnyE_take (i := 7) (v := ?v7) rfl (by kernel_rfl) (fun _ _ _ h => h) hHeld (by rfl) ?y7 ?_
      case y7 => (intro w' hSw; (try dsimp only at hSw); go_simp <;> with_reducible rfl)
      refine wpAnyE_take (i := 8) (v := ?v8) rfl (by kernel_rfl) (fun _ _ _ h => h) hHeld (by rfl) ?y8 ?_
      case y8 => (intro w' hSw; (try dsimp only at hSw); go_simp <;> with_reducible rfl)
      refine wpAnyE_take (i := 9) (v := ?v9) rfl (by kernel_rfl) (fun _ _ _ h => h) hHeld (by rfl) ?y9 ?_
      case y9 => (intro w' hSw; (try dsimp only at hSw); go_simp <;> with_reducible rfl)
      refine wpAnyE_take (i := 10) (v := ?v10) rfl (by kernel_rfl) (fun _ _ _ h => h) hHeld (by rfl) ?y10 ?_
      case y10 => (intro w' hSw; (try dsimp only at hSw); go_simp <;> with_reducible rfl)
      refine wpAnyE_take (i := 11) (v := ?v11) rfl (by kernel_rfl) (fun _ _ _ h => h) hHeld (by rfl) ?y11 ?_
      case y11 => (intro w' hSw; (try dsimp only at hSw); go_simp <;> with_reducible rfl)
      refine wpAnyE_take (i := 12) (v := ?v12) rfl (by kernel_rfl) (fun _ _ _ h => h) hHeld (by rfl) ?y12 ?_
      case y12 => (intro w' hSw; (try dsimp only at hSw); go_simp <;> with_reducible rfl)
      refine wpAnyE_take (i := 13) (v := ?v13) rfl (by kernel_rfl) (fun _ _ _ h => h) hHeld (by rfl) ?y13 ?_
      case y13 => (intro w' hSw; (try dsimp only at hSw); go_simp <;> with_reducible rfl)
      refine wpAnyE_take (i := 14) (v := ?v14) rfl (by kernel_rfl) (fun _ _ _ h => h) hHeld (by rfl) ?y14 ?_
      case y14 => (intro w' hSw; (try dsimp only at hSw); go_simp <;> with_reducible rfl)
      refine wpAnyE_one (i := 15) (by kernel_rfl) rfl (fun K hK => ?_)
      go_simp
      refine hK.out _ _ ?_ (fun hHeld => ?_)
      · exact hS.out _ ((Below.refl _ _).drew.alloc (by simp; omega) _)
      clear hK K
      refine wpAnyE_one (i := 16) (by kernel_rfl) rfl (fun K hK => ?_)
      refine step_append_lies _ (by rfl) _ _ _ (by rfl) (w.heap.size + 3) 32 i0 _ 2 16 Try.underlying28 hi hz0 hz1 hz2 rfl (by omega) v j (encF (l.take j)) (by rfl) (owns_below' hown.out ((Below.refl _ wr).drew.alloc (Nat.le_refl _) _)) ⟨wr.heap.size, 0, none⟩ 1 1 [.int .i64 x, .int .i64 y] (by rfl) (by rfl) (World.news_of_block (cs := #[.int .i64 x, .int .i64 y]) (t := 32) (fr := (0, 0)) (heap_alloc_new wr.drew _)) (by simp [Value.oneCell']) (by omega) h63 hby (by simp; omega) (wr.heap.size + 1) (by simp) ?_
      intro gg cp w1 hown1 hgrow hat hlt2
      have HBN : Hid (Below (w.heap.size + 3) wr w1) := ((Below.refl (w.heap.size + 3) wr).drew.alloc (by simp; omega) _).grown hgrow (by simp; omega) (fun k e => (hown.out.lt k e).1)
      have HOWN := Lib.hid hown1
      clear hown1 hgrow hat hlt2
      refine hK.out _ _ ?_ (fun hHeld => ?_)
      · exact hS.out _ HBN.out
      clear hK K
      refine wpAnyE_tail 17 (by decide) rfl (by kernel_rfl) ?_
      simp only [List.drop_succ_cons, List.drop_zero]
      have o3 := (hO.out.below HBN.out (by omega)).c1
      have f3 := (hO.out.below HBN.out (by omega)).f1
      go_wp2_with fail
      go_roundw
      case rel =>
        have hb := hBw.out.trans (HBN.out.mono (by omega))
        have hz := HBN.out.size
        refine ⟨j + 1, .slice (some ⟨gg, 0, none⟩) (j + 1) cp, by omega, by go_num, ?_, Lib.hid ((hO.out.below HBN.out (by omega)).put1 _), Lib.hid ((hE.out.below HBN.out (by omega)).far1 (by omega)), Lib.hid ((hR.out.below HBN.out (by omega)).far1 (by omega)), Lib.hid (hb.setCell (p := ⟨w.heap.size + 1 + 1, 1, none⟩) (by show w.heap.size ≤ w.heap.size + 1 + 1; omega) _), ?_⟩
        · show World.ownsRow _ _ _ _ _ _ _
          rw [HENC.out]
          exact owns_far HOWN.out (fun g h1 _ => heap_put1 _ _ _ _ _ (by omega))
        · show _ ≤ _
          rw [size_put1]; omega
      case measure => simp [intOf]; omega
    · obtain rfl : j = n := by omega
      have htk : l.take j = l := List.take_of_length_le (by rw [HN.out]; exact Nat.le_refl _)
      rw [htk] at hown
      obtain ⟨a', cap', rfl, hOwn⟩ := ownF_of hown.out HN.out
      obtain ⟨c0, c1, -, -⟩ := id hE.out
      obtain ⟨o0, o1, -, -⟩ := id hO.out
      obtain ⟨r0, r1, f0, f1⟩ := id hR.out
      have HOwn := Lib.hid hOwn
      have hb2 := Lib.hid (below_put2 hBw.out (b := w.heap.size + 1) (by omega) (.bool on) (.slice a' j cap'))
      clear hOwn htk
      go_wp2_with fail
      refine bodyPost_ret (v := .agg #[.bool on, .slice a' j cap']) (by simp [results, Try.results10, go_sem, r0, r1]) rfl ⟨a', cap', rfl, ⟨?_, HN.out⟩, hb2.out⟩
      exact (HOwn.out.block (Nat.le_refl _) (fun g h1 _ => heap_put2 _ _ _ _ _ (by omega))).fis

set_option maxRecDepth 100000 in
set_option maxHeartbeats 8000000 in
theorem their_any (on : Bool) (a : Option Addr) (n cap : Nat) (l : List V) (w : World) (h : FE w a n l) (hl : n ≤ 200) :
    Calls Try.prog 16 #[.agg #[.bool on, .slice a n cap]] w fun e w' => ∃ a' cap', e = .returned (.agg #[.bool on, .slice a' n cap']) ∧ FE w' a' n l ∧ Below w.heap.size w w' := by
  obtain ⟨hF, hn⟩ := h
  have HF := Lib.hid hF
  have HN := Lib.hid hn
  have BE := ((Box.new w (.bool on) (.slice a n cap) 30).alloc (.cells #[.bool false, .slice none 0 0] 24)).alloc (.cells #[.bool on, .slice none 0 0] 24)
  have BR := (Box.new (w.alloc (.cells #[.bool on, .slice a n cap] 30)) (.bool false) (.slice none 0 0) 24).alloc (.cells #[.bool on, .slice none 0 0] 24)
  have BO := Box.new ((w.alloc (.cells #[.bool on, .slice a n cap] 30)).alloc (.cells #[.bool false, .slice none 0 0] 24)) (.bool on) (.slice none 0 0) 24
  have hW := below3 w (.cells #[.bool on, .slice a n cap] 30) (.cells #[.bool false, .slice none 0 0] 24) (.cells #[.bool on, .slice none 0 0] 24)
  have hsz : (((w.alloc (.cells #[.bool on, .slice a n cap] 30)).alloc (.cells #[.bool false, .slice none 0 0] 24)).alloc (.cells #[.bool on, .slice none 0 0] 24)).heap.size = w.heap.size + 3 := by simp
  simp only [World.size_alloc] at BR BO
  have HW := Lib.hid hW
  have HZ := Lib.hid hsz
  have HE := Lib.hid BE
  have HR := Lib.hid BR
  have HO := Lib.hid BO
  obtain ⟨c0, c1, -, -⟩ := BE
  clear hF hn hW hsz BR BO
  obtain ⟨i0, hi, hz0, hz1, hz2⟩ := info_parts infoR
  go_enter Try.func16, Try.ntmps16
  go_wp2_with fail
  generalize hE : ((w.alloc (.cells #[.bool on, .slice a n cap] 30)).alloc (.cells #[.bool false, .slice none 0 0] 24)).alloc (.cells #[.bool on, .slice none 0 0] 24) = W at *
  clear hE c0 c1
  go_loopw [4] (fun i wr => ∃ (j : Nat) (v : Value), j ≤ n ∧ i = .int .i64 j ∧ Hid (wr.ownsRow (w.heap.size + 3) 26 2 v j (encF (l.take j))) ∧ Hid (Box wr (w.heap.size + 1 + 1) (.bool on) v) ∧ Hid (Box wr w.heap.size (.bool on) (.slice a n cap)) ∧ Hid (Box wr (w.heap.size + 1) (.bool false) (.slice none 0 0)) ∧ Hid (Below w.heap.size w wr) ∧ Hid (w.heap.size + 3 ≤ wr.heap.size)) (fun i _ => n - (intOf i).toNat)
  case atStart => exact ⟨0, .slice none 0 0, Nat.zero_le _, rfl, World.ownsRow_nil _ _ _ _, HO, HE, HR, HW, by show _ ≤ _; rw [HZ.out]; exact Nat.le_refl _⟩
  case round =>
    clear HO HE HR HW HZ
    obtain ⟨j, v, hj, rfl, hown, hO, hE, hR, hBw, hsz⟩ := hrel
    by_cases hlt : j < n
    · have hji : (j : Int) < (n : Int) := by omega
      have hj0 : (0 : Int) ≤ (j : Int) := by omega
      have hjl : j < l.length := by rw [HN.out]; exact hlt
      obtain ⟨b, o, rfl, hbl, e0, e1⟩ := HF.out j hjl
      have htk : l.take (j + 1) = l.take j ++ [l[j]?.getD vbot] := by
        rw [List.take_succ_eq_append_getElem hjl]; simp [hjl]
      generalize l[j]?.getD vbot = u at *
      obtain ⟨x, y⟩ := u
      have henc : encF (l.take (j + 1)) = encF (l.take j) ++ [.int .i64 x, .int .i64 y] := by rw [htk, encF_snoc]
      have HENC := Lib.hid henc
      have hS : Hid (∀ w', Below (w.heap.size + 3) wr w' → w'.cell? ⟨w.heap.size + 1 + 1, 1, none⟩ = some v ∧ w'.cell? ⟨w.heap.size, 1, none⟩ = some (.slice (some ⟨b, o, none⟩) n cap) ∧ w'.cell? ⟨b, o + j * 2, none⟩ = some (.int .i64 x) ∧ w'.cell? ⟨b, o + j * 2 + 1, none⟩ = some (.int .i64 y)) := fun w' hb' =>
        ⟨(hO.out.below hb' (by omega)).c1, (hE.out.below hb' (by omega)).c1, (hb'.cell (p := ⟨b, o + j * 2, none⟩) (by show b < _; omega)).trans ((hBw.out.cell (p := ⟨b, o + j * 2, none⟩) hbl).trans e0), (hb'.cell (p := ⟨b, o + j * 2 + 1, none⟩) (by show b < _; omega)).trans ((hBw.out.cell (p := ⟨b, o + j * 2 + 1, none⟩) hbl).trans e1)⟩
      have c1 := hE.out.c1
      have hsz' := hsz.out
      have h63 : j + 1 ≤ maxLen := by unfold maxLen; omega
      have hby : (j + 1) * 16 ≤ 140737488355328 := by omega
      clear htk henc e0 e1 hjl
      go_wp2_with fail
      clear c1

      refine wp_region_late (fun w' => w'.cell? ⟨w.heap.size + 1 + 1, 1, none⟩ = some v ∧ w'.cell? ⟨w.heap.size, 1, none⟩ = some (.slice (some ⟨b, o, none⟩) n cap) ∧ w'.cell? ⟨b, o + j * 2, none⟩ = some (.int .i64 x) ∧ w'.cell? ⟨b, o + j * 2 + 1, none⟩ = some (.int .i64 y)) 17 (by kernel_rfl) (hS.out _ (Below.refl _ _).drew) (fun hHeld => ?_)
      refine wpAnyE_take (i := 0) (v := ?v0) rfl (by kernel_rfl) (fun _ _ _ h => h) hHeld (by rfl) ?y0 ?_
      case y0 => (intro w' hSw; (try dsimp only at hSw); go_simp <;> with_reducible rfl)
      refine wpAnyE_take (i := 1) (v := ?v1) rfl (by kernel_rfl) (fun _ _ _ h => h) hHeld (by rfl) ?y1 ?_
      case y1 => (intro w' hSw; (try dsimp only at hSw); go_simp <;> with_reducible rfl)
      refine wpAnyE_take (i := 2) (v := ?v2) rfl (by kernel_rfl) (fun _ _ _ h => h) hHeld (by rfl) ?y2 ?_
      case y2 => (intro w' hSw; (try dsimp only at hSw); go_simp <;> with_reducible rfl)
      refine wpAnyE_take (i := 3) (v := ?v3) rfl (by kernel_rfl) (fun _ _ _ h => h) hHeld (by rfl) ?y3 ?_
      case y3 => (intro w' hSw; (try dsimp only at hSw); go_simp <;> with_reducible rfl)
      refine wpAnyE_take (i := 4) (v := ?v4) rfl (by kernel_rfl) (fun _ _ _ h => h) hHeld (by rfl) ?y4 ?_
      case y4 => (intro w' hSw; (try dsimp only at hSw); go_simp <;> with_reducible rfl)
      refine wpAnyE_take (i := 5) (v := ?v5) rfl (by kernel_rfl) (fun _ _ _ h => h) hHeld (by rfl) ?y5 ?_
      case y5 => (intro w' hSw; (try dsimp only at hSw); go_simp <;> with_reducible rfl)
      refine wpAnyE_take (i := 6) (v := ?v6) rfl (by kernel_rfl) (fun _ _ _ h => h) hHeld (by rfl) ?y6 ?_
      case y6 => (intro w' hSw; (try dsimp only at hSw); go_simp <;> with_reducible rfl)
      refine wpAnyE_take (i := 7) (v := ?v7) rfl (by kernel_rfl) (fun _ _ _ h => h) hHeld (by rfl) ?y7 ?_
      case y7 => (intro w' hSw; (try dsimp only at hSw); go_simp <;> with_reducible rfl)
      refine wpAnyE_take (i := 8) (v := ?v8) rfl (by kernel_rfl) (fun _ _ _ h => h) hHeld (by rfl) ?y8 ?_
      case y8 => (intro w' hSw; (try dsimp only at hSw); go_simp <;> with_reducible rfl)
      refine wpAnyE_take (i := 9) (v := ?v9) rfl (by kernel_rfl) (fun _ _ _ h => h) hHeld (by rfl) ?y9 ?_
      case y9 => (intro w' hSw; (try dsimp only at hSw); go_simp <;> with_reducible rfl)
      refine wpAnyE_take (i := 10) (v := ?v10) rfl (by kernel_rfl) (fun _ _ _ h => h) hHeld (by rfl) ?y10 ?_
      case y10 => (intro w' hSw; (try dsimp only at hSw); go_simp <;> with_reducible rfl)
      refine wpAnyE_take (i := 11) (v := ?v11) rfl (by kernel_rfl) (fun _ _ _ h => h) hHeld (by rfl) ?y11 ?_
      case y11 => (intro w' hSw; (try dsimp only at hSw); go_simp <;> with_reducible rfl)
      refine wpAnyE_take (i := 12) (v := ?v12) rfl (by kernel_rfl) (fun _ _ _ h => h) hHeld (by rfl) ?y12 ?_
      case y12 => (intro w' hSw; (try dsimp only at hSw); go_simp <;> with_reducible rfl)
      refine wpAnyE_take (i := 13) (v := ?v13) rfl (by kernel_rfl) (fun _ _ _ h => h) hHeld (by rfl) ?y13 ?_
      case y13 => (intro w' hSw; (try dsimp only at hSw); go_simp <;> with_reducible rfl)
      refine wpAnyE_take (i := 14) (v := ?v14) rfl (by kernel_rfl) (fun _ _ _ h => h) hHeld (by rfl) ?y14 ?_
      case y14 => (intro w' hSw; (try dsimp only at hSw); go_simp <;> with_reducible rfl)
      refine wpAnyE_one (i := 15) (by kernel_rfl) rfl (fun K hK => ?_)
      go_simp
      refine hK.out _ _ ?_ (fun hHeld => ?_)
      · exact hS.out _ ((Below.refl _ _).drew.alloc (by simp; omega) _)
      clear hK K
      refine wpAnyE_one (i := 16) (by kernel_rfl) rfl (fun K hK => ?_)
      refine step_append_lies _ (by rfl) _ _ _ (by rfl) (w.heap.size + 3) 26 i0 _ 2 16 Try.underlying22 hi hz0 hz1 hz2 rfl (by omega) v j (encF (l.take j)) (by rfl) (owns_below' hown.out ((Below.refl _ wr).drew.alloc (Nat.le_refl _) _)) ⟨wr.heap.size, 0, none⟩ 1 1 [.int .i64 x, .int .i64 y] (by rfl) (by rfl) (World.news_of_block (cs := #[.int .i64 x, .int .i64 y]) (t := 26) (fr := (0, 0)) (heap_alloc_new wr.drew _)) (by simp [Value.oneCell']) (by omega) h63 hby (by simp; omega) (wr.heap.size + 1) (by simp) ?_
      intro gg cp w1 hown1 hgrow hat hlt2
      have HBN : Hid (Below (w.heap.size + 3) wr w1) := ((Below.refl (w.heap.size + 3) wr).drew.alloc (by simp; omega) _).grown hgrow (by simp; omega) (fun k e => (hown.out.lt k e).1)
      have HOWN := Lib.hid hown1
      clear hown1 hgrow hat hlt2
      refine hK.out _ _ ?_ (fun hHeld => ?_)
      · exact hS.out _ HBN.out
      clear hK K
      refine wpAnyE_tail 17 (by decide) rfl (by kernel_rfl) ?_
      simp only [List.drop_succ_cons, List.drop_zero]
      have o3 := (hO.out.below HBN.out (by omega)).c1
      have f3 := (hO.out.below HBN.out (by omega)).f1
      go_wp2_with fail
      go_roundw
      case rel =>
        have hb := hBw.out.trans (HBN.out.mono (by omega))
        have hz := HBN.out.size
        refine ⟨j + 1, .slice (some ⟨gg, 0, none⟩) (j + 1) cp, by omega, by go_num, ?_, Lib.hid ((hO.out.below HBN.out (by omega)).put1 _), Lib.hid ((hE.out.below HBN.out (by omega)).far1 (by omega)), Lib.hid ((hR.out.below HBN.out (by omega)).far1 (by omega)), Lib.hid (hb.setCell (p := ⟨w.heap.size + 1 + 1, 1, none⟩) (by show w.heap.size ≤ w.heap.size + 1 + 1; omega) _), ?_⟩
        · show World.ownsRow _ _ _ _ _ _ _
          rw [HENC.out]
          exact owns_far HOWN.out (fun g h1 _ => heap_put1 _ _ _ _ _ (by omega))
        · show _ ≤ _
          rw [size_put1]; omega
      case measure => simp [intOf]; omega
    · obtain rfl : j = n := by omega
      have htk : l.take j = l := List.take_of_length_le (by rw [HN.out]; exact Nat.le_refl _)
      rw [htk] at hown
      obtain ⟨a', cap', rfl, hOwn⟩ := ownF_of hown.out HN.out
      obtain ⟨c0, c1, -, -⟩ := id hE.out
      obtain ⟨o0, o1, -, -⟩ := id hO.out
      obtain ⟨r0, r1, f0, f1⟩ := id hR.out
      have HOwn := Lib.hid hOwn
      have hb2 := Lib.hid (below_put2 hBw.out (b := w.heap.size + 1) (by omega) (.bool on) (.slice a' j cap'))
      clear hOwn htk
      go_wp2_with fail
      refine bodyPost_ret (v := .agg #[.bool on, .slice a' j cap']) (by simp [results, Try.results16, go_sem, r0, r1]) rfl ⟨a', cap', rfl, ⟨?_, HN.out⟩, hb2.out⟩
      exact (HOwn.out.block (Nat.le_refl _) (fun g h1 _ => heap_put2 _ _ _ _ _ (by omega))).fis

end Go.Proofs.Ytcmncclibhjepaa