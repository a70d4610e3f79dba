/- Graphs: nodesOf, isNode, Clean. -/
import Derived.Test.YtcbfmplddjmiaaaGrN
namespace Go.Proofs.Ytcbfmplddjmiaaa
open Go Go.RowKit Go.Sort

/-- What is kept of the first q numbers of a row. -/
def kept (n : Nat) (l : List Int) (q : Nat) : List Int := (l.take q).filter fun x => decide (0 ≤ x) && decide (x < (n : Int))
theorem kept_le (n : Nat) (l : List Int) (q : Nat) : (kept n l q).length ≤ q := by
  unfold kept
  exact Nat.le_trans (List.length_filter_le _ _) (by rw [List.length_take]; exact Nat.min_le_left _ _)
theorem kept_succ (n : Nat) (l : List Int) {q : Nat} (hq : q < l.length) {x : Int} (hx : l[q]?.getD 0 = x) : kept n l (q + 1) = kept n l q ++ (if 0 ≤ x ∧ x < (n : Int) then [x] else []) := by
  unfold kept
  have e : l[q] = x := by rw [← hx]; simp [hq]
  rw [List.take_succ_eq_append_getElem hq, List.filter_append, e]
  congr 1
  by_cases h1 : 0 ≤ x <;> by_cases h2 : x < (n : Int) <;> simp [h1, h2]
theorem kept_all (n : Nat) (l : List Int) : kept n l l.length = l.filter fun x => decide (0 ≤ x) && decide (x < (n : Int)) := by
  unfold kept; rw [List.take_of_length_le (Nat.le_refl _)]

set_option maxRecDepth 100000 in
set_option maxHeartbeats 4000000 in
theorem nodesOf_any (a : Option Addr) (l : List Int) (cap n : Nat) (w : World) (hI : Is w.heap.size w a l) (hl : l.length ≤ 60) (ks : List Nat) (hks : rowE n (fun b => decide ((b : Int) ∈ l)) = ks) :
    Calls Try.prog 30 #[.slice a l.length cap, .int .i64 (n : Int)] w fun e w' => ∃ u, e = .returned u ∧ w'.ownsRow w.heap.size 3 1 u ks.length ((zs ks).map (Value.int .i64)) ∧ Below w.heap.size w w' := by
  have HC := Lib.hid (clean_row n l)
  rw [hks, ← kept_all] at HC
  clear hks
  obtain ⟨L, hL⟩ : ∃ L, l.length = L := ⟨_, rfl⟩
  rw [hL] at HC hl ⊢
  have HL := Lib.hid hL
  have HI := Lib.hid hI
  obtain ⟨i0, hi, hz0, hz1, hz2⟩ := info_parts info3
  clear hL hI
  go_enter Try.func30, Try.ntmps30
  go_wp2_with fail
  go_loopw [5, 10] (fun v i wr => ∃ q : Nat, q ≤ L ∧ i = .int .i64 q ∧ Hid (wr.ownsRow w.heap.size 3 1 v (kept n l q).length ((kept n l q).map (Value.int .i64))) ∧ Hid (Below w.heap.size w wr)) (fun _ i _ => L - (intOf i).toNat)
  case atStart => exact ⟨0, Nat.zero_le _, rfl, World.ownsRow_nil _ _ _ _, Below.refl _ _⟩
  case round =>
    obtain ⟨q, hq, rfl, hown, hBw⟩ := hrel
    by_cases hlt : q < L
    · have hqi : (q : Int) < (L : Int) := by omega
      obtain ⟨b, o, rfl, hb, e1⟩ := HI.out q (by rw [HL.out]; exact hlt)
      have g1 := (hBw.out.cell (p := ⟨b, o + q, none⟩) hb).trans e1
      obtain ⟨x, hx⟩ : ∃ x, l[q]?.getD 0 = x := ⟨_, rfl⟩
      rw [hx] at g1
      have HTS := Lib.hid (kept_succ n l (by rw [HL.out]; exact hlt) hx)
      have hkl := kept_le n l q
      clear e1 hx
      by_cases h0 : 0 ≤ x
      · by_cases h1 : x < (n : Int)
        · have h63 : (kept n l q).length + 1 ≤ maxLen := by unfold maxLen; omega
          have hby : ((kept n l q).length + 1) * 8 ≤ 140737488355328 := by omega
          go_wp2_with (at_builtin; refine wpList_append_own _ rfl _ _ 32 rfl w.heap.size 3 i0 (.int .i64 0) 1 8 Try.underlying32 hi hz0 hz1 hz2 rfl (by decide) _ _ _ rfl (hown.out.alloc _) ⟨_, 0, none⟩ 1 1 [.int .i64 x] rfl rfl (cell_one_new _ _ _) (by simp [Value.oneCell']) h63 hby (by have := hBw.out.size; simp; omega) ?_; intro v' w4 hown' hgrow _; have HO := Lib.hid hown'; have HG := Lib.hid hgrow; clear hown' hgrow)
          go_roundw
          case rel =>
            have e : kept n l (q + 1) = kept n l q ++ [x] := by have := HTS.out; rwa [if_pos ⟨h0, h1⟩] at this
            refine ⟨q + 1, by omega, by go_num, ?_, ?_⟩
            · show w4.ownsRow _ 3 1 _ (kept n l (q + 1)).length ((kept n l (q + 1)).map _)
              rw [e]
              simpa using HO.out
            · exact owns_grown (hBw.out.alloc hBw.out.size _) (hown.out.alloc _) HG.out (by have := hBw.out.size; simp; omega)
          case measure => simp [intOf]; omega
        · go_wp2_with fail
          go_roundw
          case rel =>
            have e : kept n l (q + 1) = kept n l q := by have := HTS.out; rwa [if_neg (fun h => h1 h.2), List.append_nil] at this
            exact ⟨q + 1, by omega, by go_num, by rw [e]; exact hown, hBw⟩
          case measure => simp [intOf]; omega
      · go_wp2_with fail
        go_roundw
        case rel =>
          have e : kept n l (q + 1) = kept n l q := by have := HTS.out; rwa [if_neg (fun h => h0 h.1), List.append_nil] at this
          exact ⟨q + 1, by omega, by go_num, by rw [e]; exact hown, hBw⟩
        case measure => simp [intOf]; omega
    · obtain rfl : q = L := by omega
      have hkl := kept_le n l q
      go_wp2_with fail
      obtain ⟨hlen, ⟨hv, h0⟩ | ⟨g', cap', cur, hv, -, -, -, -, -, -⟩⟩ := id hown.out
      · subst hv
        have hk0 : kept n l q = [] := List.eq_nil_of_length_eq_zero h0
        have hks : ks = [] := by
          have := HC.out
          rw [hk0] at this
          have h2 : zs ks = [] := by rw [← this]; exact List.eq_nil_of_length_eq_zero (Nat.le_zero.1 (Nat.le_trans (compact_le _) (by simp)))
          exact zs_inj (m := []) h2
        refine (Any.slices_Sort_int_none Try.lays189 none 0 _).mono ?_
        rintro e w5 ⟨rfl, rfl⟩
        go_wp2_with fail
        refine (Any.slices_Compact_int_empty Try.laysNm220 none 0 _).mono ?_
        rintro e w6 ⟨rfl, rfl⟩
        go_wp2_with fail
        go_ret
        rw [hks]
        exact ⟨_, rfl, World.ownsRow_nil _ _ _ _, hBw.out⟩
      · subst hv
        refine (SortO hown.out hBw.out.size (by omega)).mono ?_
        rintro e w5 ⟨rfl, ho5, hb5⟩
        have HO5 := Lib.hid ho5
        have HB5 := Lib.hid (hBw.out.trans hb5)
        clear ho5 hb5
        go_wp2_with fail
        refine (CompactO HO5.out HB5.out.size (by omega)).mono ?_
        rintro e w6 ⟨v6, rfl, ho6, hb6⟩
        have HO6 := Lib.hid ho6
        have HB6 := Lib.hid (HB5.out.trans hb6)
        clear ho6 hb6
        go_wp2_with fail
        go_ret
        have h := HO6.out
        rw [HC.out, zs_length] at h
        exact ⟨_, rfl, h, HB6.out⟩

set_option maxHeartbeats 1000000 in
theorem isNode_any (v : Option Addr) (n cap : Nat) (x : Int) (w : World) :
    Calls Try.prog 33 #[.slice v n cap, .int .i64 x] w fun e w' => e = .returned (.bool (decide (0 ≤ x ∧ x < (n : Int)))) ∧ w' = w := by
  by_cases h0 : 0 ≤ x
  · by_cases h1 : x < (n : Int)
    · go_enter Try.func33, Try.ntmps33
      go_wp2
      go_ret
      exact ⟨ret_bool (by simp [h0, h1]), rfl⟩
    · go_enter Try.func33, Try.ntmps33
      go_wp2
      go_ret
      exact ⟨ret_bool (by simp [h1]), rfl⟩
  · go_enter Try.func33, Try.ntmps33
    go_wp2
    go_ret
    exact ⟨ret_bool (by simp; omega), rfl⟩

/-- The rows of a graph that are cleaned so far. -/
def cleanTo (g : List (List Int)) (q : Nat) (j : Nat) : List Int := if j < q then zs (rowE g.length (edge g j)) else []

set_option maxRecDepth 100000 in
set_option maxHeartbeats 4000000 in
theorem Clean_any (a : Option Addr) (g : List (List Int)) (cap : Nat) (w : World) (hG : GIs w.heap.size w a g) (hF : FewG g) (n : Nat) (hn : g.length = n) :
    Calls Try.prog 12 #[.slice a n cap] w fun e w' => ∃ gb R, e = .returned (.slice (some ⟨gb, 0, none⟩) n n) ∧ GOwn w.heap.size w' gb n R (fun j => zs (rowE n (edge g j))) ∧ Below w.heap.size w w' := by
  obtain ⟨hF1, hF2⟩ := hF
  rw [hn] at hF1
  have HG := Lib.hid hG
  have HF := Lib.hid hF2
  have HN := Lib.hid hn
  have hmk := mk_runG n (by omega) w
  have hO := nils_own w n
  have hB := below1 w (.cells (nils n) 32)
  clear hG hF2 hn
  go_enter Try.func12, Try.ntmps12
  go_wp2_with fail
  obtain ⟨gb, hgb⟩ : ∃ gb, w.heap.size = gb := ⟨_, rfl⟩
  generalize hW : w.alloc (.cells (nils n) 32) = W at *
  rw [hgb] at hO ⊢
  have HB := Lib.hid hB
  have HGB := Lib.hid hgb
  have HO0 := Lib.hid hO
  clear hB hmk hW hgb hO
  go_loopw [11] (fun i wr => ∃ q : Nat, q ≤ n ∧ i = .int .i64 q ∧ Hid (∃ R, GOwn gb wr gb n R (cleanTo g q)) ∧ Hid (Below w.heap.size w wr)) (fun i _ => n - (intOf i).toNat)
  case atStart => exact ⟨0, Nat.zero_le _, rfl, ⟨_, HO0.out.congr fun j _ => by simp [cleanTo]⟩, HB.out⟩
  case round =>
    obtain ⟨q, hq, rfl, hown, hBw⟩ := hrel
    by_cases hlt : q < n
    · have hqi : (q : Int) < (n : Int) := by omega
      obtain ⟨b, o, ra, rc, rfl, hb, e1, hI⟩ := HG.out q (by rw [HN.out]; exact hlt)
      have g1 := (hBw.out.cell (p := ⟨b, o + q, none⟩) hb).trans e1
      have HC := Lib.hid (nodesOf_any ra (g[q]?.getD []) rc n wr ((hI.below hBw.out).mono hBw.out.size) (HF.out q) _ rfl)
      obtain ⟨L, hL⟩ : ∃ L, (g[q]?.getD []).length = L := ⟨_, rfl⟩
      rw [hL] at g1 HC
      clear e1 hI hL
      obtain ⟨R, ho⟩ := hown.out
      have HO := Lib.hid ho
      have hf1 : wr.frozen? ⟨gb, q, none⟩ = false := ho.top.frozen q
      clear ho
      go_wp2_with (go_at_call 30; refine HC.out.mono ?_; rintro e w3 ⟨u, rfl, hou, hb3⟩; obtain ⟨ua, uc, rfl, -, -⟩ := is_of_ints hou; have HU := Lib.hid hou; have HB3 := Lib.hid hb3; have HO3 := Lib.hid (HO.out.below hb3); have hf3 := HO3.out.top.frozen q; have hc3 := HO3.out.top.cell hlt; clear hou hb3)
      go_roundw
      case rel =>
        refine ⟨q + 1, by omega, by go_num, ?_, ?_⟩
        · obtain ⟨u, hu⟩ : ∃ u, Value.slice ua (rowE n fun b => decide ((b : Int) ∈ g[q]?.getD [])).length uc = u := ⟨_, rfl⟩
          have HU2 := HU.out
          rw [hu] at HU2 ⊢
          have hub : ∀ k, u.ownBlock = some k → wr.heap.size ≤ k := fun k hk => (HU2.lt k hk).1
          have hgl : gb < wr.heap.size := HO.out.top.lt
          have hrl : ∀ j, j < n → ∀ k, (R j).ownBlock = some k → k < wr.heap.size := fun j hj k hk => ((HO.out.row j hj).lt k hk).2
          have h := HO3.out.put (i := q) (v := u) (l := zs (rowE n (edge g q))) (by
              rw [zs_length]
              exact owns_base HU2 (by have := hBw.out.size; have := HO.out.base; omega))
            (fun e => by have := hub _ e; omega)
            (fun j hj _ => by
              cases hu : u.ownBlock with
              | none => exact .inl rfl
              | some k => exact .inr fun e => by have := hub _ hu; have := hrl j hj k e.symm; omega)
          refine ⟨_, h.congr fun j hj => ?_⟩
          simp only [cleanTo, HN.out]
          by_cases e : j = q
          · simp [e]
          · by_cases e2 : j < q
            · have : j < q + 1 := by omega
              simp [e, e2, this]
            · have : ¬ j < q + 1 := by omega
              simp [e, e2, this]
        · exact (hBw.out.trans (HB3.out.mono hBw.out.size)).setCell (p := ⟨gb, q, none⟩) (by rw [HGB.out]; exact Nat.le_refl _) _
      case measure => simp [intOf]; omega
    · obtain rfl : q = n := by omega
      go_wp2_with fail
      go_ret
      obtain ⟨R, ho⟩ := hown.out
      refine ⟨gb, R, rfl, ?_, hBw.out⟩
      rw [HGB.out]
      exact ho.congr fun j hj => by simp [cleanTo, HN.out, hj]
end Go.Proofs.Ytcbfmplddjmiaaa
