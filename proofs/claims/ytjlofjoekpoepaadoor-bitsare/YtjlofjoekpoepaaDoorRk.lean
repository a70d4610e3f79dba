import Derived.Test.YtjlofjoekpoepaaDoorRj
import Derived.Test.YtjlofjoekpoepaaDoorMathD
namespace Go.Proofs.YtjlofjoekpoepaaDoor
open Go Go.RowKit Go.Sort

/-- Numbers of the call's own, as a slice that is read. -/
theorem is_of_ints {n0 : Nat} {W : World} {u : Value} {l : List Int} {T : Nat} (h : W.ownsRow n0 3 1 u T (l.map (Value.int .i64))) : ∃ a cap, u = .slice a T cap ∧ l.length = T ∧ Is W.heap.size W a l := by
  obtain ⟨hlen, ⟨rfl, h0⟩ | ⟨g, cap, cur, rfl, hb, hc, hle, _, hsz, htk⟩⟩ := h
  · subst h0
    have : l = [] := List.eq_nil_of_length_eq_zero (by simpa using hlen)
    subst this
    exact ⟨none, 0, rfl, rfl, fun j hj => absurd hj (Nat.not_lt_zero _)⟩
  · have hl : l.length = T := by simpa using hlen
    refine ⟨_, cap, rfl, hl, fun j hj => ?_⟩
    refine ⟨g, 0, rfl, (Array.getElem?_eq_some_iff.1 hc).1, ?_⟩
    have e : (cur.toList.take (T * 1))[j]? = (l.map (Value.int .i64))[j]? := by rw [htk]
    rw [Nat.mul_one, List.getElem?_take_of_lt (by omega)] at e
    have e2 : cur[j]? = some (.int .i64 (l[j]?.getD 0)) := by
      rw [← Array.getElem?_toList, e]
      simp [hj]
    rw [Nat.zero_add]
    simp only [World.cell?, hc]
    simpa using e2

theorem map_encI (xs : List Nat) : xs.map encI = (xs.map fun (x : Nat) => (x : Int)).map (Value.int .i64) := by
  rw [List.map_map]; rfl

theorem List_own {va : Value} {n : Nat} {us : List Nat} {w : World} (ha : Acts w va n us) :
    Calls Tryd.prog 13 #[va] w fun e w' => ∃ u, e = .returned u ∧ w'.ownsRow w.heap.size 3 1 u (nums us).length (((nums us).map fun (x : Nat) => (x : Int)).map (Value.int .i64)) ∧ Below w.heap.size w w' := by
  obtain ⟨n1, ws1, ⟨a1, cap1, rfl, hWd1⟩, hl1, hWB1, hk, hus⟩ := ha
  refine (List_ref n1 a1 ws1 cap1 w hWd1 hWB1 hl1).mono ?_
  rintro e w' ⟨u, rfl, hown, hb⟩
  rw [hus, map_encI] at hown
  exact ⟨u, rfl, hown, hb⟩

theorem clamp_of_le {N : Nat} (h : N ≤ 1024) : clampN (N : Int) = N := by unfold clampN; split <;> (try split) <;> omega

theorem Of_at {k K : Nat} (hk : k ≤ 1024) (hK : wcount k = K) {a : Option Addr} {l : List Int} {T cap : Nat} {W : World} (hIs : Is W.heap.size W a l) (hT : l.length = T) (hl : T ≤ 2000) :
    Calls Tryd.prog 28 #[.int .i64 (k : Int), .slice a T cap] W fun e w' => ∃ g, e = .returned (.agg #[.int .i64 (k : Int), .slice (some ⟨g, 0, none⟩) K K]) ∧ Fresh W.heap.size w' g (ofW k l) ∧ Below W.heap.size W w' := by
  have h := Of_ref (k : Int) a l cap W hIs (by omega)
  rw [clamp_of_le hk, hK, hT] at h
  exact h

set_option maxRecDepth 100000 in
set_option maxHeartbeats 4000000 in
/-- With, of the document's answer. -/
theorem With_racts {va : Value} {k : Nat} {us : List Nat} {w : World} (ha : Acts w va k us) (i : Int) {K : Nat} (hK : wcount k = K) :
    Calls Tryd.prog 21 #[va, .int .i64 i] w fun e w' => ∃ g, e = .returned (.agg #[.int .i64 (k : Int), .slice (some ⟨g, 0, none⟩) K K]) ∧ Fresh w.heap.size w' g (putW k us i) ∧ Below w.heap.size w w' := by
  have ok1 := ha.ok
  have hk1 := ok1.le
  have HA0 := Lib.hid ha
  obtain ⟨l1, hl1⟩ : ∃ l : List Int, ((nums us).map fun (x : Nat) => (x : Int)) = l := ⟨_, rfl⟩
  obtain ⟨T, hT⟩ : ∃ T, (nums us).length = T := ⟨_, rfl⟩
  have hT1 : T ≤ 1024 := by rw [← hT]; have := count_le ok1; omega
  have hofw : ofW k (l1 ++ [i]) = putW k us i := by rw [ofW_snoc, ← hl1, of_nums ok1]
  have FL : Hid (∀ W, Below w.heap.size w W → Calls Tryd.prog 13 #[va] W fun e w' => ∃ u, e = .returned u ∧ w'.ownsRow W.heap.size 3 1 u T (l1.map (Value.int .i64)) ∧ Below W.heap.size W w') := fun W hW => by
    have h := List_own (HA0.out.below hW)
    rw [hl1, hT] at h
    exact h
  have FZ : Hid (∀ W, Below w.heap.size w W → Calls Tryd.prog 41 #[va] W fun e w' => e = .returned (.int .i64 (k : Int)) ∧ Below W.heap.size W w') := fun W hW => size_racts (HA0.out.below hW)
  have FO : Hid (∀ W a cap, Is W.heap.size W a (l1 ++ [i]) → Calls Tryd.prog 28 #[.int .i64 (k : Int), .slice a (T + 1) cap] W fun e w' => ∃ g, e = .returned (.agg #[.int .i64 (k : Int), .slice (some ⟨g, 0, none⟩) K K]) ∧ Fresh W.heap.size w' g (putW k us i) ∧ Below W.heap.size W w') := fun W a cap hIs => by
    have h := Of_at (cap := cap) hk1 hK hIs (T := T + 1) (by rw [List.length_append, ← hl1, List.length_map, hT]; rfl) (by omega)
    rw [hofw] at h
    exact h
  obtain ⟨n1, ws1, ⟨a1, cap1, rfl, -⟩, -⟩ := ha
  obtain ⟨L1, hL1⟩ : ∃ L, ws1.length = L := ⟨_, rfl⟩
  rw [hL1] at FL FZ ⊢
  obtain ⟨i0, hi, hz0, hz1, hz2⟩ := info_parts Tryd_info3
  generalize putW k us i = js at *
  clear HA0 ok1 hk1 hl1 hT hofw hL1 hK
  have hW1 : Below w.heap.size w ((w.alloc (.cells #[.int .i64 n1, .slice a1 L1 cap1] 24)).alloc (.cells #[.int .i64 0, .slice none 0 0] 24)) := ((Below.refl _ _).alloc (Nat.le_refl _) _).alloc (by simp) _
  have BA := (Box.new w (.int .i64 n1) (.slice a1 L1 cap1) 24).alloc (.cells #[.int .i64 0, .slice none 0 0] 24)
  have BR := Box.new (w.alloc (.cells #[.int .i64 n1, .slice a1 L1 cap1] 24)) (.int .i64 0) (.slice none 0 0) 24
  simp only [World.size_alloc] at BR
  generalize hW : (w.alloc (.cells #[.int .i64 n1, .slice a1 L1 cap1] 24)).alloc (.cells #[.int .i64 0, .slice none 0 0] 24) = W1 at *
  have HW := Lib.hid hW1
  have HA := Lib.hid BA
  have HR := Lib.hid BR
  obtain ⟨x0, x1, -, -⟩ := BA
  clear hW1 BR
  have h63 : T + 1 ≤ maxLen := by unfold maxLen; omega
  have hby : (T + 1) * 8 ≤ 140737488355328 := by omega
  go_enter Tryd.func21, Tryd.ntmps21
  go_wp2_with fail
  refine (FL.out _ HW.out).mono ?_
  clear FL x0 x1 hW
  rintro e w1 ⟨u, rfl, hown, hb⟩
  have HO := Lib.hid hown
  have HB1 := Lib.hid hb
  clear hown hb
  go_wp2_with (at_builtin; refine wpList_append_own _ rfl _ _ 25 rfl W1.heap.size 3 i0 (.int .i64 0) 1 8 Tryd.underlying25 hi hz0 hz1 hz2 rfl (by decide) _ _ _ rfl (HO.out.alloc _) ⟨_, 0, none⟩ 1 1 [.int .i64 i] rfl rfl (cell_one_new _ _ _) (by simp [Value.oneCell']) h63 hby (by have := HB1.out.size; simp; omega) ?_; intro v' w4 hown' hgrow _; have HB4 := Lib.hid (owns_grown (HB1.out.alloc HB1.out.size _) (HO.out.alloc _) hgrow (by have := HB1.out.size; simp; omega)); have HO4 := Lib.hid hown'; obtain ⟨x0, x1, -, -⟩ := HA.out.below HB4.out HA.out.lt; clear hown' hgrow)
  refine (FZ.out _ (HW.out.trans (HB4.out.mono HW.out.size))).mono ?_
  clear x0 x1
  rintro e w5 ⟨rfl, hb⟩
  have hown4 : w4.ownsRow W1.heap.size 3 1 v' (T + 1) ((l1 ++ [i]).map (Value.int .i64)) := by simpa using HO4.out
  obtain ⟨al, cl, rfl, -, hIs⟩ := is_of_ints hown4
  have HI5 := Lib.hid ((hIs.below hb).mono hb.size)
  have HB5 := Lib.hid (HB4.out.trans (hb.mono HB4.out.size))
  clear hIs hown4 HO4 hb
  go_wp2_with fail
  refine (FO.out _ _ _ HI5.out).mono ?_
  rintro e w6 ⟨g, rfl, hF, hb⟩
  have hg1 := hF.1
  have HF := Lib.hid hF
  have hs1 := HB5.out.size
  have hs0 := HW.out.size
  have hrl := HR.out.lt
  have HB6 := Lib.hid (HB5.out.trans (hb.mono HB5.out.size))
  obtain ⟨z0, z1, f0, f1⟩ := HR.out.below HB6.out HR.out.lt
  clear hF hb
  go_wp2_with fail
  exact bodyPost_ret (v := .agg #[.int .i64 (k : Int), .slice (some ⟨g, 0, none⟩) K K]) (by simp [results, Tryd.results21, go_sem, z0, z1]) rfl
    ⟨g, rfl, (HF.out.base (by omega)).block (heap_put2 _ _ _ _ _ (by omega)), below_put2 (HW.out.trans (HB6.out.mono HW.out.size)) (by omega) _ _⟩
end Go.Proofs.YtjlofjoekpoepaaDoor
