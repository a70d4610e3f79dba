/- Graphs: a number put into a rising row, and taken out. -/
import Derived.Lib.LazyBuf
import Derived.Test.YtcbfmplddjmiaaaShelI
import Derived.Test.YtcbfmplddjmiaaaGrU
namespace Go.Proofs.Ytcbfmplddjmiaaa
open Go Go.RowKit Go.Sort

/-! Rising lists. -/
theorem put_rising (x : Int) : ∀ (l : List Int), l.Pairwise (· < ·) → x ∉ l → (l.take (l.countP (· < x)) ++ x :: l.drop (l.countP (· < x))).Pairwise (· < ·)
  | [], _, _ => by simp
  | y :: r, h, hx => by
    rw [List.pairwise_cons] at h
    have hxy : x ≠ y := fun e => hx (by simp [e])
    have hxr : x ∉ r := fun e => hx (by simp [e])
    by_cases hy : y < x
    · rw [List.countP_cons_of_pos (by simpa using hy), List.take_succ_cons, List.drop_succ_cons, List.cons_append, List.pairwise_cons]
      refine ⟨fun z hz => ?_, put_rising x r h.2 hxr⟩
      rcases List.mem_append.1 hz with hz | hz
      · exact h.1 z (List.mem_of_mem_take hz)
      · rcases List.mem_cons.1 hz with rfl | hz
        · exact hy
        · exact h.1 z (List.mem_of_mem_drop hz)
    · have h0 : (y :: r).countP (· < x) = 0 := by
        rw [List.countP_eq_zero]
        intro z hz
        rcases List.mem_cons.1 hz with rfl | hz
        · simpa using hy
        · have := h.1 z hz; simp; omega
      rw [h0, List.take_zero, List.drop_zero, List.nil_append, List.pairwise_cons]
      refine ⟨fun z hz => ?_, List.pairwise_cons.2 h⟩
      rcases List.mem_cons.1 hz with rfl | hz
      · omega
      · have := h.1 z hz; omega
theorem put_mem (x : Int) (l : List Int) (k : Nat) (z : Int) : z ∈ l.take k ++ x :: l.drop k ↔ z = x ∨ z ∈ l := by
  rw [List.mem_append, List.mem_cons]
  have h : z ∈ l ↔ z ∈ l.take k ∨ z ∈ l.drop k := by rw [← List.mem_append, List.take_append_drop]
  rw [h]
  constructor
  · rintro (h | h | h) <;> simp [h]
  · rintro (h | h | h) <;> simp [h]
theorem cut_split (x : Int) : ∀ (l : List Int), l.Pairwise (· < ·) → x ∈ l → l.countP (· < x) < l.length ∧ l = l.take (l.countP (· < x)) ++ x :: l.drop (l.countP (· < x) + 1)
  | [], _, h => by simp at h
  | y :: r, h, hx => by
    rw [List.pairwise_cons] at h
    by_cases hy : y < x
    · have hxr : x ∈ r := by
        rcases List.mem_cons.1 hx with e | e
        · omega
        · exact e
      obtain ⟨h1, h2⟩ := cut_split x r h.2 hxr
      rw [List.countP_cons_of_pos (by simpa using hy)]
      refine ⟨by simp; omega, ?_⟩
      rw [List.take_succ_cons, List.drop_succ_cons, List.cons_append, ← h2]
    · have e : x = y := by
        rcases List.mem_cons.1 hx with e | e
        · exact e
        · have := h.1 x e; omega
      subst e
      have h0 : (x :: r).countP (· < x) = 0 := by
        rw [List.countP_eq_zero]
        intro z hz
        rcases List.mem_cons.1 hz with rfl | hz
        · simp
        · have := h.1 z hz; simp; omega
      rw [h0]
      simp
theorem cut_mem (x : Int) (l : List Int) (h : l.Pairwise (· < ·)) (hx : x ∈ l) (z : Int) : z ∈ l.take (l.countP (· < x)) ++ l.drop (l.countP (· < x) + 1) ↔ z ∈ l ∧ z ≠ x := by
  obtain ⟨_, h2⟩ := cut_split x l h hx
  generalize l.countP (· < x) = k at *
  have hp : (l.take k ++ x :: l.drop (k + 1)).Pairwise (· < ·) := by rw [← h2]; exact h
  rw [List.pairwise_append] at hp
  obtain ⟨_, hq, hr⟩ := hp
  rw [List.pairwise_cons] at hq
  have hm : z ∈ l ↔ z ∈ l.take k ∨ z = x ∨ z ∈ l.drop (k + 1) := by
    conv => lhs; rw [h2]
    rw [List.mem_append, List.mem_cons]
  rw [List.mem_append, hm]
  constructor
  · rintro (h | h)
    · exact ⟨.inl h, by have := hr z h x (by simp); omega⟩
    · exact ⟨.inr (.inr h), by have := hq.1 z h; omega⟩
  · rintro ⟨h | h | h, hne⟩
    · exact .inl h
    · exact absurd h hne
    · exact .inr h

/-! Rows by their cells. -/
theorem row_of_own {W : World} {B g n cap : Nat} {l : List Int} (h : W.ownsRow B 3 1 (.slice (some ⟨g, 0, none⟩) n cap) n (l.map (Value.int .i64))) :
    ∃ f, W.rowIs g 3 cap f ∧ (∀ j, j < n → f j = .int .i64 (l[j]?.getD 0)) ∧ B ≤ g ∧ n ≤ cap ∧ cap ≤ maxLen ∧ l.length = n := by
  obtain ⟨hlen, ⟨e, _⟩ | ⟨g', cap', cur, e, hb, hc, hle, hm, hs, ht⟩⟩ := h
  · cases e
  · cases e
    rw [Nat.mul_one] at hs ht
    have hl : l.length = n := by simpa using hlen
    refine ⟨fun j => cur[j]?.getD default, ⟨cur, hc, hs, fun i hi => ?_⟩, fun j hj => ?_, hb, hle, hm, hl⟩
    · have := Array.getElem?_eq_getElem (xs := cur) (i := i) (by omega)
      simp [this]
    · have e : (cur.toList.take n)[j]? = (l.map (Value.int .i64))[j]? := by rw [ht]
      rw [List.getElem?_take_of_lt hj] at e
      show cur[j]?.getD default = _
      rw [← Array.getElem?_toList, e]
      simp [show j < l.length by omega]
theorem own_of_row {W : World} {B g n cap : Nat} {l : List Int} {f : Nat → Value} (h : W.rowIs g 3 cap f) (hB : B ≤ g) (hl : l.length = n) (hn : n ≤ cap) (hc : cap ≤ maxLen) (hf : ∀ j, j < n → f j = .int .i64 (l[j]?.getD 0)) :
    W.ownsRow B 3 1 (.slice (some ⟨g, 0, none⟩) n cap) n (l.map (Value.int .i64)) := by
  obtain ⟨cur, hcur, hs, hx⟩ := h
  refine ⟨by simp [hl], .inr ⟨g, cap, cur, rfl, hB, hcur, hn, hc, by simpa using hs, ?_⟩⟩
  rw [Nat.mul_one]
  apply List.ext_getElem?
  intro j
  by_cases hj : j < n
  · rw [List.getElem?_take_of_lt hj, Array.getElem?_toList, hx j (by omega), hf j hj, List.getElem?_map]
    simp [show j < l.length by omega]
  · rw [List.getElem?_eq_none (by simp; omega), List.getElem?_eq_none (by simp; omega)]
theorem grown_setCells {w : World} (b : Nat) : ∀ (vs : List Value) (o : Nat) (w' : World), w.grownBy w' (some b) → w.grownBy (w'.setCells b o vs) (some b)
  | [], _, _, h => h
  | v :: r, o, w', h => grown_setCells b r (o + 1) (w'.setCell ⟨b, o, none⟩ v) ⟨h.os, h.tape, h.output, by have := h.size; simpa [World.setCell] using this, fun k hk hne => by
      rw [Below.heap_setCell _ _ _ _ (by show k ≠ b; intro e; exact hne (by rw [e]))]
      exact h.block k hk hne⟩
theorem grown_above {w : World} {row : Option Nat} (b : Nat) (hb : w.heap.size ≤ b) : ∀ (vs : List Value) (o : Nat) (w' : World), w.grownBy w' row → w.grownBy (w'.setCells b o vs) row
  | [], _, _, h => h
  | v :: r, o, w', h => grown_above b hb r (o + 1) (w'.setCell ⟨b, o, none⟩ v) ⟨h.os, h.tape, h.output, by have := h.size; simpa [World.setCell] using this, fun k hk hne => by
      rw [Below.heap_setCell _ _ _ _ (by show k ≠ b; omega)]
      exact h.block k hk hne⟩
theorem put_at (x : Int) (l : List Int) (i j : Nat) (hi : i ≤ l.length) : (l.take i ++ x :: l.drop i)[j]?.getD 0 = if j < i then l[j]?.getD 0 else if j = i then x else l[j - 1]?.getD 0 := by
  by_cases h1 : j < i
  · rw [if_pos h1, List.getElem?_append_left (by rw [List.length_take]; omega), List.getElem?_take_of_lt h1]
  · rw [if_neg h1, List.getElem?_append_right (by rw [List.length_take]; omega), List.length_take, Nat.min_eq_left hi]
    by_cases h2 : j = i
    · subst h2; simp
    · rw [if_neg h2]
      obtain ⟨d, rfl⟩ : ∃ d, j = i + (d + 1) := ⟨j - i - 1, by omega⟩
      rw [show i + (d + 1) - i = d + 1 by omega, List.getElem?_cons_succ, List.getElem?_drop]
      congr 2

/-- slices.Insert of one number into a row of one's own. -/
theorem InsertO {B : Nat} {ra : Option Addr} {L rc i vb : Nat} {l : List Int} {x : Int} {w : World} (hown : w.ownsRow B 3 1 (.slice ra L rc) L (l.map (Value.int .i64))) (hL : L ≤ 60) (hi : i ≤ L)
    (hvb : w.heap[vb]? = some (.cells #[.int .i64 x] 3 (0, 0))) (hne : (Value.slice ra L rc).ownBlock ≠ some vb) (hB : B ≤ w.heap.size) :
    Calls Try.prog 38 #[.slice ra L rc, .int .i64 (i : Int), .slice (some ⟨vb, 0, none⟩) 1 1] w fun e w' =>
      ∃ v', e = .returned v' ∧ w'.ownsRow B 3 1 v' (L + 1) ((l.take i ++ x :: l.drop i).map (Value.int .i64)) ∧ w.grownBy w' (Value.slice ra L rc).ownBlock ∧ (v'.ownBlock = (Value.slice ra L rc).ownBlock ∨ ∃ k, v'.ownBlock = some k ∧ w.heap.size ≤ k) := by
  have hvs : ∀ j v, [Value.int .i64 x][j]? = some v → w.cell? ⟨vb, 0 + j, none⟩ = some v := fun j v hj => by
    cases j with
    | zero => simp at hj; subst hj; simp [World.cell?, hvb]
    | succ j => simp at hj
  have h1v : ∀ v ∈ [Value.int .i64 x], v.oneCell' = true := by simp [Value.oneCell']
  have hlen' : (l.take i ++ x :: l.drop i).length = l.length + 1 := by simp; omega
  have hll : l.length = L := by have := hown.1; simpa using this
  have hnew : ∀ (W : World) (cap : Nat) (cur : Array Value), L + 1 ≤ cap → cap ≤ maxLen → W.heap[w.heap.size]? = some (.cells cur 3 (0, 0)) → cur.size = cap → (∀ j, j < L + 1 → cur[j]? = some (.int .i64 ((l.take i ++ x :: l.drop i)[j]?.getD 0))) →
      W.ownsRow B 3 1 (.slice (some ⟨w.heap.size, 0, none⟩) (L + 1) cap) (L + 1) ((l.take i ++ x :: l.drop i).map (Value.int .i64)) := fun W cap cur h1 h2 h3 h4 h5 =>
    own_of_row (f := fun j => cur[j]?.getD default) ⟨cur, h3, h4, fun j hj => by have := Array.getElem?_eq_getElem (xs := cur) (i := j) (by omega); simp [this]⟩ hB (by omega) h1 h2 (fun j hj => by rw [h5 j hj]; rfl)
  have hge := grownCap_ge w (L + 1) rc 3
  have hgm : grownCap w (L + 1) rc 3 ≤ maxLen := grownCap_le_maxLen w (L + 1) rc 3 (by unfold maxLen; omega)
  rcases id hown.2 with ⟨e, h0⟩ | ⟨g, cap', cur, e, hbg, hc, hle, hm, hs, ht⟩
  · simp only [Value.slice.injEq] at e
    obtain ⟨rfl, rfl, rfl⟩ := e
    obtain rfl : i = 0 := by omega
    have hl0 : l = [] := List.eq_nil_of_length_eq_zero hll
    subst hl0
    refine (Any2.slices_Insert_int_end_grow Try.laysNm221 none 0 0 vb 0 1 1 [] [.int .i64 x] w (by decide) (by decide) (by decide) (by decide) rfl rfl (fun _ => rfl) (fun a e => by cases e) hvs h1v).mono ?_
    rintro e w' ⟨rfl, rfl⟩
    refine ⟨_, rfl, ?_, ⟨rfl, rfl, rfl, by simp, fun k hk _ => heap_alloc_old w.drew _ hk⟩, .inr ⟨w.heap.size, rfl, Nat.le_refl _⟩⟩
    refine hnew _ _ _ hge hgm (heap_alloc_new w.drew _) ?_ (fun j hj => ?_)
    · simp only [Array.size_append, List.size_toArray, size_zeroCells, List.length_append, List.length_cons, List.length_nil]
      show 0 + (0 + 1) + (grownCap w (0 + 1) 0 3 - (0 + 1)) * 1 = grownCap w (0 + 1) 0 3
      omega
    · obtain rfl : j = 0 := by omega
      rw [Array.getElem?_append_left (by simp)]
      simp
  · cases e
    obtain ⟨f, hrow, hf, -, -, -, -⟩ := row_of_own hown
    have hcs : ∀ j v, (l.map (Value.int .i64))[j]? = some v → w.cell? ⟨g, 0 + j, none⟩ = some v := fun j v hj => by
      have hjl : j < L := by have := (List.getElem?_eq_some_iff.1 hj).1; simp at this; omega
      rw [Nat.zero_add, hrow.cell (by omega), hf j hjl, ← hj, List.getElem?_map]
      simp [show j < l.length by omega]
    have hsp : ∀ j, j < rc → (w.cell? ⟨g, 0 + j, none⟩).isSome = true := fun j hj => by rw [Nat.zero_add, hrow.cell hj]; rfl
    have hfz : ∀ j, w.frozen? ⟨g, 0 + j, none⟩ = false := fun j => hrow.frozen _
    have h1c : ∀ v ∈ l.map (Value.int .i64), v.oneCell' = true := by
      intro v hv
      obtain ⟨y, _, rfl⟩ := List.mem_map.1 hv
      rfl
    have hneb : vb ≠ g := fun e => hne (by rw [e]; rfl)
    have hg0 : w.grownBy w (some g) := ⟨rfl, rfl, rfl, Nat.le_refl _, fun _ _ _ => rfl⟩
    by_cases hiL : i = L
    · subst hiL
      by_cases hroom : i + 1 ≤ rc
      · refine (Any2.slices_Insert_int_end_room Try.laysNm221 g 0 i rc vb 0 1 1 [.int .i64 x] w (by decide) hroom (by unfold maxLen at hm; omega) rfl (fun j hj => by rw [show 0 + i + j = 0 + (i + j) by omega]; exact hsp _ (by omega)) (fun j hj => by rw [show 0 + i + j = 0 + (i + j) by omega]; exact hfz _) hvs h1v).mono ?_
        rintro e w' ⟨rfl, rfl⟩
        refine ⟨_, rfl, ?_, grown_setCells g _ _ _ hg0, .inl rfl⟩
        have h2 := Go.rowIs_setCells [.int .i64 x] (0 + i) w f hrow
        refine own_of_row h2 hbg (by omega) hroom hm (fun j hj => ?_)
        rw [put_at x l i j (by omega)]
        by_cases hji : j = i
        · subst hji; simp
        · have : ¬ (0 + i ≤ j ∧ j < 0 + i + [Value.int .i64 x].length) := by simp; omega
          simp only [this, if_false, if_pos (show j < i by omega)]
          exact hf j (by omega)
      · refine (Any2.slices_Insert_int_end_grow Try.laysNm221 (some ⟨g, 0, none⟩) i rc vb 0 1 1 (l.map (Value.int .i64)) [.int .i64 x] w (by decide) hle (by omega) (by omega) (by simpa using hll) rfl (fun e => by cases e)
          (fun a e j v hj => by cases e; have h := hcs j v hj; rw [Nat.zero_add] at h; have hadd : (⟨g, 0, none⟩ : Addr).add j = ⟨g, j, none⟩ := by unfold Addr.add; split <;> simp_all
                                rw [hadd]; exact h) hvs h1v).mono ?_
        rintro e w' ⟨rfl, rfl⟩
        refine ⟨_, rfl, ?_, ⟨rfl, rfl, rfl, by simp, fun k hk _ => heap_alloc_old w.drew _ hk⟩, .inr ⟨w.heap.size, rfl, Nat.le_refl _⟩⟩
        refine hnew _ _ _ hge hgm (heap_alloc_new w.drew _) ?_ (fun j hj => ?_)
        · simp only [Array.size_append, List.size_toArray, size_zeroCells, List.length_append, List.length_map, List.length_cons, List.length_nil]
          show l.length + (0 + 1) + (grownCap w (i + 1) rc 3 - (i + 1)) * 1 = grownCap w (i + 1) rc 3
          omega
        · rw [Array.getElem?_append_left (by simp; omega), put_at x l i j (by omega)]
          by_cases hji : j = i
          · subst hji
            simp [hll]
          · have hjl : j < l.length := by omega
            simp [show j < i by omega, List.getElem?_append_left, hjl]
    · have hiL2 : i < L := by omega
      have hdl : ((l.map (Value.int .i64)).drop i).length = L - i := by simp [hll]
      have hget : ∀ j, i < j → j < L + 1 → ((l.map (Value.int .i64)).drop i)[j - (0 + (i + 1))]?.getD default = .int .i64 (l[j - 1]?.getD 0) := fun j h1 h2 => by
        rw [List.getElem?_drop, show i + (j - (0 + (i + 1))) = j - 1 by omega, List.getElem?_map]
        simp [show j - 1 < l.length by omega]
      by_cases hroom : L + 1 ≤ rc
      · refine (Any2.slices_Insert_int_shift Try.laysNm221 g 0 L rc i vb 0 1 1 (l.map (Value.int .i64)) [.int .i64 x] w hiL2 (by decide) hroom (by unfold maxLen at hm; omega) hneb (by simpa using hll) rfl hcs (fun j hj => hsp j (by omega)) (fun j _ => hfz j) hvs h1c h1v
          3 3 1 rc (by simp [World.shape?, hvb]) (by obtain ⟨c, h1, h2, -⟩ := hrow; simp [World.shape?, h1, h2]) (by omega) (by simp [World.frozen?, hvb]) (by simp [World.frozen?, hvb])).mono ?_
        rintro e w' ⟨rfl, rfl⟩
        have hg1 : w.grownBy w.drew (some g) := ⟨rfl, rfl, rfl, Nat.le_refl _, fun _ _ _ => rfl⟩
        refine ⟨_, rfl, ?_, grown_setCells g _ _ _ (grown_setCells g _ _ _ hg1), .inl rfl⟩
        have h1 := Go.rowIs_setCells ((l.map (Value.int .i64)).drop i) (0 + (i + 1)) w.drew f hrow.drew
        have h2 := Go.rowIs_setCells [.int .i64 x] (0 + i) _ _ h1
        refine own_of_row h2 hbg (by omega) hroom hm (fun j hj => ?_)
        rw [put_at x l i j (by omega)]
        by_cases hji : j = i
        · subst hji; simp
        · have c1 : ¬ (0 + i ≤ j ∧ j < 0 + i + [Value.int .i64 x].length) := by simp; omega
          simp only [c1, if_false]
          by_cases hlt : j < i
          · have c2 : ¬ (0 + (i + 1) ≤ j ∧ j < 0 + (i + 1) + ((l.map (Value.int .i64)).drop i).length) := by omega
            simp only [c2, if_false, if_pos hlt]
            exact hf j (by omega)
          · have c2 : 0 + (i + 1) ≤ j ∧ j < 0 + (i + 1) + ((l.map (Value.int .i64)).drop i).length := by omega
            simp only [c2, and_self, if_true, hlt, if_false, hji]
            exact hget j (by omega) hj
      · refine (Any2.slices_Insert_int_grow Try.laysNm221 g 0 L rc i vb 0 1 1 (l.map (Value.int .i64)) [.int .i64 x] w hiL2 (by decide) hle (by omega) (by omega) (by simpa using hll) rfl hcs hvs h1c h1v).mono ?_
        rintro e w' ⟨rfl, rfl⟩
        obtain ⟨arr, harr⟩ : ∃ arr, ((l.map (Value.int .i64)).take i).toArray ++ Builtin.zeroCells (Value.int .i64 0).cells (L + 1 - i) ++ Builtin.zeroCells (Value.int .i64 0).cells (grownCap w (L + 1) rc 3 - (L + 1)) = arr := ⟨_, rfl⟩
        have hasz : arr.size = grownCap w (L + 1) rc 3 := by
          rw [← harr]
          simp only [Array.size_append, List.size_toArray, size_zeroCells, List.length_take, List.length_map, hll]
          show min i L + (L + 1 - i) * 1 + (grownCap w (L + 1) rc 3 - (L + 1)) * 1 = grownCap w (L + 1) rc 3
          omega
        have hahd : ∀ j, j < i → arr[j]? = some (.int .i64 (l[j]?.getD 0)) := fun j hj => by
          rw [← harr, Array.append_assoc, Array.getElem?_append_left (by simp; omega)]
          simp [hj, show j < l.length by omega]
        have hA := World.rowIs_alloc w arr 3 (fun j => arr[j]?.getD default) (fun j hj => by have := Array.getElem?_eq_getElem (xs := arr) (i := j) hj; simp [this])
        have h1 := Go.rowIs_setCells [.int .i64 x] i _ _ hA.drew
        have h2 := Go.rowIs_setCells ((l.map (Value.int .i64)).drop i) (i + 1) _ _ h1.drew
        have hg1 : w.grownBy (w.alloc (.cells arr 3)).drew (some g) := ⟨rfl, rfl, rfl, by simp, fun k hk _ => heap_alloc_old w _ hk⟩
        have hg2 := grown_above w.heap.size (Nat.le_refl _) [.int .i64 x] i _ hg1
        have hg3 : w.grownBy ((w.alloc (.cells arr 3)).drew.setCells w.heap.size i [.int .i64 x]).drew (some g) := ⟨hg2.os, hg2.tape, hg2.output, hg2.size, hg2.block⟩
        have hg4 := grown_above w.heap.size (Nat.le_refl _) ((l.map (Value.int .i64)).drop i) (i + 1) _ hg3
        rw [← harr] at h2 hg4
        refine ⟨_, rfl, ?_, hg4, .inr ⟨w.heap.size, rfl, Nat.le_refl _⟩⟩
        rw [harr] at h2
        rw [hasz] at h2
        have h3 := own_of_row (B := B) (l := l.take i ++ x :: l.drop i) (n := L + 1) h2 hB (by omega) hge hgm (fun j hj => by
          rw [put_at x l i j (by omega)]
          by_cases hji : j = i
          · subst hji
            have c2 : ¬ (j + 1 ≤ j ∧ j < j + 1 + ((l.map (Value.int .i64)).drop j).length) := by omega
            have c1 : j ≤ j ∧ j < j + [Value.int .i64 x].length := ⟨Nat.le_refl _, by simp⟩
            simp only [c2, if_false, c1, and_self, if_true, Nat.lt_irrefl]
            simp
          · by_cases hlt : j < i
            · have c2 : ¬ (i + 1 ≤ j ∧ j < i + 1 + ((l.map (Value.int .i64)).drop i).length) := by omega
              have c1 : ¬ (i ≤ j ∧ j < i + [Value.int .i64 x].length) := by omega
              simp only [c2, c1, if_false, if_pos hlt]
              rw [hahd j hlt]; rfl
            · have c2 : i + 1 ≤ j ∧ j < i + 1 + ((l.map (Value.int .i64)).drop i).length := by omega
              simp only [c2, and_self, if_true, hlt, if_false, hji]
              have := hget j (by omega) hj
              rw [Nat.zero_add] at this
              exact this)
        rw [← harr] at h3
        exact h3

set_option maxRecDepth 100000 in
/-- slices.Delete of one number of a row of one's own. -/
theorem DeleteO {B : Nat} {g L rc i : Nat} {l : List Int} {w : World} (hown : w.ownsRow B 3 1 (.slice (some ⟨g, 0, none⟩) L rc) L (l.map (Value.int .i64))) (hi : i < L) :
    Calls Try.prog 39 #[.slice (some ⟨g, 0, none⟩) L rc, .int .i64 (i : Int), .int .i64 ((i + 1 : Nat) : Int)] w fun e w' =>
      e = .returned (.slice (some ⟨g, 0, none⟩) (L - 1) rc) ∧ w'.ownsRow B 3 1 (.slice (some ⟨g, 0, none⟩) (L - 1) rc) (L - 1) ((l.take i ++ l.drop (i + 1)).map (Value.int .i64)) ∧ w.grownBy w' (some g) := by
  obtain ⟨hlen, ⟨hv, h0⟩ | ⟨g', cap', cur, hv, hbase, hc, hle, hle2, hsz, htk⟩⟩ := id hown
  · cases hv
  · cases hv
    have hl : l.length = L := by simpa using hlen
    subst hl
    have hH : Holds (Value.int .i64) w g 0 l.toArray := holds_of_blockI hc (by simpa using htk)
    refine (Any.slices_Delete_int Try.laysNm223 g 0 rc i (i + 1) l w hH hle (by unfold maxLen at hle2; omega) (by omega) (by omega)).mono ?_
    rintro e w' ⟨rfl, n, rfl⟩
    rw [show i + 1 - i = 1 by omega]
    have ew : putRow (Value.int .i64) (Sort.ahead w n) g 0 (l.take i ++ l.drop (i + 1) ++ List.replicate 1 0).toArray = grow (putRow (Value.int .i64) (Sort.ahead w n) g 0 (l.take i ++ l.drop (i + 1) ++ List.replicate 1 0).toArray) #[] := (grow_nil _).symm
    rw [ew]
    refine ⟨rfl, ?_, grownBy_sortedI _⟩
    have hcs : cur.size = rc := by simpa using hsz
    have hll : (l.take i ++ l.drop (i + 1)).length = l.length - 1 := by simp; omega
    refine ⟨by simp; omega, .inr ⟨g, rc, _, rfl, hbase, heap_sortedI _ hc, by omega, hle2, by simp [putCells, hcs], ?_⟩⟩
    have h := take_putCellsI cur (l.take i ++ l.drop (i + 1) ++ List.replicate 1 0) (by simp; omega)
    have h2 := congrArg (List.take (l.length - 1)) h
    rw [List.take_take, List.map_append, List.take_left' (by rw [List.length_map]; exact hll)] at h2
    rw [Nat.mul_one]
    rw [← h2]
    congr 1
    simp
    omega

theorem SearchO (a : Option Addr) (l : List Int) (c : Nat) (x : Int) (w : World) (hI : Is w.heap.size w a l) (hl : l.length ≤ 1000) (hr : l.Pairwise (· < ·)) :
    Calls Try.prog 37 #[.slice a l.length c, .int .i64 x] w fun e w' => e = .returned (.tuple #[.int .i64 ((l.countP (· < x) : Nat) : Int), .bool (decide (x ∈ l))]) ∧ Below w.heap.size w w' := by
  cases l with
  | nil => exact (Any.slices_BinarySearch_int_empty Try.laysNm225 a c x w).mono fun e w' ⟨h1, h2⟩ => ⟨by simpa using h1, h2 ▸ Below.refl _ _⟩
  | cons y r =>
    obtain ⟨b, o, rfl, hb, h0⟩ := hI 0 (by simp)
    refine (Any.slices_BinarySearch_int Try.laysNm225 b o (y :: r).length c (y :: r) x w (Nat.le_refl _) (by omega) (fun j hj => ?_) (by rw [List.take_of_length_le (Nat.le_refl _)]; exact hr.imp fun h => Int.le_of_lt h)).mono fun e w' ⟨h1, n, h2⟩ => ⟨?_, by rw [h2]; exact below_drewN (Below.refl _ _) n⟩
    · obtain ⟨b', o', e, _, h1⟩ := hI j hj
      cases e
      rw [h1, List.getD_eq_getElem?_getD]
    · rw [h1, List.take_of_length_le (Nat.le_refl _)]
      simp [List.contains_eq_mem]
end Go.Proofs.Ytcbfmplddjmiaaa
