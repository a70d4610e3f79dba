/- Graphs: Turn. -/
import Derived.Test.YtcbfmplddjmiaaaGrH
namespace Go.Proofs.Ytcbfmplddjmiaaa
open Go Go.RowKit Go.Sort

/-- A row of a graph of one's own grows. -/
theorem GOwn.appendAt {B : Nat} {W W' : World} {gb n : Nat} {R : Nat → Value} {L : Nat → List Int} (h : GOwn B W gb n R L) {i : Nat} (hi : i < n) {v : Value} {l : List Int}
    (hg : W.grownBy W' (R i).ownBlock) (ho : W'.ownsRow B 3 1 v l.length (l.map (Value.int .i64))) (hn : v.ownBlock = (R i).ownBlock ∨ ∃ k, v.ownBlock = some k ∧ W.heap.size ≤ k) :
    GOwn B (W'.setCell ⟨gb, i, none⟩ v) gb n (fun j => if j = i then v else R j) (fun j => if j = i then l else L j) := by
  have hgl := h.top.lt
  have hvg : v.ownBlock ≠ some gb := by
    rcases hn with e | ⟨k, e, hk⟩
    · rw [e]; exact h.apart i hi
    · rw [e]; intro e2; cases e2; omega
  have hRl : ∀ j, j < n → ∀ k, (R j).ownBlock = some k → k < W.heap.size := fun j hj k hk => ((h.row j hj).lt k hk).2
  have keep : ∀ (u : Value) (m : Nat) (xs : List Value), W'.ownsRow B 3 1 u m xs → u.ownBlock ≠ some gb → (W'.setCell ⟨gb, i, none⟩ v).ownsRow B 3 1 u m xs := by
    intro u m xs hu hn
    refine ⟨hu.1, hu.2.imp id fun ⟨g, cap, cur, e, hg, hc, r⟩ => ⟨g, cap, cur, e, hg, ?_, r⟩⟩
    rw [Below.heap_setCell _ _ _ _ (by subst e; simpa [Value.ownBlock] using hn)]
    exact hc
  have hsep : ∀ j, j < n → j ≠ i → v.ownBlock = none ∨ v.ownBlock ≠ (R j).ownBlock := fun j hj hji => by
    rcases hn with e | ⟨k, e, hk⟩
    · rw [e]; exact h.sep i j hi hj (fun e => hji e.symm)
    · right
      rw [e]
      intro e2
      have := hRl j hj k e2.symm
      omega
  refine ⟨h.base, (h.top.of_block (hg.block gb hgl (fun e => h.apart i hi e.symm))).set i v, fun j hj => ?_, fun j hj => ?_, fun j k hj hk hjk => ?_⟩
  · by_cases e : j = i
    · simp only [e, if_true]; exact keep _ _ _ ho hvg
    · simp only [e, if_false]
      exact keep _ _ _ ((h.row j hj).kept hg (h.sep j i hj hi e)) (h.apart j hj)
  · by_cases e : j = i
    · simp only [e, if_true]; exact hvg
    · simp only [e, if_false]; exact h.apart j hj
  · by_cases e : j = i
    · have e2 : ¬ k = i := by omega
      simp only [e, e2, if_true, if_false]
      exact hsep k hk e2
    · by_cases e2 : k = i
      · simp only [e, e2, if_true, if_false]
        rcases hsep j hj e with h1 | h1
        · by_cases h3 : (R j).ownBlock = none
          · exact .inl h3
          · right; rw [h1]; exact h3
        · exact .inr fun h2 => h1 h2.symm
      · simp only [e, e2, if_false]; exact h.sep j k hj hk hjk

theorem turn_row {B : Nat} {w3 w4 : World} {gb n : Nat} {R : Nat → Value} {L : Nat → List Int} (hO : GOwn B w3 gb n R L) {y T tc : Nat} {ta : Option Addr} (hy : y < n) (hRy : R y = .slice ta T tc) {o : Obj} (hg : (w3.alloc o).grownBy w4 (Value.slice ta T tc).ownBlock) :
    w3.grownBy w4 (R y).ownBlock ∧ w4.cell? ⟨gb, y, none⟩ = some (R y) ∧ w4.frozen? ⟨gb, y, none⟩ = false := by
  rw [← hRy] at hg
  have h1 := grown_alloc o hg
  have h2 := hO.top.of_block (h1.block gb hO.top.lt (fun e => hO.apart y hy e.symm))
  exact ⟨h1, h2.cell hy, h2.frozen y⟩
theorem near_old {w3 : World} {o : Obj} {v u : Value} (h : v.ownBlock = u.ownBlock ∨ ∃ k, v.ownBlock = some k ∧ (w3.alloc o).heap.size ≤ k) : v.ownBlock = u.ownBlock ∨ ∃ k, v.ownBlock = some k ∧ w3.heap.size ≤ k :=
  h.imp _root_.id fun ⟨k, e, hk⟩ => ⟨k, e, by rw [World.size_alloc] at hk; omega⟩
theorem slice_owned {W : World} {B T : Nat} {v : Value} {l : List Nat} {q : Nat} (h : W.ownsRow B 3 1 v (T + 1) ((zs l).map (Value.int .i64) ++ [.int .i64 (q : Int)])) : ∃ va vc, v = .slice va (T + 1) vc := by
  obtain ⟨va, vc, e, -⟩ := is_own (l := zs l ++ [(q : Int)]) (by simpa using h)
  exact ⟨va, vc, e⟩

/-- The rows of what is turned around, of the first q nodes. -/
def turnTo (E : Nat → Nat → Bool) (q b : Nat) : List Nat := rowE q (fun a => E a b)
def turnIn (n : Nat) (E : Nat → Nat → Bool) (q k b : Nat) : List Nat := turnTo E q b ++ (if b ∈ (rowE n (E q)).take k then [q] else [])
theorem turnIn_zero (n : Nat) (E : Nat → Nat → Bool) (q b : Nat) : turnIn n E q 0 b = turnTo E q b := by simp [turnIn]
theorem turnIn_all {n : Nat} (E : Nat → Nat → Bool) (q : Nat) {b : Nat} (hb : b < n) : turnIn n E q (rowE n (E q)).length b = turnTo E (q + 1) b := by
  unfold turnIn turnTo
  rw [List.take_of_length_le (Nat.le_refl _), rowE_succ]
  congr 1
  simp only [mem_rowE, hb, true_and]
theorem turnIn_succ {n : Nat} {E : Nat → Nat → Bool} {q k y : Nat} (hk : k < (rowE n (E q)).length) (hy : (rowE n (E q))[k]?.getD 0 = y) :
    (turnIn n E q (k + 1) y = turnTo E q y ++ [q] ∧ turnIn n E q k y = turnTo E q y) ∧ ∀ b, b ≠ y → turnIn n E q (k + 1) b = turnIn n E q k b := by
  have e : (rowE n (E q))[k] = y := by rw [← hy, List.getElem?_eq_getElem hk]; rfl
  have hnot : y ∉ (rowE n (E q)).take k := by
    intro hm
    obtain ⟨j, hj, e2⟩ := List.getElem_of_mem hm
    rw [List.length_take] at hj
    rw [List.getElem_take] at e2
    have hnd : (rowE n (E q)).Nodup := (rowE_rising n (E q)).imp fun h => Nat.ne_of_lt h
    have := (List.getElem_inj (h₀ := by omega) (h₁ := hk) hnd).1 (e2.trans e.symm)
    omega
  unfold turnIn
  rw [List.take_succ_eq_append_getElem hk, e]
  refine ⟨⟨by simp, by simp [hnot]⟩, fun b hb => ?_⟩
  have : (b ∈ (rowE n (E q)).take k ++ [y]) ↔ b ∈ (rowE n (E q)).take k := by simp [hb]
  simp only [this]
theorem turnTo_le (E : Nat → Nat → Bool) (q b : Nat) : (turnTo E q b).length ≤ q := rowE_le _ _

set_option maxRecDepth 100000 in
set_option maxHeartbeats 8000000 in
theorem Turn_any (a : Option Addr) (g : List (List Int)) (cap : Nat) (w : World) (hG : GIs w.heap.size w a g) (hF : FewG g) (n : Nat) (hn : g.length = n) :
    Calls Try.prog 14 #[.slice a n cap] w fun e w' => ∃ gb R, e = .returned (.slice (some ⟨gb, 0, none⟩) n n) ∧ GOwn w.heap.size w' gb n R (fun j => zs (rowE n (fun x => edge g x j))) ∧ Below w.heap.size w w' := by
  have hn40 : n ≤ 40 := hn ▸ hF.1
  have HC := Lib.hid (fun W (h : Below w.heap.size w W) => Clean_any a g cap W (hG.on h) hF n hn)
  generalize edge g = E at *
  have hmk := mk_runG n (by omega) w
  have HO0 := Lib.hid (nils_own w n)
  have HB0 := Lib.hid (below1 w (.cells (nils n) 32))
  obtain ⟨i0, hi, hz0, hz1, hz2⟩ := info_parts info3
  clear hG hF hn
  go_enter Try.func14, Try.ntmps14
  go_wp2_with (go_at_call 12; refine (HC.out _ HB0.out).mono ?_; rintro e w1 ⟨gc, RC, rfl, hoc, hb⟩; have HOC := Lib.hid hoc; have HB1 := Lib.hid (HB0.out.trans (hb.mono HB0.out.size)); have HO1 := Lib.hid (HO0.out.below hb); clear hoc hb)
  clear hmk
  go_loopw [14] (fun i wr => ∃ q : Nat, q ≤ n ∧ i = .int .i64 q ∧ Hid (∃ R, GOwn w.heap.size wr w.heap.size n R (fun b => zs (turnTo E q b)) ∧ ∀ j, j < n → ∀ k, (R j).ownBlock = some k → w1.heap.size ≤ k) ∧ Hid (∀ k, k < w1.heap.size → k ≠ w.heap.size → wr.heap[k]? = w1.heap[k]?) ∧ Hid (w1.heap.size ≤ wr.heap.size) ∧ Hid (Below w.heap.size w wr)) (fun i _ => n - (intOf i).toNat)
  case atStart => exact ⟨0, Nat.zero_le _, rfl, ⟨_, HO1.out.congr fun j _ => by simp [turnTo, rowE, zs], fun j _ k hk => by cases hk⟩, fun _ _ _ => rfl, Nat.le_refl _, HB1.out⟩
  case round =>
    obtain ⟨q, hq, rfl, hown, hsame, hsz, hB⟩ := hrel
    by_cases hlt : q < n
    · have hqi : (q : Int) < (n : Int) := by omega
      obtain ⟨ra, rc, hR, -, -, hI, hrb⟩ := is_own (HOC.out.row q hlt)
      have hcx := HOC.out.top.cell hlt
      rw [hR] at hcx
      have hgc : gc ≠ w.heap.size := by have := HOC.out.base; rw [World.size_alloc] at this; omega
      have hcw := (World.cell?_of_block (w := w1) (a := ⟨gc, q, none⟩) (hsame.out gc HOC.out.top.lt hgc)).trans hcx
      have HRB := Lib.hid hrb
      have HI := Lib.hid hI
      obtain ⟨K, hK⟩ : ∃ K, (zs (rowE n (E q))).length = K := ⟨_, rfl⟩
      rw [hK] at hcw
      have hK2 : (rowE n (E q)).length = K := by rw [← hK, zs_length]
      have HK := Lib.hid hK
      have HK2 := Lib.hid hK2
      have hK40 : K ≤ 40 := by have := rowE_le n (E q); omega
      clear hR hI hrb hcx hgc hK hK2
      obtain ⟨w2, rfl⟩ : ∃ w2, w2 = wr := ⟨_, rfl⟩
      go_upto_region 6 with fail
      clear hcw
      go_loopw [21] (fun i wr => ∃ k : Nat, k ≤ K ∧ i = .int .i64 k ∧ Hid (∃ R, GOwn w.heap.size wr w.heap.size n R (fun b => zs (turnIn n E q k b)) ∧ ∀ j, j < n → ∀ k, (R j).ownBlock = some k → w1.heap.size ≤ k) ∧ Hid (∀ k, k < w1.heap.size → k ≠ w.heap.size → wr.heap[k]? = w1.heap[k]?) ∧ Hid (w1.heap.size ≤ wr.heap.size) ∧ Hid (Below w.heap.size w wr)) (fun i _ => K - (intOf i).toNat)
      case atStart =>
        obtain ⟨R, h1, h2⟩ := hown.out
        exact ⟨0, Nat.zero_le _, rfl, ⟨R, h1.congr fun j _ => by rw [turnIn_zero], h2⟩, hsame, hsz, hB⟩
      case round =>
        obtain ⟨k, hk, rfl, hown3, hsame3, hsz3, hB3⟩ := hrel
        obtain ⟨w3, rfl⟩ : ∃ w3, w3 = wr := ⟨_, rfl⟩
        by_cases hlt3 : k < K
        · have hki : (k : Int) < (K : Int) := by omega
          obtain ⟨b1, o1, rfl, hb1, e1⟩ := HI.out k (by rw [HK.out]; exact hlt3)
          have hb1n : b1 ≠ w.heap.size := by have := HRB.out ⟨b1, o1, none⟩ rfl; rw [World.size_alloc] at this; have h2 : w.heap.size + 1 ≤ b1 := this; omega
          have hcs := (World.cell?_of_block (w := w1) (a := ⟨b1, o1 + k, none⟩) (hsame3.out b1 hb1 hb1n)).trans e1
          obtain ⟨y, hy⟩ : ∃ y, (rowE n (E q))[k]?.getD 0 = y := ⟨_, rfl⟩
          rw [zs_get, hy] at hcs
          have hkr : k < (rowE n (E q)).length := by rw [HK2.out]; exact hlt3
          have hyn : y < n := (mem_rowE.1 (show y ∈ rowE n (E q) by rw [← hy, List.getElem?_eq_getElem hkr]; exact List.getElem_mem hkr)).1
          have hyi : (y : Int) < (n : Int) := by omega
          have HST := Lib.hid (turnIn_succ hkr hy)
          obtain ⟨R, hO3, hab⟩ := hown3.out
          obtain ⟨ta, tc, hRy, -, -, -, -⟩ := is_own (hO3.row y hyn)
          have hcy := hO3.top.cell hyn
          have hfy := hO3.top.frozen y
          have hrow := hO3.row y hyn
          rw [HST.out.1.2] at hRy hrow
          rw [hRy] at hcy hrow
          have htl := turnTo_le E q y
          obtain ⟨T, hT⟩ : ∃ T, (zs (turnTo E q y)).length = T := ⟨_, rfl⟩
          have hT40 : T ≤ 40 := by rw [← hT, zs_length]; omega
          rw [hT] at hcy hrow hRy
          have HROW := Lib.hid hrow
          have HRY := Lib.hid hRy
          have HO3 := Lib.hid hO3
          have HAB := Lib.hid hab
          have HT := Lib.hid hT
          have hgl : w.heap.size < w3.heap.size := hO3.top.lt
          have HGL := Lib.hid hgl
          have h63 : T + 1 ≤ maxLen := by unfold maxLen; omega
          have hby : (T + 1) * 8 ≤ 140737488355328 := by omega
          have HYN := Lib.hid hyn
          clear e1 hy hkr hown3 hO3 hab hrow hRy hT htl hb1n hgl
          go_wp2_with (at_builtin; refine wpList_append_near _ rfl _ _ 32 rfl w.heap.size 3 i0 (.int .i64 0) 1 8 Try.underlying32 hi hz0 hz1 hz2 rfl (by decide) _ _ _ rfl (HROW.out.alloc _) ⟨_, 0, none⟩ 1 1 [.int .i64 (q : Int)] rfl rfl (cell_one_new _ _ _) (by simp [Value.oneCell']) (by decide) h63 hby (by have := HGL.out; rw [World.size_alloc]; omega) ?_; intro v' w4 hown' hgrow hnear; obtain ⟨va, vc, rfl⟩ := slice_owned hown'; obtain ⟨hg4, hcy4, hfy4⟩ := turn_row HO3.out HYN.out HRY.out hgrow; have HO4 := Lib.hid hown'; have HG4 := Lib.hid hg4; have HN4 := Lib.hid (near_old hnear); clear hown' hgrow hnear hg4 hcy hfy)
          go_roundw
          case rel =>
            have hsz4 := HG4.out.size
            have hsz3' := hsz3.out
            have hab : ∀ k, (R y).ownBlock = some k → w1.heap.size ≤ k := HAB.out y HYN.out
            have hnear : (Value.slice va (T + 1) vc).ownBlock = (R y).ownBlock ∨ ∃ k, (Value.slice va (T + 1) vc).ownBlock = some k ∧ w3.heap.size ≤ k := by rw [HRY.out]; exact HN4.out
            refine ⟨k + 1, by omega, by go_num, ?_, ?_, ?_, ?_⟩
            · have h := HO3.out.appendAt HYN.out (v := .slice va (T + 1) vc) (l := zs (turnTo E q y) ++ [(q : Int)]) HG4.out (by
                rw [List.length_append, HT.out, List.map_append]; exact HO4.out) hnear
              refine ⟨_, h.congr fun j hj => ?_, fun j hj b hb => ?_⟩
              · by_cases e : j = y
                · subst e
                  simp only [if_true]
                  rw [HST.out.1.1]
                  simp [zs]
                · simp only [e, if_false]
                  rw [HST.out.2 j e]
              · by_cases e : j = y
                · simp only [e, if_true] at hb
                  rcases hnear with h1 | ⟨k', h1, h2⟩
                  · exact hab b (h1.symm.trans hb)
                  · rw [h1] at hb; cases hb; omega
                · simp only [e, if_false] at hb
                  exact HAB.out j hj b hb
            · intro b hb hne
              rw [Below.heap_setCell _ _ _ _ hne, HG4.out.block b (by omega) (fun e => by have := hab b e.symm; omega)]
              exact hsame3.out b hb hne
            · show w1.heap.size ≤ (w4.setCell _ _).heap.size
              have : (w4.setCell ⟨w.heap.size, y, none⟩ (.slice va (T + 1) vc)).heap.size = w4.heap.size := by simp [World.setCell]
              omega
            · refine Below.setCell (p := ⟨w.heap.size, y, none⟩) ?_ (Nat.le_refl _) _
              refine hB3.out.grown HG4.out (by have := HGL.out; omega) (fun b hb => ?_)
              have := hab b hb
              have := HB1.out.size
              omega
          case measure => simp [intOf]; omega
        · obtain rfl : k = K := by omega
          go_wp2_with fail
          go_roundw
          case rel =>
            refine ⟨q + 1, by omega, by go_num, ?_, hsame3, hsz3, hB3⟩
            obtain ⟨R, h1, h2⟩ := hown3.out
            exact ⟨R, h1.congr fun j hj => by rw [← HK2.out, turnIn_all E q hj], h2⟩
          case measure => simp [intOf]; omega
    · obtain rfl : q = n := by omega
      go_wp2_with fail
      go_ret
      obtain ⟨R, h1, -⟩ := hown.out
      exact ⟨_, R, rfl, h1, hB.out⟩
end Go.Proofs.Ytcbfmplddjmiaaa
