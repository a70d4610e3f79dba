/- Graphs: Order, Reach. -/
import Derived.Test.YtcbfmplddjmiaaaGrE
namespace Go.Proofs.Ytcbfmplddjmiaaa
open Go Go.RowKit Go.Sort

set_option maxRecDepth 100000 in
/-- slices.Reverse, of a row of one's own that has numbers. -/
theorem ReverseO {B : Nat} {g T cap : Nat} {l : List Int} {w : World} (hown : w.ownsRow B 3 1 (.slice (some ⟨g, 0, none⟩) T cap) T (l.map (Value.int .i64))) (hB : B ≤ w.heap.size) (hT : T ≤ 1000) :
    Calls Try.prog 35 #[.slice (some ⟨g, 0, none⟩) T cap] w fun e w' => e = .returned (.tuple #[]) ∧ w'.ownsRow B 3 1 (.slice (some ⟨g, 0, none⟩) T cap) T (l.reverse.map (Value.int .i64)) ∧ Below B w w' := by
  obtain ⟨hlen, ⟨hv, h0⟩ | ⟨g', cap', cur, hv, hbase, hc, hle, hle2, hsz, htk⟩⟩ := id hown
  · cases hv
  · cases hv
    have hl : l.length = T := by simpa using hlen
    subst hl
    have hH : Holds (Value.int .i64) w g 0 l.toArray := holds_of_blockI hc (by simpa using htk)
    have hs := Any.slices_Reverse_int Try.lays112 g 0 cap l w hH (by omega)
    refine hs.mono ?_
    rintro e w' ⟨rfl, n, rfl⟩
    have ew : putRow (Value.int .i64) (Sort.ahead w n) g 0 l.reverse.toArray = grow (putRow (Value.int .i64) (Sort.ahead w n) g 0 l.reverse.toArray) #[] := (grow_nil _).symm
    rw [ew]
    refine ⟨rfl, ownsRow_sortedI (by simp) hbase hc hle hle2 (by simpa using hsz), ?_⟩
    exact owns_grown (Below.refl B w) hown (grownBy_sortedI _) hB

theorem zs_reverse (l : List Nat) : zs l.reverse = (zs l).reverse := by simp [zs]
theorem post_length (n : Nat) (E : Nat → Nat → Bool) {a : Nat} (ha : a < n) : 0 < (post n E a).length ∧ (post n E a).length ≤ n := by
  have h := post_is E ha
  refine ⟨?_, nodup_length n _ h.nd fun x hx => ((h.way x).1 hx).lt.2⟩
  cases hl : post n E a with
  | nil => have := h.la; rw [hl] at this; simp at this
  | cons => simp
/-- The order from any number. -/
def orderI (n : Nat) (E : Nat → Nat → Bool) (x : Int) : List Nat := if 0 ≤ x then order n E x.toNat else []
theorem orderI_nat (n : Nat) (E : Nat → Nat → Bool) (x : Nat) : orderI n E (x : Int) = order n E x := by unfold orderI; simp
theorem orderI_out {n : Nat} {E : Nat → Nat → Bool} {x : Int} (h : ¬ (0 ≤ x ∧ x < (n : Int))) : orderI n E x = [] := by
  unfold orderI order
  by_cases h0 : 0 ≤ x
  · rw [if_pos h0, if_neg (by omega)]
  · rw [if_neg h0]
theorem orderI_length (n : Nat) (E : Nat → Nat → Bool) (x : Int) : (orderI n E x).length ≤ n := by
  unfold orderI
  split
  · exact order_length n E _
  · simp
theorem orderI_lt {n : Nat} {E : Nat → Nat → Bool} {x : Int} {y : Nat} (h : y ∈ orderI n E x) : y < n := by
  unfold orderI at h
  split at h
  · exact order_lt h
  · simp at h

set_option maxRecDepth 100000 in
set_option maxHeartbeats 4000000 in
theorem Order_any (a : Option Addr) (g : List (List Int)) (cap n : Nat) (x : Int) (w : World) (hG : GIs w.heap.size w a g) (hF : FewG g) (hn : g.length = n) (ks : List Nat) (hks : orderI n (edge g) x = ks) :
    Calls Try.prog 20 #[.slice a n cap, .int .i64 x] w fun e w' => ∃ u, e = .returned u ∧ w'.ownsRow w.heap.size 3 1 u ks.length ((zs ks).map (Value.int .i64)) ∧ Below w.heap.size w w' := by
  have hn40 : n ≤ 40 := hn ▸ hF.1
  have HN := Lib.hid (isNode_any a n cap x w)
  by_cases hx : 0 ≤ x ∧ x < (n : Int)
  · obtain ⟨y, rfl⟩ : ∃ y : Nat, x = (y : Int) := ⟨x.toNat, by omega⟩
    have hy : y < n := by omega
    have HP := Lib.hid (postorder_any a g cap y n w hG hF hn hy)
    have hl := post_length n (edge g) hy
    rw [orderI_nat, order, if_pos hy] at hks
    have HK := Lib.hid hks
    have hd : decide (0 ≤ (y : Int) ∧ (y : Int) < (n : Int)) = true := by simp; omega
    rw [hd] at HN
    generalize post n (edge g) y = l at *
    clear hG hF hn hx hks hd
    go_enter Try.func20, Try.ntmps20
    go_wp2_with (first | (go_at_call 33; refine HN.out.mono ?_; rintro e w1 ⟨rfl, rfl⟩) | (go_at_call 34; refine HP.out.mono ?_; rintro e w1 ⟨u, rfl, hou, hb⟩; have HU := Lib.hid hou; have HB := Lib.hid hb; clear hou hb))
    obtain ⟨hlen, ⟨hv, h0⟩ | ⟨g', cap', cur, hv, -, -, -, -, -, -⟩⟩ := id HU.out
    · omega
    · subst hv
      refine (ReverseO HU.out HB.out.size (by omega)).mono ?_
      rintro e w5 ⟨rfl, ho5, hb5⟩
      have HO5 := Lib.hid ho5
      have HB5 := Lib.hid (HB.out.trans hb5)
      clear ho5 hb5
      go_wp2_with fail
      go_ret
      have h := HO5.out
      rw [← zs_reverse, HK.out] at h
      refine ⟨_, rfl, ?_, HB5.out⟩
      have e2 : l.length = ks.length := by rw [← HK.out, List.length_reverse]
      rwa [e2] at h ⊢
  · have hd : decide (0 ≤ x ∧ x < (n : Int)) = false := by simpa using hx
    rw [hd] at HN
    rw [orderI_out hx] at hks
    subst hks
    clear hG hF hn hx hd
    go_enter Try.func20, Try.ntmps20
    go_wp2_with (go_at_call 33; refine HN.out.mono ?_; rintro e w1 ⟨rfl, rfl⟩)
    go_ret
    exact ⟨_, rfl, World.ownsRow_nil _ _ _ _, Below.refl _ _⟩

/-- Which nodes there is a way to. -/
def reachL (n : Nat) (E : Nat → Nat → Bool) (x : Int) : List Bool := (List.range n).map fun y => decide (y ∈ orderI n E x)
theorem reachL_length (n : Nat) (E : Nat → Nat → Bool) (x : Int) : (reachL n E x).length = n := by simp [reachL]
theorem reachL_at {n : Nat} {E : Nat → Nat → Bool} {x : Int} {y : Nat} (hy : y < n) : (reachL n E x)[y]?.getD false = decide (y ∈ orderI n E x) := by simp [reachL, hy]
/-- .. of the first q that are told. -/
def foundTo (n : Nat) (l : List Nat) (q : Nat) : List Bool := (List.range n).map fun y => decide (y ∈ l.take q)
theorem foundTo_zero (n : Nat) (l : List Nat) : foundTo n l 0 = List.replicate n false := by
  unfold foundTo
  apply List.ext_getElem <;> simp
theorem foundTo_succ {n : Nat} {l : List Nat} {q y : Nat} (hq : q < l.length) (hy : l[q]?.getD 0 = y) : foundTo n l (q + 1) = (foundTo n l q).set y true := by
  have e : l[q] = y := by rw [← hy]; simp [hq]
  unfold foundTo
  apply List.ext_getElem
  · simp
  · intro i h1 h2
    simp only [List.getElem_map, List.getElem_range, List.getElem_set, List.take_succ_eq_append_getElem hq, e]
    by_cases h : y = i
    · subst h; simp
    · rw [if_neg h]
      have : ¬ i = y := fun e => h e.symm
      simp [this]
theorem foundTo_all (n : Nat) (E : Nat → Nat → Bool) (x : Int) : foundTo n (orderI n E x) (orderI n E x).length = reachL n E x := by
  unfold foundTo reachL
  rw [List.take_of_length_le (Nat.le_refl _)]

set_option maxRecDepth 100000 in
set_option maxHeartbeats 4000000 in
theorem Reach_any (a : Option Addr) (g : List (List Int)) (cap n : Nat) (x : Int) (w : World) (hG : GIs w.heap.size w a g) (hF : FewG g) (hn : g.length = n) :
    Calls Try.prog 17 #[.slice a n cap, .int .i64 x] w fun e w' => ∃ b, e = .returned (.slice (some ⟨b, 0, none⟩) n n) ∧ w.heap.size ≤ b ∧ BIs w' b (reachL n (edge g) x) ∧ Below w.heap.size w w' := by
  have hn40 : n ≤ 40 := hn ▸ hF.1
  have hol := orderI_length n (edge g) x
  have HLT := Lib.hid (fun y (h : y ∈ orderI n (edge g) x) => orderI_lt h)
  have HO := Lib.hid (fun W (h : Below w.heap.size w W) => Order_any a g cap n x W (hG.on h) hF hn _ rfl)
  rw [← foundTo_all]
  generalize orderI n (edge g) x = l at *
  obtain ⟨L, hL⟩ : ∃ L, l.length = L := ⟨_, rfl⟩
  rw [hL] at hol HO
  have HLL := Lib.hid hL
  have hmk := mk_runB n (by omega) w
  have HF0 := Lib.hid (falses_is w n)
  have HB0 := Lib.hid (below1 w (.cells (falses n) 4))
  clear hG hF hn hL
  go_enter Try.func17, Try.ntmps17
  go_wp2_with (go_at_call 20; refine (HO.out _ HB0.out).mono ?_; rintro e w1 ⟨u, rfl, hou, hb⟩; obtain ⟨ua, uc, rfl, -, -, hI, hub⟩ := is_own hou; have HI := Lib.hid hI; have HUB := Lib.hid hub; have HB1 := Lib.hid (HB0.out.trans (hb.mono HB0.out.size)); have HF1 := Lib.hid (HF0.out.below hb); clear hou hI hb hub)
  go_loopw [15] (fun i wr => ∃ q : Nat, q ≤ L ∧ i = .int .i64 q ∧ Hid (BIs wr w.heap.size (foundTo n l q)) ∧ Hid (∀ k, k ≠ w.heap.size → wr.heap[k]? = w1.heap[k]?) ∧ Hid (Below w.heap.size w wr)) (fun i _ => L - (intOf i).toNat)
  case atStart => exact ⟨0, Nat.zero_le _, rfl, by rw [foundTo_zero]; exact HF1, fun _ _ => rfl, HB1⟩
  case round =>
    obtain ⟨q, hq, rfl, hfo, hsame, hBw⟩ := hrel
    by_cases hlt : q < L
    · have hqi : (q : Int) < (L : Int) := by omega
      obtain ⟨b, o, rfl, hb, e1⟩ := HI.out q (by rw [zs_length, HLL.out]; exact hlt)
      obtain ⟨y, hy⟩ : ∃ y, l[q]?.getD 0 = y := ⟨_, rfl⟩
      rw [zs_get, hy] at e1
      have hql : q < l.length := by rw [HLL.out]; exact hlt
      have hyn : y < n := by
        refine HLT.out y ?_
        rw [← hy, List.getElem?_eq_getElem hql]
        exact List.getElem_mem hql
      have hyi : (y : Int) < (n : Int) := by omega
      have hbne : b ≠ w.heap.size := by
        have := HUB.out ⟨b, o, none⟩ rfl
        rw [World.size_alloc] at this
        show b ≠ _
        have h2 : w.heap.size + 1 ≤ b := this
        omega
      have g1 := (World.cell?_of_block (w := w1) (a := ⟨b, o + q, none⟩) (hsame.out b hbne)).trans e1
      have hc1 := World.rowIs.cell hfo.out (i := y) (by simp [foundTo]; exact hyn)
      have hf1 := World.rowIs.frozen hfo.out y
      have HST := Lib.hid (foundTo_succ (n := n) hql hy)
      clear e1 hy hbne
      go_wp2_with fail
      go_roundw
      case rel =>
        refine ⟨q + 1, by omega, by go_num, ?_, ?_, ?_⟩
        · rw [HST.out]
          exact BIs.set hfo.out y true (by simp [foundTo]; exact hyn)
        · intro k hk
          rw [Below.heap_setCell _ _ _ _ hk]
          exact hsame.out k hk
        · exact hBw.out.setCell (p := ⟨w.heap.size, y, none⟩) (Nat.le_refl _) _
      case measure => simp [intOf]; omega
    · obtain rfl : q = L := by omega
      go_wp2_with fail
      go_ret
      refine ⟨_, rfl, Nat.le_refl _, ?_, hBw.out⟩
      rw [HLL.out]
      exact hfo.out
end Go.Proofs.Ytcbfmplddjmiaaa
