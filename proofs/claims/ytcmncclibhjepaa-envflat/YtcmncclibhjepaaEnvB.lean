import Derived.Test.YtcmncclibhjepaaEnvA
namespace Go.Proofs.Ytcmncclibhjepaa
open Go Go.RowKit Go.Sort

/-- Values that the call has just made: they lie at the head of the block g, which lies from n0 on and may be written. -/
def FreshF (t : TypeId) (n0 : Nat) (W : World) (g : Nat) (l : List V) : Prop :=
  n0 ≤ g ∧ ∃ cur : Array Value, W.heap[g]? = some (.cells cur t (0, 0)) ∧ l.length * 2 ≤ cur.size ∧ ∀ j, j < l.length → cur[j * 2]? = some (.int .i64 (l[j]?.getD vbot).k) ∧ cur[j * 2 + 1]? = some (.int .i64 (l[j]?.getD vbot).c)
def FreshS (t : TypeId) (n0 : Nat) (W : World) (g : Nat) (l : List Int) : Prop :=
  n0 ≤ g ∧ ∃ cur : Array Value, W.heap[g]? = some (.cells cur t (0, 0)) ∧ l.length ≤ cur.size ∧ ∀ j, j < l.length → cur[j]? = some (.int .i64 (l[j]?.getD 0))

theorem FreshF.lt {t : TypeId} {n0 : Nat} {W : World} {g : Nat} {l : List V} (h : FreshF t n0 W g l) : g < W.heap.size := let ⟨_, _, hc, _⟩ := h; (Array.getElem?_eq_some_iff.1 hc).1
theorem FreshF.frozenAt {t : TypeId} {n0 : Nat} {W : World} {g : Nat} {l : List V} (h : FreshF t n0 W g l) (j : Nat) : W.frozen? ⟨g, j, none⟩ = false := by
  obtain ⟨_, cur, hc, _⟩ := h
  simp [World.frozen?, hc]
theorem FreshF.block {t : TypeId} {n0 : Nat} {W : World} {g : Nat} {l : List V} {W' : World} (h : FreshF t n0 W g l) (he : W'.heap[g]? = W.heap[g]?) : FreshF t n0 W' g l :=
  let ⟨h1, cur, hc, hl, hx⟩ := h; ⟨h1, cur, he.trans hc, hl, hx⟩
theorem FreshF.below {t : TypeId} {n0 : Nat} {W : World} {g : Nat} {l : List V} {W' : World} {B : Nat} (h : FreshF t n0 W g l) (hb : Below B W W') (hg : g < B) : FreshF t n0 W' g l := h.block (hb.block g hg)
theorem FreshF.base {t : TypeId} {n0 : Nat} {W : World} {g : Nat} {l : List V} {n1 : Nat} (h : FreshF t n0 W g l) (hn : n1 ≤ n0) : FreshF t n1 W g l := ⟨Nat.le_trans hn h.1, h.2⟩
theorem FreshF.drew {t : TypeId} {n0 : Nat} {W : World} {g : Nat} {l : List V} (h : FreshF t n0 W g l) : FreshF t n0 W.drew g l := h.block rfl

theorem FreshS.lt {t : TypeId} {n0 : Nat} {W : World} {g : Nat} {l : List Int} (h : FreshS t n0 W g l) : g < W.heap.size := let ⟨_, _, hc, _⟩ := h; (Array.getElem?_eq_some_iff.1 hc).1
theorem FreshS.frozenAt {t : TypeId} {n0 : Nat} {W : World} {g : Nat} {l : List Int} (h : FreshS t n0 W g l) (j : Nat) : W.frozen? ⟨g, j, none⟩ = false := by
  obtain ⟨_, cur, hc, _⟩ := h
  simp [World.frozen?, hc]
theorem FreshS.block {t : TypeId} {n0 : Nat} {W : World} {g : Nat} {l : List Int} {W' : World} (h : FreshS t n0 W g l) (he : W'.heap[g]? = W.heap[g]?) : FreshS t n0 W' g l :=
  let ⟨h1, cur, hc, hl, hx⟩ := h; ⟨h1, cur, he.trans hc, hl, hx⟩
theorem FreshS.below {t : TypeId} {n0 : Nat} {W : World} {g : Nat} {l : List Int} {W' : World} {B : Nat} (h : FreshS t n0 W g l) (hb : Below B W W') (hg : g < B) : FreshS t n0 W' g l := h.block (hb.block g hg)
theorem FreshS.base {t : TypeId} {n0 : Nat} {W : World} {g : Nat} {l : List Int} {n1 : Nat} (h : FreshS t n0 W g l) (hn : n1 ≤ n0) : FreshS t n1 W g l := ⟨Nat.le_trans hn h.1, h.2⟩
theorem FreshS.drew {t : TypeId} {n0 : Nat} {W : World} {g : Nat} {l : List Int} (h : FreshS t n0 W g l) : FreshS t n0 W.drew g l := h.block rfl

theorem FreshF.cellAt {t : TypeId} {n0 : Nat} {W : World} {g : Nat} {l : List V} (h : FreshF t n0 W g l) {j : Nat} (hj : j < l.length) :
    W.cell? ⟨g, j * 2, none⟩ = some (.int .i64 (l[j]?.getD vbot).k) ∧ W.cell? ⟨g, j * 2 + 1, none⟩ = some (.int .i64 (l[j]?.getD vbot).c) := by
  obtain ⟨_, cur, hc, hl, hx⟩ := h
  obtain ⟨h0, h1⟩ := hx j hj
  exact ⟨by simp [World.cell?, hc, h0], by simp [World.cell?, hc, h1]⟩
theorem FreshS.cellAt {t : TypeId} {n0 : Nat} {W : World} {g : Nat} {l : List Int} (h : FreshS t n0 W g l) {j : Nat} (hj : j < l.length) :
    W.cell? ⟨g, j, none⟩ = some (.int .i64 (l[j]?.getD 0)) := by
  obtain ⟨_, cur, hc, hl, hx⟩ := h
  have h0 := hx j hj
  simp [World.cell?, hc, h0]
theorem FreshF.fis {t : TypeId} {n0 : Nat} {W : World} {g : Nat} {l : List V} (h : FreshF t n0 W g l) : FIs W.heap.size W (some ⟨g, 0, none⟩) l :=
  fun _ hj => ⟨g, 0, rfl, h.lt, by rw [Nat.zero_add]; exact (h.cellAt hj).1, by rw [Nat.zero_add]; exact (h.cellAt hj).2⟩
theorem FreshS.fis {t : TypeId} {n0 : Nat} {W : World} {g : Nat} {l : List Int} (h : FreshS t n0 W g l) : Is W.heap.size W (some ⟨g, 0, none⟩) l :=
  fun _ hj => ⟨g, 0, rfl, h.lt, by rw [Nat.zero_add]; exact h.cellAt hj⟩
theorem heap_setCell_self {W : World} {g j : Nat} {cur : Array Value} {t : TypeId} (x : Value) (hc : W.heap[g]? = some (.cells cur t (0, 0))) : (W.setCell ⟨g, j, none⟩ x).heap[g]? = some (.cells (cur.setIfInBounds j x) t (0, 0)) := by
  obtain ⟨hlt, hk⟩ := Array.getElem?_eq_some_iff.1 hc
  show (W.heap.modify g _)[g]? = _
  rw [Array.getElem?_eq_getElem (by rw [Array.size_modify]; exact hlt), Array.getElem_modify_self, hk]
  rfl
theorem FreshS.set {t : TypeId} {n0 : Nat} {W : World} {g : Nat} {l : List Int} (h : FreshS t n0 W g l) (j : Nat) (x : Int) : FreshS t n0 (W.setCell ⟨g, j, none⟩ (.int .i64 x)) g (l.set j x) := by
  obtain ⟨h1, cur, hc, hl, hx⟩ := h
  refine ⟨h1, cur.setIfInBounds j (.int .i64 x), heap_setCell_self _ hc, by simpa using hl, ?_⟩
  intro i hi
  simp only [List.length_set] at hi
  rw [Array.getElem?_setIfInBounds]
  by_cases hij : j = i
  · subst hij
    have : j < cur.size := by omega
    simp [this, hi]
  · simp [hij, List.getElem?_set_ne hij, hx i hi]
theorem FreshF.set {t : TypeId} {n0 : Nat} {W : World} {g : Nat} {l : List V} (h : FreshF t n0 W g l) (j : Nat) (x y : Int) :
    FreshF t n0 ((W.setCell ⟨g, j * 2, none⟩ (.int .i64 x)).setCell ⟨g, j * 2 + 1, none⟩ (.int .i64 y)) g (l.set j ⟨x, y⟩) := by
  obtain ⟨h1, cur, hc, hl, hx⟩ := h
  refine ⟨h1, (cur.setIfInBounds (j * 2) (.int .i64 x)).setIfInBounds (j * 2 + 1) (.int .i64 y), heap_setCell_self _ (heap_setCell_self _ hc), by simpa using hl, ?_⟩
  intro i hi
  simp only [List.length_set] at hi
  rw [Array.getElem?_setIfInBounds, Array.getElem?_setIfInBounds, Array.getElem?_setIfInBounds, Array.getElem?_setIfInBounds]
  by_cases hij : j = i
  · subst hij
    have h1 : j * 2 < cur.size := by omega
    have h2 : j * 2 + 1 < cur.size := by omega
    simp [h1, h2, hi]
  · have h2 := hx i hi
    have e1 : ¬ j * 2 + 1 = i * 2 := by omega
    have e2 : ¬ j * 2 = i * 2 := by omega
    have e3 : ¬ j * 2 + 1 = i * 2 + 1 := by omega
    have e4 : ¬ j * 2 = i * 2 + 1 := by omega
    simp only [e1, e2, e3, e4, if_false, List.getElem?_set_ne hij]
    exact h2

theorem Box.far {W : World} {b g : Nat} {x y : Value} (h : Box W b x y) (hne : b ≠ g) {i j : Nat} {u v : Value} : Box ((W.setCell ⟨g, i, none⟩ u).setCell ⟨g, j, none⟩ v) b x y := by
  have e : ((W.setCell ⟨g, i, none⟩ u).setCell ⟨g, j, none⟩ v).heap[b]? = W.heap[b]? := by
    rw [Below.heap_setCell _ _ _ _ (by simpa using hne), Below.heap_setCell _ _ _ _ (by simpa using hne)]
  exact ⟨(World.cell?_of_block (w := W) e).trans h.c0, (World.cell?_of_block (w := W) e).trans h.c1, (World.frozen?_of_block (w := W) e).trans h.f0, (World.frozen?_of_block (w := W) e).trans h.f1⟩
theorem Box.far1 {W : World} {b g : Nat} {x y : Value} (h : Box W b x y) (hne : b ≠ g) {i : Nat} {u : Value} : Box (W.setCell ⟨g, i, none⟩ u) b x y := by
  have e : (W.setCell ⟨g, i, none⟩ u).heap[b]? = W.heap[b]? := by
    rw [Below.heap_setCell _ _ _ _ (by simpa using hne)]
  exact ⟨(World.cell?_of_block (w := W) e).trans h.c0, (World.cell?_of_block (w := W) e).trans h.c1, (World.frozen?_of_block (w := W) e).trans h.f0, (World.frozen?_of_block (w := W) e).trans h.f1⟩

def zerosF (k : Nat) : Array Value := Array.replicate (k * 2) (.int .i64 0)
def zerosS (k : Nat) : Array Value := Array.replicate k (.int .i64 0)
theorem infoF : (Try.prog.info? 32).map (fun i => (i.zero, i.size, i.bytes)) = some (some (.agg #[.int .i64 0, .int .i64 0]), 2, 16) := by kernel_rfl
theorem infoR : (Try.prog.info? 26).map (fun i => (i.zero, i.size, i.bytes)) = some (some (.agg #[.int .i64 0, .int .i64 0]), 2, 16) := by kernel_rfl
theorem made_zerosF (k : Nat) : madeCells (Value.agg #[.int .i64 0, .int .i64 0]).cells (k * 2) = zerosF k := by
  apply Array.ext
  · simp [madeCells, zerosF]
  · intro i h1 h2
    rcases Nat.mod_two_eq_zero_or_one i with h | h <;> simp [madeCells, zerosF, Value.cells, h]
theorem made_zerosS (k : Nat) : madeCells (Value.int .i64 0).cells (k * 1) = zerosS k := by
  apply Array.ext
  · simp [madeCells, zerosS]
  · intro i h1 h2
    simp [madeCells, zerosS, Value.cells, Nat.mod_one]
theorem mk_runF (k : Nat) (hk : k ≤ 1024) (W : World) : (Instr.makeSlice 28 (.int .i64 (k : Int)) (.int .i64 (k : Int))).run Try.prog W = .ok (.slice (some ⟨W.heap.size, 0, none⟩) k k) (W.alloc (.cells (zerosF k) 32)) := by
  obtain ⟨i, hi, hz0, hz1, hz2⟩ := info_parts infoF
  have h := run_make (P := Try.prog) W 28 32 i (.agg #[.int .i64 0, .int .i64 0]) Try.underlying28 hi hz0 .i64 .i64 k k (by omega) (by omega) (by rw [hz2]; omega) (by omega)
  rw [h, hz1]
  simp only [Int.toNat_natCast]
  rw [made_zerosF]
theorem mk_runS (k : Nat) (hk : k ≤ 1024) (W : World) : (Instr.makeSlice 46 (.int .i64 (k : Int)) (.int .i64 (k : Int))).run Try.prog W = .ok (.slice (some ⟨W.heap.size, 0, none⟩) k k) (W.alloc (.cells (zerosS k) 3)) := by
  obtain ⟨i, hi, hz0, hz1, hz2⟩ := info_parts info3
  have h := run_make (P := Try.prog) W 46 3 i (.int .i64 0) Try.underlying46 hi hz0 .i64 .i64 k k (by omega) (by omega) (by rw [hz2]; omega) (by omega)
  rw [h, hz1]
  simp only [Int.toNat_natCast]
  rw [made_zerosS]
theorem freshF_zeros (n0 : Nat) (W : World) (k : Nat) (t : TypeId) (h : n0 ≤ W.heap.size) : FreshF t n0 (W.alloc (.cells (zerosF k) t)) W.heap.size (List.replicate k vbot) := by
  refine ⟨h, zerosF k, heap_alloc_new W _, by simp [zerosF], ?_⟩
  intro j hj
  simp only [List.length_replicate] at hj
  have h1 : j * 2 < k * 2 := by omega
  have h2 : j * 2 + 1 < k * 2 := by omega
  simp [zerosF, hj, h2, vbot]
theorem freshS_zeros (n0 : Nat) (W : World) (k : Nat) (t : TypeId) (h : n0 ≤ W.heap.size) : FreshS t n0 (W.alloc (.cells (zerosS k) t)) W.heap.size (List.replicate k 0) := by
  refine ⟨h, zerosS k, heap_alloc_new W _, by simp [zerosS], ?_⟩
  intro j hj
  simp only [List.length_replicate] at hj
  simp [zerosS, hj]

set_option maxHeartbeats 2000000 in
theorem GetF_any (on : Bool) (a : Option Addr) (l : List V) (cap : Nat) (i : Int) (w : World) (hF : FIs w.heap.size w a l) :
    Calls Try.prog 11 #[.agg #[.bool on, .slice a l.length cap], .int .i64 i] w fun e w' => e = .returned (atG vbot on l i).sn.val ∧ Below w.heap.size w w' := by
  have HA := Lib.hid (fun W (h : Below w.heap.size w W) => fat_any on a l cap i W ((hF.below h).mono h.size))
  have HT := Lib.hid (fun W => etop_any (atG vbot on l i) W)
  obtain ⟨u, hu⟩ : ∃ u, (atG vbot on l i).sn = u := ⟨_, rfl⟩
  rw [hu] at HT ⊢
  generalize atG vbot on l i = v at *
  obtain ⟨x, y⟩ := u
  clear hu hF
  obtain ⟨p, q⟩ := v
  generalize l.length = n at *
  unfold V.val at HA HT ⊢
  have BE := (Box.new w (.bool on) (.slice a n cap) 30).alloc (.cells #[.int .i64 0, .int .i64 0] 32)
  have BR := Box.new (w.alloc (.cells #[.bool on, .slice a n cap] 30)) (.int .i64 0) (.int .i64 0) 32
  have hW := below2 w (.cells #[.bool on, .slice a n cap] 30) (.cells #[.int .i64 0, .int .i64 0] 32)
  rw [World.size_alloc] at BR
  generalize hE : (w.alloc (.cells #[.bool on, .slice a n cap] 30)).alloc (.cells #[.int .i64 0, .int .i64 0] 32) = W at *
  have HW := Lib.hid hW
  clear hW
  obtain ⟨c0, c1, -, -⟩ := id BE
  go_enter Try.func11, Try.ntmps11
  go_wp2_with (first
    | (go_at_call 42; refine (HA.out _ HW.out).mono ?_; clear HA c0 c1; rintro e w1 ⟨rfl, hb⟩; have BR1 := BR.below hb BR.lt; have HB := Lib.hid (HW.out.trans (hb.mono HW.out.size)); clear hb BE BR)
    | (go_at_call 41; refine (HT.out _).mono ?_; clear HT; rintro e w2 ⟨rfl, hb⟩; obtain ⟨d2, d3, g2, g3⟩ := BR1.below hb BR1.lt; have HX := Lib.hid (HB.out.trans (hb.mono HB.out.size)); clear hb BR1))
  have hb2 := below_put2 HX.out (b := w.heap.size + 1) (by omega) (.int .i64 x) (.int .i64 y)
  exact bodyPost_ret (v := .agg #[.int .i64 x, .int .i64 y]) (by simp [results, Try.results11, go_sem, d2, d3]) rfl ⟨rfl, hb2⟩

set_option maxHeartbeats 2000000 in
theorem GetS_any (on : Bool) (a : Option Addr) (l : List Int) (cap : Nat) (i : Int) (w : World) (hF : Is w.heap.size w a l) :
    Calls Try.prog 26 #[.agg #[.bool on, .slice a l.length cap], .int .i64 i] w fun e w' => e = .returned (.int .i64 (sS (atG 0 on l i) : Nat)) ∧ Below w.heap.size w w' := by
  have HA := Lib.hid (fun W (h : Below w.heap.size w W) => sat_any on a l cap i W ((hF.below h).mono h.size))
  have HT := Lib.hid (fun W => eall_any (atG 0 on l i) W)
  generalize sS (atG 0 on l i) = u at *
  generalize atG 0 on l i = v at *
  clear hF
  generalize l.length = n at *
  have BE := Box.new w (.bool on) (.slice a n cap) 49
  have hW := below1 w (.cells #[.bool on, .slice a n cap] 49)
  generalize hE : w.alloc (.cells #[.bool on, .slice a n cap] 49) = W at *
  have HW := Lib.hid hW
  clear hW
  obtain ⟨c0, c1, -, -⟩ := id BE
  go_enter Try.func26, Try.ntmps26
  go_wp2_with (first
    | (go_at_call 54; refine (HA.out _ HW.out).mono ?_; clear HA c0 c1; rintro e w1 ⟨rfl, hb⟩; have HB := Lib.hid (HW.out.trans (hb.mono HW.out.size)); clear hb BE)
    | (go_at_call 53; refine (HT.out _).mono ?_; clear HT; rintro e w2 ⟨rfl, hb⟩; have HX := Lib.hid (HB.out.trans (hb.mono HB.out.size)); clear hb))
  go_ret
  exact ⟨rfl, HX.out⟩

set_option maxHeartbeats 4000000 in
theorem filledF_any (n : Int) (v : V) (w : World) :
    Calls Try.prog 51 #[.int .i64 n, v.val] w fun e w' => ∃ g, e = .returned (.agg #[.bool true, .slice (some ⟨g, 0, none⟩) (clG n 64) (clG n 64)]) ∧
      FreshF 32 w.heap.size w' g (tabG (fun _ => v) (clG n 64)) ∧ Below w.heap.size w w' := by
  have HC : Hid (∀ W, Calls Try.prog 52 #[.int .i64 n, .int .i64 64] W fun e w' => e = .returned (.int .i64 ((clG n 64 : Nat) : Int)) ∧ Below W.heap.size W w') := fun W => within_any n 64 W (by decide)
  have hk := clG_le n 64
  generalize clG n 64 = k at *
  have hm := fun W => mk_runF k (by omega) W
  obtain ⟨x, y⟩ := v
  unfold V.val
  have BV := (Box.new w (.int .i64 x) (.int .i64 y) 32).alloc (.cells #[.bool false, .slice none 0 0] 30)
  have BR := Box.new (w.alloc (.cells #[.int .i64 x, .int .i64 y] 32)) (.bool false) (.slice none 0 0) 30
  have hW := below2 w (.cells #[.int .i64 x, .int .i64 y] 32) (.cells #[.bool false, .slice none 0 0] 30)
  rw [World.size_alloc] at BR
  have hsz : ((w.alloc (.cells #[.int .i64 x, .int .i64 y] 32)).alloc (.cells #[.bool false, .slice none 0 0] 30)).heap.size = w.heap.size + 2 := by simp
  generalize hE : (w.alloc (.cells #[.int .i64 x, .int .i64 y] 32)).alloc (.cells #[.bool false, .slice none 0 0] 30) = W at *
  have HW := Lib.hid hW
  have HZ := Lib.hid hsz
  clear hW hsz
  go_enter Try.func51, Try.ntmps51
  go_wp2_with (go_at_call 52; refine (HC.out _).mono ?_; clear HC; rintro e w1 ⟨rfl, hb⟩; have BV1 := Lib.hid ((BV.below hb BV.lt).alloc (.cells (zerosF k) 32)); have BR1 := Lib.hid ((BR.below hb BR.lt).alloc (.cells (zerosF k) 32)); have HB := Lib.hid ((HW.out.trans (hb.mono HW.out.size)).alloc (HW.out.trans (hb.mono HW.out.size)).size (.cells (zerosF k) 32)); have HF := Lib.hid (freshF_zeros w.heap.size w1 k 32 (HW.out.trans (hb.mono HW.out.size)).size); have HS := Lib.hid hb.size; clear hb BV BR)
  have hne : w.heap.size + 1 < w1.heap.size := by have := HS.out; have := HZ.out; omega
  generalize w1.alloc (.cells (zerosF k) 32) = W1 at *
  generalize w1.heap.size = g at *
  clear hm hE HW HZ HS
  go_loopw [12] (fun i wr => ∃ j : Nat, j ≤ k ∧ i = .int .i64 j ∧ Hid (FreshF 32 w.heap.size wr g (midG (fun _ => ⟨x, y⟩) vbot k j)) ∧ Hid (Box wr w.heap.size (.int .i64 x) (.int .i64 y)) ∧ Hid (Box wr (w.heap.size + 1) (.bool false) (.slice none 0 0)) ∧ Hid (Below w.heap.size w wr)) (fun i _ => k - (intOf i).toNat)
  case atStart => exact ⟨0, Nat.zero_le _, rfl, by rw [midG_zero]; exact HF, BV1, BR1, HB⟩
  case round =>
    clear HF BV1 BR1 HB
    obtain ⟨j, hj, rfl, hF, hV, hR, hB⟩ := hrel
    by_cases hlt : j < k
    · have hl : j < (midG (fun _ => (⟨x, y⟩ : V)) vbot k j).length := by rw [midG_length _ _ hj]; exact hlt
      obtain ⟨e0, e1⟩ := hF.out.cellAt hl
      have f0 := hF.out.frozenAt (j * 2)
      have f1 := hF.out.frozenAt (j * 2 + 1)
      obtain ⟨c0, c1, -, -⟩ := id hV.out
      have hji : (j : Int) < (k : Int) := by omega
      clear hl
      go_wp2_with fail
      go_roundw
      case rel =>
        refine ⟨j + 1, by omega, by go_num, ?_, ?_, ?_, ?_⟩
        · have := hF.out.set j x y
          rw [midG_set (fun _ => (⟨x, y⟩ : V)) vbot hlt] at this
          exact this
        · exact hV.out.far (by omega)
        · exact hR.out.far (by omega)
        · exact (hB.out.setCell (p := ⟨g, j * 2, none⟩) (by show w.heap.size ≤ g; omega) _).setCell (p := ⟨g, j * 2 + 1, none⟩) (by show w.heap.size ≤ g; omega) _
      case measure => simp [intOf]; omega
    · obtain rfl : j = k := by omega
      rw [midG_full] at hF
      obtain ⟨c0, c1, f0, f1⟩ := id hR.out
      go_wp2_with fail
      have hb2 := below_put2 hB.out (b := w.heap.size + 1) (by omega) (.bool true) (.slice (some ⟨g, 0, none⟩) j j)
      exact bodyPost_ret (v := .agg #[.bool true, .slice (some ⟨g, 0, none⟩) j j]) (by simp [results, Try.results51, go_sem, c0, c1]) rfl ⟨g, rfl, hF.out.block (heap_put2 _ _ _ _ _ (by omega)), hb2⟩
end Go.Proofs.Ytcmncclibhjepaa
