/- Graphs: what ways tell, turned around; what is handed out, as it is read. -/
import Derived.Test.YtcbfmplddjmiaaaFar
import Derived.Test.YtcbfmplddjmiaaaGrQ
namespace Go.Proofs.Ytcbfmplddjmiaaa
open Go Go.RowKit Go.Sort

theorem orderI_mem {n : Nat} {E : Nat → Nat → Bool} {x y : Nat} : y ∈ orderI n E (x : Int) ↔ Way n E x y := by rw [orderI_nat]; exact order_mem
theorem orderI_congr {n : Nat} {E F : Nat → Nat → Bool} (h : ∀ a b, a < n → b < n → E a b = F a b) (x : Int) : orderI n E x = orderI n F x := by
  unfold orderI
  rw [order_congr h]
theorem reachL_congr {n : Nat} {E F : Nat → Nat → Bool} (h : ∀ a b, a < n → b < n → E a b = F a b) (x : Int) : reachL n E x = reachL n F x := by
  unfold reachL
  rw [orderI_congr h]
theorem pathB_iff {n : Nat} {E : Nat → Nat → Bool} {x y : Nat} (hy : y < n) : pathB n E (x : Int) (y : Int) = true ↔ ∃ k, Way n E x k ∧ E k y = true := by
  unfold pathB
  have : decide (0 ≤ (y : Int) ∧ (y : Int) < (n : Int)) = true := by simpa using hy
  rw [this, Bool.true_and, List.any_eq_true]
  simp only [Int.toNat_natCast, orderI_mem]
theorem pathB_congr {n : Nat} {E F : Nat → Nat → Bool} (h : ∀ a b, a < n → b < n → E a b = F a b) (x y : Int) : pathB n E x y = pathB n F x y := by
  unfold pathB
  rw [orderI_congr h]
  by_cases hy : 0 ≤ y ∧ y < (n : Int)
  · congr 1
    rw [Bool.eq_iff_iff, List.any_eq_true, List.any_eq_true]
    constructor
    · rintro ⟨k, hk, he⟩
      exact ⟨k, hk, by rw [← h k y.toNat (orderI_lt hk) (by omega)]; exact he⟩
    · rintro ⟨k, hk, he⟩
      exact ⟨k, hk, by rw [h k y.toNat (orderI_lt hk) (by omega)]; exact he⟩
  · have : decide (0 ≤ y ∧ y < (n : Int)) = false := by simpa using hy
    rw [this, Bool.false_and, Bool.false_and]
theorem pathB_out {n : Nat} {E : Nat → Nat → Bool} {x y : Int} (h : ¬ ((0 ≤ x ∧ x < (n : Int)) ∧ (0 ≤ y ∧ y < (n : Int)))) : pathB n E x y = false := by
  unfold pathB
  by_cases hy : 0 ≤ y ∧ y < (n : Int)
  · rw [orderI_out (fun hx => h ⟨hx, hy⟩)]
    simp
  · have : decide (0 ≤ y ∧ y < (n : Int)) = false := by simpa using hy
    rw [this, Bool.false_and]
/-- A way of one step at least, told by its first step. -/
theorem step_first {n : Nat} {E : Nat → Nat → Bool} {x y : Nat} (hx : x < n) (hy : y < n) : (∃ k, Way n E x k ∧ E k y = true) ↔ ∃ s, E x s = true ∧ Way n E s y := by
  constructor
  · rintro ⟨k, hw, he⟩
    rcases hw.head with rfl | ⟨s, hs, h1, h2⟩
    · exact ⟨y, he, .refl hy⟩
    · exact ⟨s, h1, .step h2 hy he⟩
  · rintro ⟨s, he, hw⟩
    have : ∀ {s y : Nat}, Way n E s y → E x s = true → ∃ k, Way n E x k ∧ E k y = true := by
      intro s y hw
      induction hw with
      | refl hs => intro he; exact ⟨x, .refl hx, he⟩
      | step h1 hc he2 ih =>
        intro he
        obtain ⟨k, h3, h4⟩ := ih he
        exact ⟨_, .step h3 h1.lt.2 h4, he2⟩
    exact this hw he
theorem way_turn {n : Nat} {E : Nat → Nat → Bool} {x y : Nat} : Way n (fun a b => E b a) y x ↔ Way n E x y := ⟨fun h => h.turn, fun h => h.turn⟩
theorem path_turn {n : Nat} {E : Nat → Nat → Bool} {x y : Nat} (hx : x < n) (hy : y < n) : pathB n (fun a b => E b a) (y : Int) (x : Int) = pathB n E (x : Int) (y : Int) := by
  rw [Bool.eq_iff_iff, pathB_iff hx, pathB_iff hy, step_first hx hy]
  constructor
  · rintro ⟨k, h1, h2⟩; exact ⟨k, h2, way_turn.1 h1⟩
  · rintro ⟨k, h1, h2⟩; exact ⟨k, way_turn.2 h2, h1⟩
theorem reach_turn {n : Nat} {E : Nat → Nat → Bool} {x y : Nat} : decide (x ∈ orderI n (fun a b => E b a) (y : Int)) = decide (y ∈ orderI n E (x : Int)) := by
  rw [Bool.eq_iff_iff, decide_eq_true_iff, decide_eq_true_iff, orderI_mem, orderI_mem]
  exact way_turn
theorem reach_path {n : Nat} {E : Nat → Nat → Bool} {x y : Nat} (hx : x < n) (hy : y < n) : decide (y ∈ orderI n E (x : Int)) = (decide (x = y) || pathB n E (x : Int) (y : Int)) := by
  rw [Bool.eq_iff_iff, decide_eq_true_iff, Bool.or_eq_true, decide_eq_true_iff, orderI_mem, pathB_iff hy]
  constructor
  · intro h
    cases h with
    | refl _ => exact .inl rfl
    | step h1 _ he => exact .inr ⟨_, h1, he⟩
  · rintro (rfl | ⟨k, h1, he⟩)
    · exact .refl hx
    · exact .step h1 hy he

/-- A value is a graph, to be read. -/
def isG (n : Nat) (G : List (List Int)) (v : Value) (w : World) : Prop := ∃ a c, v = .slice a n c ∧ GIs w.heap.size w a G
theorem isG_on {n : Nat} {G : List (List Int)} (v : Value) (w w' : World) (h : isG n G v w) (hb : Below w.heap.size w w') : isG n G v w' := let ⟨a, c, e, h1⟩ := h; ⟨a, c, e, h1.on hb⟩
theorem isG_of {B n : Nat} {W : World} {gb : Nat} {R : Nat → Value} {E : Nat → Nat → Bool} (h : GOwn B W gb n R (fun j => zs (rowE n (E j)))) : isG n (zss (rows n E)) (.slice (some ⟨gb, 0, none⟩) n n) W :=
  ⟨_, _, rfl, h.gis (by simp [zss, rows_length]) (fun j hj => by unfold zss; rw [List.getElem?_map, rows_get hj]; rfl)⟩
theorem zss_length {n : Nat} (E : Nat → Nat → Bool) : (zss (rows n E)).length = n := by simp [zss, rows_length]

theorem Clean_g (a : Option Addr) (g : List (List Int)) (cap n : Nat) (w : World) (hG : GIs w.heap.size w a g) (hF : FewG g) (hn : g.length = n) (E : Nat → Nat → Bool) (hE : ∀ x y, x < n → y < n → edge g x y = E x y) :
    Calls Try.prog 12 #[.slice a n cap] w fun e w' => ∃ v, e = .returned v ∧ Below w.heap.size w w' ∧ isG n (zss (rows n E)) v w' :=
  (Clean_any a g cap w hG hF n hn).mono fun _ _ ⟨gb, R, he, ho, hb⟩ => ⟨_, he, hb, by rw [← rows_congr hE]; exact isG_of ho⟩
theorem Turn_g (a : Option Addr) (g : List (List Int)) (cap n : Nat) (w : World) (hG : GIs w.heap.size w a g) (hF : FewG g) (hn : g.length = n) (E : Nat → Nat → Bool) (hE : ∀ x y, x < n → y < n → edge g x y = E y x) :
    Calls Try.prog 14 #[.slice a n cap] w fun e w' => ∃ v, e = .returned v ∧ Below w.heap.size w w' ∧ isG n (zss (rows n E)) v w' :=
  (Turn_any a g cap w hG hF n hn).mono fun _ _ ⟨gb, R, he, ho, hb⟩ => ⟨_, he, hb, by rw [← rows_congr (E := fun j x => edge g x j) (fun x y hx hy => hE y x hy hx)]; exact isG_of ho⟩
def isB (b : Bool) (v : Value) (_ : World) : Prop := v = .bool b
theorem isB_on {b : Bool} (v : Value) (w w' : World) (h : isB b v w) (_ : Below w.heap.size w w') : isB b v w' := h
end Go.Proofs.Ytcbfmplddjmiaaa
