import Derived.Test.YtjlofjoekpoepaaDoorP
import Derived.Test.YtjlofjoekpoepaaDoorH
namespace Go.Proofs.YtjlofjoekpoepaaDoor
open Go Go.RowKit Go.Sort

set_option maxHeartbeats 1000000 in
theorem ours_any (n : Int) (a : Option Addr) (len cap : Nat) (w : World) :
    Calls Tryd.prog 12 #[.agg #[.int .i64 n, .slice a len cap]] w fun e w' => e = .returned (.agg #[.int .i64 n, .slice a len cap]) ∧ Below w.heap.size w w' := by
  go_enter Tryd.func12, Tryd.ntmps12
  go_wp2
  exact bodyPost_ret (v := .agg #[.int .i64 n, .slice a len cap]) (by simp [results, Tryd.results12, go_sem]) rfl ⟨rfl, ((Below.refl _ _).alloc (Nat.le_refl _) _).alloc (by simp) _⟩

set_option maxHeartbeats 1000000 in
theorem theirs_any (n : Int) (a : Option Addr) (len cap : Nat) (w : World) :
    Calls Tryd.prog 19 #[.agg #[.int .i64 n, .slice a len cap]] w fun e w' => e = .returned (.agg #[.int .i64 n, .slice a len cap]) ∧ Below w.heap.size w w' := by
  go_enter Tryd.func19, Tryd.ntmps19
  go_wp2
  exact bodyPost_ret (v := .agg #[.int .i64 n, .slice a len cap]) (by simp [results, Tryd.results19, go_sem]) rfl ⟨rfl, ((Below.refl _ _).alloc (Nat.le_refl _) _).alloc (by simp) _⟩

set_option maxHeartbeats 1000000 in
theorem few_any (n : Int) (a : Option Addr) (len cap : Nat) (b : Bool) (hb : decide ((len : Int) ≤ 30) = b) (w : World) :
    Calls Tryd.prog 11 #[.agg #[.int .i64 n, .slice a len cap]] w fun e w' => e = .returned (.bool b) ∧ Below w.heap.size w w' := by
  go_enter Tryd.func11, Tryd.ntmps11
  go_wp2
  go_ret
  exact ⟨rfl, (Below.refl _ _).alloc (Nat.le_refl _) _⟩

/-- Numbers of the call's own, as a slice that is read. -/
theorem is_of_owns {n0 : Nat} {W : World} {u : Value} {xs : List Nat} (h : W.ownsRow n0 3 1 u xs.length (xs.map encI)) : ∃ a cap, u = .slice a xs.length cap ∧ Is W.heap.size W a (xs.map fun (x : Nat) => (x : Int)) := by
  obtain ⟨_, ⟨rfl, h0⟩ | ⟨g, cap, cur, rfl, hb, hc, hle, _, hsz, htk⟩⟩ := h
  · have := List.eq_nil_of_length_eq_zero h0
    subst this
    exact ⟨none, 0, rfl, fun j hj => absurd hj (Nat.not_lt_zero _)⟩
  · refine ⟨_, cap, rfl, fun j hj => ?_⟩
    simp only [List.length_map] at hj
    refine ⟨g, 0, rfl, (Array.getElem?_eq_some_iff.1 hc).1, ?_⟩
    have e : (cur.toList.take (xs.length * 1))[j]? = (xs.map encI)[j]? := by rw [htk]
    rw [Nat.mul_one, List.getElem?_take_of_lt hj] at e
    have e2 : cur[j]? = some (encI (xs[j]?.getD 0)) := by
      rw [← Array.getElem?_toList, e]
      simp [hj]
    have e3 : (xs.map fun (x : Nat) => (x : Int))[j]?.getD 0 = ((xs[j]?.getD 0 : Nat) : Int) := by simp [hj]
    rw [e3, Nat.zero_add]
    simp only [World.cell?, hc]
    simpa [encI] using e2

/-- A fold of puts: its digits. -/
theorem bitAt_foldl {n : Nat} (l : List Int) : ∀ ws, ws.length = wcount n → ∀ i, bitAt (l.foldl (putW n) ws) i = (bitAt ws i || l.any (fun x => decide (0 ≤ x ∧ x < n ∧ x.toNat = i))) := by
  induction l with
  | nil => intro ws _ i; simp
  | cons x r ih =>
    intro ws hl i
    rw [List.foldl_cons, ih _ (by rw [putW_length]; exact hl), List.any_cons]
    by_cases hx : 0 ≤ x ∧ x < n
    · rw [bitAt_put hl hx.1 hx.2, Bool.or_assoc]
      congr 2
      rw [decide_eq_decide]
      omega
    · rw [putW_out hx]
      have : decide (0 ≤ x ∧ x < (n : Int) ∧ x.toNat = i) = false := by rw [decide_eq_false_iff_not]; intro h; exact hx ⟨h.1, h.2.1⟩
      rw [this, Bool.false_or]

theorem bitAt_of {n : Nat} (l : List Int) (i : Nat) : bitAt (ofW n l) i = l.any (fun x => decide (0 ≤ x ∧ x < n ∧ x.toNat = i)) := by
  unfold ofW
  rw [bitAt_foldl l _ (by simp), bitAt_zeros, Bool.false_or]

/-- A set is the set of its numbers. -/
theorem of_nums {n : Nat} {ws : List Nat} (h : Ok n ws) : ofW n ((nums ws).map fun (x : Nat) => (x : Int)) = ws := by
  apply (ok_of h.le _).ext h
  intro i hi
  rw [bitAt_of, Bool.eq_iff_iff]
  simp only [List.any_eq_true, List.mem_map, decide_eq_true_eq]
  constructor
  · rintro ⟨x, ⟨y, hy, rfl⟩, _, _, he⟩
    have : y = i := by simpa using he
    rw [← this]
    exact mem_nums.1 hy
  · intro hb
    exact ⟨(i : Int), ⟨i, mem_nums.2 hb, rfl⟩, by omega, by omega, by simp⟩

theorem nums_sorted (ws : List Nat) : (nums ws).Pairwise (· < ·) := by
  rw [nums_eq]
  exact List.Pairwise.filter _ List.pairwise_lt_range
end Go.Proofs.YtjlofjoekpoepaaDoor
