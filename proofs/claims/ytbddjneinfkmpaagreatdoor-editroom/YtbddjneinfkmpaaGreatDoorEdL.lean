/- Edits: within, isOp, unless, the first of several, names. -/
import Derived.Test.YtbddjneinfkmpaaGreatDoorPgM
namespace Go.Proofs.YtbddjneinfkmpaaGreatDoor
open Go Go.RowKit Go.Sort

/-- The first that is not 0. -/
def firstE : List Int → Int
  | [] => 0
  | x :: l => if x = 0 then firstE l else x
def unl (ok : Bool) (err : Int) : Int := if ok then 0 else err
def isOpB (n : Int) : Bool := decide (0 ≤ n ∧ n ≤ 7)
def inB (n lo hi : Int) : Bool := decide (lo ≤ n ∧ n ≤ hi)
theorem firstE_zero (l : List Int) : firstE l = 0 ↔ ∀ x ∈ l, x = 0 := by
  induction l with
  | nil => simp [firstE]
  | cons x l ih =>
    unfold firstE
    by_cases h : x = 0
    · simp [h, ih]
    · simp [h]
theorem unl_zero {ok : Bool} {err : Int} (he : err ≠ 0) : unl ok err = 0 ↔ ok = true := by
  unfold unl
  cases ok <;> simp [he]

set_option maxHeartbeats 1000000 in
theorem within_any (n lo hi : Int) (w : World) :
    Calls Tryz.prog 107 #[.int .i64 n, .int .i64 lo, .int .i64 hi] w fun e w' => e = .returned (.bool (inB n lo hi)) ∧ w' = w := by
  by_cases h0 : lo ≤ n
  · go_enter Tryz.func107, Tryz.ntmps107
    go_wp2
    go_ret
    exact ⟨ret_bool (by simp [inB, h0]), rfl⟩
  · have h0' : n < lo := by omega
    go_enter Tryz.func107, Tryz.ntmps107
    go_wp2
    go_ret
    exact ⟨ret_bool (by simp [inB]; omega), rfl⟩

set_option maxHeartbeats 1000000 in
theorem isOp_any (n : Int) (w : World) :
    Calls Tryz.prog 76 #[.int .i64 n] w fun e w' => e = .returned (.bool (isOpB n)) ∧ w' = w := by
  go_enter Tryz.func76, Tryz.ntmps76
  go_wp2_with (go_at_call 107; refine (within_any n 0 7 w).mono ?_; rintro e w' ⟨rfl, rfl⟩)
  go_ret
  exact ⟨rfl, rfl⟩

set_option maxHeartbeats 1000000 in
theorem unless_any (ok : Bool) (err : Int) (w : World) :
    Calls Tryz.prog 75 #[.bool ok, .int .i64 err] w fun e w' => e = .returned (.int .i64 (unl ok err)) ∧ w' = w := by
  cases ok
  all_goals
    go_enter Tryz.func75, Tryz.ntmps75
    go_wp2
    go_ret
    exact ⟨rfl, rfl⟩

theorem firstE_drop (l : List Int) : ∀ q, (∀ k, k < q → numAt l k = 0) → firstE l = firstE (l.drop q) := by
  induction l with
  | nil => intro q _; simp
  | cons x l ih =>
    intro q h
    cases q with
    | zero => rfl
    | succ q =>
      have h0 : x = 0 := by simpa [numAt] using h 0 (by omega)
      rw [List.drop_succ_cons, ← ih q (fun k hk => by simpa [numAt] using h (k + 1) (by omega))]
      simp [firstE, h0]

set_option maxHeartbeats 2000000 in
theorem first_any (l : List Int) (g o n cap : Nat) (w : World) (hn : l.length = n) (hl : n ≤ 100) (hc : ∀ k, k < n → w.cell? ⟨g, o + k, none⟩ = some (.int .i64 (numAt l k))) (r : Int) (hr : firstE l = r) :
    Calls Tryz.prog 74 #[.slice (some ⟨g, o, none⟩) n cap] w fun e w' => e = .returned (.int .i64 r) ∧ w' = w := by
  have HC := Lib.hid hc
  have HR := Lib.hid hr
  have HN := Lib.hid hn
  clear hc hr hn
  go_enter Tryz.func74, Tryz.ntmps74
  go_wp2
  go_loop [4, 7] (fun x i => ∃ q : Nat, q ≤ n ∧ i = .int .i64 q ∧ Hid (∀ k, k < q → numAt l k = 0)) (fun _ i => n - (intOf i).toNat)
  case atStart => exact ⟨0, Nat.zero_le _, rfl, fun k hk => absurd hk (Nat.not_lt_zero _)⟩
  case round =>
    obtain ⟨q, hq, rfl, hz⟩ := hrel
    by_cases hlt : q < n
    · have c0 := HC.out q hlt
      obtain ⟨y, hy⟩ : ∃ y, numAt l q = y := ⟨_, rfl⟩
      rw [hy] at c0
      have HY := Lib.hid hy
      clear hy
      have hqi : (q : Int) < (n : Int) := by omega
      by_cases hy0 : y = 0
      · subst hy0
        go_wp2
        refine ⟨⟨q + 1, by omega, by go_num, fun k hk => ?_⟩, by simp [intOf]; omega⟩
        rcases Nat.lt_succ_iff_lt_or_eq.1 hk with h | rfl
        · exact hz.out k h
        · exact HY.out
      · have hy1 : (y == 0) = false := beq_false_of_ne hy0
        go_wp2
        go_ret
        refine ⟨ret_int ?_, rfl⟩
        rw [← HR.out, firstE_drop l q hz.out]
        have hql : q < l.length := by have := HN.out; omega
        rw [List.drop_eq_getElem_cons hql]
        have e : l[q] = y := by have := HY.out; unfold numAt at this; rwa [List.getElem?_eq_getElem hql] at this
        simp [firstE, e, hy0]
    · obtain rfl : q = n := by omega
      go_wp2
      go_ret
      refine ⟨ret_int ?_, rfl⟩
      rw [← HR.out, firstE_drop l q hz.out, List.drop_of_length_le (by rw [HN.out]; exact Nat.le_refl _)]
      rfl

def eNames : List (List UInt8) := [[97, 100, 100, 102, 117, 110], [97, 100, 100, 98, 108, 111, 99, 107], [100, 101, 108, 98, 108, 111, 99, 107], [97, 100, 100, 101, 100, 103, 101], [100, 101, 108, 101, 100, 103, 101], [114, 101, 119, 105, 114, 101], [105, 110, 115, 101, 114, 116], [100, 101, 108, 101, 116, 101]]
def eBytes (k : Nat) : ByteArray := ⟨(eNames.getD k []).toArray⟩
/-- The table of names, as it is laid. -/
def NTab (W : World) : Prop := ∀ k, k < 8 → W.cell? ⟨0, k, none⟩ = some (.string (eBytes k))
theorem NTab.lt {W : World} (h : NTab W) : 0 < W.heap.size := block_lt_of_cell (h 0 (by decide))
theorem NTab.on {w W : World} (h : NTab w) (hb : Below w.heap.size w W) : NTab W := fun k hk => (hb.cell (p := ⟨0, k, none⟩) h.lt).trans (h k hk)
def nameE (n : Int) : ByteArray := if isOpB n then eBytes n.toNat else ⟨#[]⟩

set_option maxHeartbeats 1000000 in
theorem EdName_any (n : Int) (w : World) (hN : NTab w) :
    Calls Tryz.prog 45 #[.int .i64 n] w fun e w' => e = .returned (.string (nameE n)) ∧ w' = w := by
  by_cases h : 0 ≤ n ∧ n ≤ 7
  · have hi : isOpB n = true := by simp [isOpB, h]
    have HI := Lib.hid (isOp_any n w)
    obtain ⟨k, rfl⟩ := Int.eq_ofNat_of_zero_le h.1
    have hk : k < 8 := by omega
    have c0 := hN k hk
    have hki : (k : Int) < 8 := by omega
    rw [hi] at HI
    have hn : nameE (k : Int) = eBytes k := by unfold nameE; rw [hi]; simp
    rw [hn]
    clear hN hi h hn
    go_enter Tryz.func45, Tryz.ntmps45
    go_wp2_with (go_at_call 76; refine HI.out.mono ?_; rintro e w' ⟨rfl, rfl⟩)
    go_ret
    exact ⟨rfl, rfl⟩
  · have hi : isOpB n = false := by simp [isOpB]; omega
    have HI := Lib.hid (isOp_any n w)
    rw [hi] at HI
    have hn : nameE n = ⟨#[]⟩ := by unfold nameE; rw [hi]; simp
    rw [hn]
    clear hN hi h hn
    go_enter Tryz.func45, Tryz.ntmps45
    go_wp2_with (go_at_call 76; refine HI.out.mono ?_; rintro e w' ⟨rfl, rfl⟩)
    go_ret
    exact ⟨rfl, rfl⟩
end Go.Proofs.YtbddjneinfkmpaaGreatDoor
