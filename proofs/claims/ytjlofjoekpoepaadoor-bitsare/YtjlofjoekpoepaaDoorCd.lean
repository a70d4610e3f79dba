import Derived.Test.YtjlofjoekpoepaaDoorCc
import Derived.Test.YtjlofjoekpoepaaDoorS
namespace Go.Proofs.YtjlofjoekpoepaaDoor
open Go Go.RowKit Go.Sort

/-- A value that every call takes for the set of n with these words. -/
def Acts (W : World) (v : Value) (n : Nat) (ws : List Nat) : Prop := ∃ (r : Int) (rs : List Nat), SV W v r rs ∧ rs.length ≤ 30 ∧ WB rs ∧ nrm r rs = n ∧ nrmW r rs = ws

theorem Acts.below {W W' : World} {v : Value} {n : Nat} {ws : List Nat} (h : Acts W v n ws) (hb : Below W.heap.size W W') : Acts W' v n ws :=
  let ⟨r, rs, hv, a, b, c, d⟩ := h; ⟨r, rs, hv.below hb, a, b, c, d⟩
theorem Acts.ok {W : World} {v : Value} {n : Nat} {ws : List Nat} (h : Acts W v n ws) : Ok n ws := by
  obtain ⟨r, rs, _, _, hb, rfl, rfl⟩ := h
  exact nrm_ok hb
theorem Acts.raw {W : World} {v : Value} {r : Int} {rs : List Nat} (h : SV W v r rs) (hl : rs.length ≤ 30) (hb : WB rs) : Acts W v (nrm r rs) (nrmW r rs) := ⟨r, rs, h, hl, hb, rfl, rfl⟩
theorem Acts.of_sv {W : World} {v : Value} {n : Nat} {ws : List Nat} (h : SV W v (n : Int) ws) (hok : Ok n ws) : Acts W v n ws :=
  ⟨n, ws, h, by have := hok.len16; omega, hok.wb, (nrm_of_ok hok).1, (nrm_of_ok hok).2⟩
theorem Acts.fresh {n0 : Nat} {W : World} {g N K : Nat} {ws : List Nat} (h : Fresh n0 W g ws) (hok : Ok N ws) (hK : wcount N = K) : Acts W (.agg #[.int .i64 (N : Int), .slice (some ⟨g, 0, none⟩) K K]) N ws :=
  Acts.of_sv ⟨_, K, by rw [hok.len, hK], h.wd⟩ hok

theorem Union_acts {va vb : Value} {n m : Nat} {ws us : List Nat} {W : World} (ha : Acts W va n ws) (hb : Acts W vb m us) {N K : Nat} (hN : max n m = N) (hK : wcount N = K) :
    Calls Tryd.prog 31 #[va, vb] W fun e w' => ∃ g, e = .returned (.agg #[.int .i64 (N : Int), .slice (some ⟨g, 0, none⟩) K K]) ∧ Fresh W.heap.size w' g (joinW orN n m ws us) ∧ Below W.heap.size W w' := by
  obtain ⟨r, rs, hv, a1, a2, rfl, rfl⟩ := ha
  obtain ⟨s, ss, hu, b1, b2, rfl, rfl⟩ := hb
  have h := Union_any va vb r s rs ss W hv hu a1 b1 a2 b2
  rw [hN, hK] at h
  exact h
theorem Minus_acts {va vb : Value} {n m : Nat} {ws us : List Nat} {W : World} (ha : Acts W va n ws) (hb : Acts W vb m us) {N K : Nat} (hN : max n m = N) (hK : wcount N = K) :
    Calls Tryd.prog 33 #[va, vb] W fun e w' => ∃ g, e = .returned (.agg #[.int .i64 (N : Int), .slice (some ⟨g, 0, none⟩) K K]) ∧ Fresh W.heap.size w' g (joinW minusN n m ws us) ∧ Below W.heap.size W w' := by
  obtain ⟨r, rs, hv, a1, a2, rfl, rfl⟩ := ha
  obtain ⟨s, ss, hu, b1, b2, rfl, rfl⟩ := hb
  have h := Minus_any va vb r s rs ss W hv hu a1 b1 a2 b2
  rw [hN, hK] at h
  exact h
theorem Meet_acts {va vb : Value} {n m : Nat} {ws us : List Nat} {W : World} (ha : Acts W va n ws) (hb : Acts W vb m us) {N K : Nat} (hN : max n m = N) (hK : wcount N = K) :
    Calls Tryd.prog 35 #[va, vb] W fun e w' => ∃ g, e = .returned (.agg #[.int .i64 (N : Int), .slice (some ⟨g, 0, none⟩) K K]) ∧ Fresh W.heap.size w' g (joinW andN n m ws us) ∧ Below W.heap.size W w' := by
  obtain ⟨r, rs, hv, a1, a2, rfl, rfl⟩ := ha
  obtain ⟨s, ss, hu, b1, b2, rfl, rfl⟩ := hb
  have h := Meet_any va vb r s rs ss W hv hu a1 b1 a2 b2
  rw [hN, hK] at h
  exact h
theorem Leq_acts {va vb : Value} {n m : Nat} {ws us : List Nat} {W : World} (ha : Acts W va n ws) (hb : Acts W vb m us) (hT : Tab W) {b : Bool} (he : leqB ws m us = b) :
    Calls Tryd.prog 37 #[va, vb] W fun e w' => e = .returned (.bool b) ∧ Below W.heap.size W w' := by
  obtain ⟨r, rs, hv, a1, a2, rfl, rfl⟩ := ha
  obtain ⟨s, ss, hu, b1, b2, rfl, rfl⟩ := hb
  have h := Leq_any va vb r s rs ss W hv hu a1 b1 a2 b2 hT
  rw [he] at h
  exact h
theorem Same_acts {va vb : Value} {n m : Nat} {ws us : List Nat} {W : World} (ha : Acts W va n ws) (hb : Acts W vb m us) {b : Bool} (he : decide (n = m ∧ ws = us) = b) :
    Calls Tryd.prog 39 #[va, vb] W fun e w' => e = .returned (.bool b) ∧ Below W.heap.size W w' := by
  obtain ⟨r, rs, hv, a1, a2, rfl, rfl⟩ := ha
  obtain ⟨s, ss, hu, b1, b2, rfl, rfl⟩ := hb
  have h := Same_any va vb r s rs ss W hv hu a1 b1 a2 b2
  rw [he] at h
  exact h
theorem Count_acts {va : Value} {n : Nat} {ws : List Nat} {W : World} (ha : Acts W va n ws) (hT : Tab W) {c : Nat} (he : (nums ws).length = c) :
    Calls Tryd.prog 26 #[va] W fun e w' => e = .returned (.int .i64 (c : Int)) ∧ Below W.heap.size W w' := by
  obtain ⟨r, rs, hv, a1, a2, rfl, rfl⟩ := ha
  have h := Count_any va r rs W hv a1 a2 hT
  rw [he] at h
  exact h
end Go.Proofs.YtjlofjoekpoepaaDoor
