/- The lattice of values, and numbers of 32 digits: the pure side of the laws. -/
import Derived.Test.YtcmncclibhjepaaFlatM
namespace Go.Proofs.Ytcmncclibhjepaa
open Go

def J (A B : V) : V := if leV A B then B else if leV B A then A else vtop
theorem join_J (a b : V) : join a b = J a.sn b.sn := rfl
theorem sn_join (a b : V) : (join a b).sn = J a.sn b.sn := sn_of (join_sane a b)

theorem J_comm {A B : V} (ha : A.sane) (hb : B.sane) : J A B = J B A := by
  rcases V.cases ha with rfl | rfl | ⟨n, -, -, rfl⟩ <;> rcases V.cases hb with rfl | rfl | ⟨m, -, -, rfl⟩ <;> simp [J, leV, vbot, vtop] <;>
    (by_cases h : n = m <;> simp [h, eq_comm])
theorem J_assoc {A B C : V} (ha : A.sane) (hb : B.sane) (hc : C.sane) : J (J A B) C = J A (J B C) := by
  rcases V.cases ha with rfl | rfl | ⟨n, -, -, rfl⟩ <;> rcases V.cases hb with rfl | rfl | ⟨m, -, -, rfl⟩ <;> rcases V.cases hc with rfl | rfl | ⟨l, -, -, rfl⟩ <;> simp [J, leV, vbot, vtop] <;>
    (first | (by_cases h : n = m <;> by_cases h' : m = l <;> by_cases h'' : n = l <;> simp_all [eq_comm] <;> omega) | (by_cases h : n = m <;> simp_all [eq_comm]) | (by_cases h : m = l <;> simp_all [eq_comm]) | (by_cases h : n = l <;> simp_all [eq_comm]))
theorem leV_J {A B C : V} (ha : A.sane) (hb : B.sane) (hc : C.sane) : leV (J A B) C = (leV A C && leV B C) := by
  rcases V.cases ha with rfl | rfl | ⟨n, -, -, rfl⟩ <;> rcases V.cases hb with rfl | rfl | ⟨m, -, -, rfl⟩ <;> rcases V.cases hc with rfl | rfl | ⟨l, -, -, rfl⟩ <;> simp [J, leV, vbot, vtop] <;>
    (first | (by_cases h : n = m <;> by_cases h' : m = l <;> by_cases h'' : n = l <;> simp_all [eq_comm] <;> omega) | (by_cases h : n = m <;> simp_all [eq_comm]) | (by_cases h : m = l <;> simp_all [eq_comm]) | (by_cases h : n = l <;> simp_all [eq_comm]))
theorem join_comm (a b : V) : join b a = join a b := J_comm (sn_sane b) (sn_sane a)
theorem join_assoc (a b c : V) : join a (join b c) = join (join a b) c := by
  rw [join_J a, sn_join, join_J (join a b), sn_join]
  exact (J_assoc (sn_sane a) (sn_sane b) (sn_sane c)).symm
theorem leq_join (a b c : V) : leq (join a b) c = (leq a c && leq b c) := by
  rw [leq_sn, sn_join]
  exact leV_J (sn_sane a) (sn_sane b) (sn_sane c)
theorem leq_refl (a : V) : leq a a = true := leV_refl _
theorem leq_trans {a b c : V} (h1 : leq a b = true) (h2 : leq b c = true) : leq a c = true := leV_trans (sn_sane b) h1 h2
theorem leq_antisymm {a b : V} (h1 : leq a b = true) (h2 : leq b a = true) : a.sn = b.sn := by
  rw [leq_sn] at h1 h2
  have ha := sn_sane a
  have hb := sn_sane b
  generalize a.sn = A at *
  generalize b.sn = B at *
  rcases V.cases ha with rfl | rfl | ⟨n, -, -, rfl⟩ <;> rcases V.cases hb with rfl | rfl | ⟨m, -, -, rfl⟩ <;> simp_all [leV, vbot, vtop]
theorem join_self (a : V) : join a a = a.sn := by rw [join_J]; simp [J, leV_refl]
theorem hgt_le {a b : V} (h : leq a b = true) : hgt a ≤ hgt b := by
  rw [leq_sn] at h
  unfold hgt
  have ha := sn_sane a
  have hb := sn_sane b
  generalize a.sn = A at *
  generalize b.sn = B at *
  rcases V.cases ha with rfl | rfl | ⟨n, -, -, rfl⟩ <;> rcases V.cases hb with rfl | rfl | ⟨m, -, -, rfl⟩ <;> simp_all [leV, vbot, vtop]
theorem hgt_le2 (a : V) : hgt a ≤ 2 := by
  unfold hgt
  rcases sn_k a with h | h | h <;> rw [h] <;> decide

theorem w32_congr {n m : Int} (h : n % 4294967296 = m % 4294967296) : w32 n = w32 m := by unfold w32; omega
theorem w32_mod (n : Int) : w32 n % 4294967296 = n % 4294967296 := by unfold w32; omega
theorem w32_w32 (n : Int) : w32 (w32 n) = w32 n := w32_congr (w32_mod n)
theorem comb_one (f : Int → Int → Int) (a b : Int) : comb f (vone a) (vone b) = vone (f (w32 a) (w32 b)) := by
  unfold comb
  rw [sn_of (vone_sane a), sn_of (vone_sane b)]
  simp [vone]
theorem vone_congr {n m : Int} (h : n % 4294967296 = m % 4294967296) : vone n = vone m := by unfold vone; rw [w32_congr h]
theorem mul_mod (a b : Int) : (w32 a * w32 b) % 4294967296 = (a * b) % 4294967296 := by
  rw [Int.mul_emod, w32_mod, w32_mod, ← Int.mul_emod]
theorem add_one (a b : Int) : addV (vone a) (vone b) = vone (a + b) := by
  unfold addV; rw [comb_one]; exact vone_congr (by have := w32_mod a; have := w32_mod b; omega)
theorem sub_one (a b : Int) : subV (vone a) (vone b) = vone (a - b) := by
  unfold subV; rw [comb_one]; exact vone_congr (by have := w32_mod a; have := w32_mod b; omega)
theorem mul_one' (a b : Int) : mulV (vone a) (vone b) = vone (a * b) := by
  unfold mulV; rw [comb_one]; exact vone_congr (mul_mod a b)
theorem neg_one (a : Int) : negV (vone a) = vone (-a) := by
  unfold negV; rw [sub_one]; exact vone_congr (by omega)

/-- Heights of what comes of two. -/
theorem hgt_comb (f : Int → Int → Int) (a b : V) : hgt (comb f a b) = kindZ (hgt a) (hgt b) := by
  unfold hgt
  rw [sn_of (comb_sane f a b)]
  unfold comb kindZ
  rcases sn_k a with h | h | h <;> rcases sn_k b with g | g | g <;> simp [h, g, vbot, vtop, vone] <;> decide
theorem hgt_neg (a : V) : hgt (negV a) = hgt a := by
  unfold negV subV
  rw [hgt_comb]
  have h1 : hgt (vone 0) = 1 := by unfold hgt; rw [sn_of (vone_sane 0)]; rfl
  rw [h1]
  unfold hgt kindZ
  rcases sn_k a with h | h | h <;> rw [h] <;> decide
end Go.Proofs.Ytcmncclibhjepaa
namespace Go.Proofs.Ytcmncclibhjepaa
theorem leq_of {a b : V} (ha : a.sane) (hb : b.sane) : leq a b = leV a b := by rw [leq_sn, sn_of ha, sn_of hb]
theorem hgt_of {a : V} (ha : a.sane) : hgt a = a.k := by unfold hgt; rw [sn_of ha]
end Go.Proofs.Ytcmncclibhjepaa
