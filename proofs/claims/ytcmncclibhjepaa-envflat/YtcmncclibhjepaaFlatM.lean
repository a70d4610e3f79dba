/- Numbers that are known, or not: the pure side. -/
import GoSem.Claim
namespace Go.Proofs.Ytcmncclibhjepaa
open Go

/-- A value: its kind and its number. -/
structure V where
  k : Int
  c : Int
  deriving DecidableEq

def V.val (v : V) : Value := .agg #[.int .i64 v.k, .int .i64 v.c]

/-- A number of 32 digits. -/
def w32 (n : Int) : Int := (n + 2147483648) % 4294967296 - 2147483648

theorem w32_lo (n : Int) : -2147483648 ≤ w32 n := by unfold w32; omega
theorem w32_hi (n : Int) : w32 n ≤ 2147483647 := by unfold w32; omega
theorem w32_self {n : Int} (h0 : -2147483648 ≤ n) (h1 : n ≤ 2147483647) : w32 n = n := by unfold w32; omega

def V.sane (v : V) : Prop := (v.k = 1 ∧ -2147483648 ≤ v.c ∧ v.c ≤ 2147483647) ∨ ((v.k = 0 ∨ v.k = 2) ∧ v.c = 0)
instance (v : V) : Decidable v.sane := by unfold V.sane; infer_instance

def vbot : V := ⟨0, 0⟩
def vtop : V := ⟨2, 0⟩
def vone (n : Int) : V := ⟨1, w32 n⟩

/-- What a value is taken for. -/
def V.sn (v : V) : V := if v.sane then v else vtop

theorem sn_sane (v : V) : v.sn.sane := by
  unfold V.sn
  split
  · assumption
  · exact .inr ⟨.inr rfl, rfl⟩
theorem sn_of {v : V} (h : v.sane) : v.sn = v := if_pos h
theorem sn_sn (v : V) : v.sn.sn = v.sn := sn_of (sn_sane v)
theorem vone_sane (n : Int) : (vone n).sane := .inl ⟨rfl, w32_lo n, w32_hi n⟩
theorem vbot_sane : vbot.sane := .inr ⟨.inl rfl, rfl⟩
theorem vtop_sane : vtop.sane := .inr ⟨.inr rfl, rfl⟩

/-- The three kinds of values that may be. -/
theorem V.cases {v : V} (h : v.sane) : v = vbot ∨ v = vtop ∨ ∃ n, -2147483648 ≤ n ∧ n ≤ 2147483647 ∧ v = ⟨1, n⟩ := by
  obtain ⟨k, c⟩ := v
  rcases h with ⟨h1, h2, h3⟩ | ⟨h1 | h1, h2⟩
  · simp only at h1; subst h1; exact .inr (.inr ⟨c, h2, h3, rfl⟩)
  · simp only at h1 h2; subst h1 h2; exact .inl rfl
  · simp only at h1 h2; subst h1 h2; exact .inr (.inl rfl)

/-- Below, of two that may be. -/
def leV (a b : V) : Bool := decide (a.k = 0 ∨ b.k = 2 ∨ a = b)
def leq (a b : V) : Bool := leV a.sn b.sn
def join (a b : V) : V := if leq a b then b.sn else if leq b a then a.sn else vtop
def kindZ (k l : Int) : Int := if k = 0 ∨ l = 0 then 0 else max k l
def made (k n : Int) : V := if k = 1 then vone n else ⟨k, 0⟩
def comb (f : Int → Int → Int) (a b : V) : V :=
  if a.sn.k = 0 ∨ b.sn.k = 0 then vbot else if a.sn.k = 2 ∨ b.sn.k = 2 then vtop else vone (f a.sn.c b.sn.c)
def addV := comb (· + ·)
def subV := comb (· - ·)
def mulV := comb (· * ·)
def negV (a : V) : V := subV (vone 0) a
def hgt (v : V) : Int := v.sn.k

theorem comb_sane (f : Int → Int → Int) (a b : V) : (comb f a b).sane := by
  unfold comb
  split
  · exact vbot_sane
  · split
    · exact vtop_sane
    · exact vone_sane _
theorem join_sane (a b : V) : (join a b).sane := by
  unfold join
  split
  · exact sn_sane b
  · split
    · exact sn_sane a
    · exact vtop_sane
theorem sn_k (v : V) : v.sn.k = 0 ∨ v.sn.k = 1 ∨ v.sn.k = 2 := by
  rcases V.cases (sn_sane v) with h | h | ⟨n, _, _, h⟩ <;> rw [h] <;> simp [vbot, vtop]
theorem sn_c (v : V) : -2147483648 ≤ v.sn.c ∧ v.sn.c ≤ 2147483647 := by
  rcases V.cases (sn_sane v) with h | h | ⟨n, h1, h2, h⟩ <;> rw [h] <;> simp [vbot, vtop] <;> omega
theorem sn_one {v : V} (h0 : v.sn.k ≠ 0) (h2 : v.sn.k ≠ 2) : v.sn.k = 1 := by
  rcases sn_k v with h | h | h <;> simp_all
end Go.Proofs.Ytcmncclibhjepaa
namespace Go.Proofs.Ytcmncclibhjepaa
open Go
theorem comb_made (f : Int → Int → Int) (a b : V) : made (kindZ a.sn.k b.sn.k) (f a.sn.c b.sn.c) = comb f a b := by
  unfold made kindZ comb
  rcases sn_k a with h | h | h <;> rcases sn_k b with g | g | g <;> simp [h, g, vbot, vtop, show max (1 : Int) 2 = 2 from rfl, show max (2 : Int) 1 = 2 from rfl]
theorem neg_made (a : V) : made a.sn.k (-a.sn.c) = negV a := by
  have h0 : (vone 0).sn = ⟨1, 0⟩ := by rw [sn_of (vone_sane 0)]; rfl
  unfold made negV subV comb
  rw [h0]
  rcases sn_k a with h | h | h <;> simp [h, vbot, vtop]
end Go.Proofs.Ytcmncclibhjepaa
namespace Go.Proofs.Ytcmncclibhjepaa
open Go
theorem leV_refl (a : V) : leV a a = true := by simp [leV]
theorem leV_trans {a b c : V} (hb : b.sane) (h1 : leV a b = true) (h2 : leV b c = true) : leV a c = true := by
  simp only [leV, decide_eq_true_eq] at *
  rcases h1 with h | h | h
  · exact .inl h
  · rcases h2 with g | g | g
    · rw [h] at g; exact absurd g (by decide)
    · exact .inr (.inl g)
    · exact .inr (.inl (g ▸ h))
  · subst h; exact h2
theorem leq_sn (a b : V) : leq a b = leV a.sn b.sn := rfl
theorem leq_left (a b : V) : leq a (join a b) = true := by
  rw [leq_sn, sn_of (join_sane a b)]
  unfold join
  split
  · rename_i h; exact h
  · split
    · exact leV_refl _
    · simp [leV, vtop]
theorem leq_right (a b : V) : leq b (join a b) = true := by
  rw [leq_sn, sn_of (join_sane a b)]
  unfold join
  split
  · exact leV_refl _
  · split
    · rename_i h; exact h
    · simp [leV, vtop]
/-- With greater ones no less comes. -/
theorem comb_leV (f : Int → Int → Int) {a b z u : V} (h1 : leq a z = true) (h2 : leq b u = true) : leq (comb f a b) (comb f z u) = true := by
  rw [leq_sn, sn_of (comb_sane f a b), sn_of (comb_sane f z u)]
  rw [leq_sn] at h1 h2
  have ka := sn_k a
  have kb := sn_k b
  have kz := sn_k z
  have ku := sn_k u
  unfold comb
  generalize a.sn = A at *
  generalize b.sn = B at *
  generalize z.sn = Z at *
  generalize u.sn = U at *
  obtain ⟨A1, A2⟩ := A
  obtain ⟨B1, B2⟩ := B
  obtain ⟨Z1, Z2⟩ := Z
  obtain ⟨U1, U2⟩ := U
  simp only [leV, decide_eq_true_eq, V.mk.injEq, vbot, vtop, vone] at *
  rcases ka with rfl | rfl | rfl <;> rcases kb with rfl | rfl | rfl <;> rcases kz with rfl | rfl | rfl <;> rcases ku with rfl | rfl | rfl <;> simp_all
theorem comb_rises (f : Int → Int → Int) (a b c d : V) : leq (comb f a b) (comb f (join a c) (join b d)) = true := comb_leV f (leq_left a c) (leq_left b d)
theorem neg_rises (a c : V) : leq (negV a) (negV (join a c)) = true := comb_leV _ (by simp [leq_sn, leV]) (leq_left a c)
end Go.Proofs.Ytcmncclibhjepaa
