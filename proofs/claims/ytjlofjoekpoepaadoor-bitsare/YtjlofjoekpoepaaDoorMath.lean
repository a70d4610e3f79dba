/- Plain mathematics for sets of small numbers held as words of 64 digits: no program stands here. -/
namespace Go.Proofs.YtjlofjoekpoepaaDoor

/-- 2 to the 64th. -/
def M64 : Nat := 18446744073709551616

/-- Every word is a word. -/
def WB (ws : List Nat) : Prop := ∀ x ∈ ws, x < M64

def wcount (n : Nat) : Nat := (n + 63) / 64

def topClear (n : Nat) (ws : List Nat) : Bool := n % 64 == 0 || (ws[ws.length - 1]?.getD 0) >>> (n % 64) == 0

/-- May a set be? -/
def saneB (n : Int) (ws : List Nat) : Bool := decide (0 ≤ n ∧ n ≤ 1024 ∧ ws.length = wcount n.toNat) && topClear n.toNat ws

def bitAt (ws : List Nat) (i : Nat) : Bool := (ws[i / 64]?.getD 0).testBit (i % 64)

/-- Is a number in a set (that may be)? -/
def hasB (n : Nat) (ws : List Nat) (i : Int) : Bool := decide (0 ≤ i ∧ i < n) && bitAt ws i.toNat

/-- What every call takes of a set: its size .. -/
def nrm (n : Int) (ws : List Nat) : Nat := if saneB n ws then n.toNat else 0
/-- .. and its words. -/
def nrmW (n : Int) (ws : List Nat) : List Nat := if saneB n ws then ws else []

theorem and_pow_ne (x k : Nat) : (x &&& 2 ^ k != 0) = x.testBit k := by
  cases h : x.testBit k with
  | true =>
    rw [bne_iff_ne]
    intro h0
    have : (x &&& 2 ^ k).testBit k = true := by rw [Nat.testBit_and, h, Nat.testBit_two_pow_self]; rfl
    rw [h0] at this
    simp at this
  | false =>
    have : x &&& 2 ^ k = 0 := by
      apply Nat.eq_of_testBit_eq
      intro i
      rw [Nat.testBit_and, Nat.testBit_two_pow]
      by_cases hi : k = i
      · subst hi; simp [h]
      · simp [hi]
    rw [this]; rfl
end Go.Proofs.YtjlofjoekpoepaaDoor
