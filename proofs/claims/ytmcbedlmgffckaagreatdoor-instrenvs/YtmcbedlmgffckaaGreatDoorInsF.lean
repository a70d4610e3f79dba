/- What an instruction does to what is known: the pure side. -/
import Derived.Test.YtmcbedlmgffckaaGreatDoorInsM
import Derived.Test.YtmcbedlmgffckaaGreatDoorEnvZ
import Derived.Test.YtmcbedlmgffckaaGreatDoorSiG
namespace Go.Proofs.YtmcbedlmgffckaaGreatDoor
open Go

theorem ownLF_set (on : Bool) (l : List V) : ownLF on l = setF on l (-1) vbot := by rw [setF_own]; simp [putG]
theorem ownLS_set (on : Bool) (l : List Int) : ownLS on l = setS on l (-1) 0 := by rw [setS_own]; simp [putG]
theorem ownLF_at (on : Bool) (l : List V) (k : Int) : atG vbot on (ownLF on l) k = (atG vbot on l k).sn := by
  rw [ownLF_set, setF_at, if_neg (fun h => absurd h.2.1 (by decide))]
theorem ownLS_at (on : Bool) (l : List Int) (k : Int) : atG 0 on (ownLS on l) k = ((sS (atG 0 on l k) : Nat) : Int) := by
  rw [ownLS_set, setS_at, if_neg (fun h => absurd h.2.1 (by decide))]
/-- One joined with itself has values that may be. -/
theorem joinF_self (on : Bool) (l : List V) : joinF on l on l = ownLF on l := by
  cases on with
  | false => exact joinG_both_off _ _
  | true => exact tabG_congr (by simp [szG]) fun k => join_self _
theorem joinS_self (on : Bool) (l : List Int) : joinS on l on l = ownLS on l := by
  cases on with
  | false => exact joinG_both_off _ _
  | true => exact tabG_congr (by simp [szG]) fun k => by dsimp only; rw [Nat.or_self]

/-- What an instruction makes, of numbers; of signs. -/
def valF (on : Bool) (l : List V) (i : Ins) : V :=
  if i.kind = 0 then vone i.c else if i.kind = 1 then (atG vbot on l i.a).sn else if i.kind = 2 then negV (atG vbot on l i.a).sn
  else if i.kind = 3 then addV (atG vbot on l i.a).sn (atG vbot on l i.b).sn else if i.kind = 4 then subV (atG vbot on l i.a).sn (atG vbot on l i.b).sn
  else if i.kind = 5 then mulV (atG vbot on l i.a).sn (atG vbot on l i.b).sn else vtop
def valS (on : Bool) (l : List Int) (i : Ins) (ans : Int) : Nat :=
  if i.kind = 0 then sg i.c else if i.kind = 1 then sS (atG 0 on l i.a) else if i.kind = 2 then negN (sS (atG 0 on l i.a))
  else if i.kind = 3 then addN (sS (atG 0 on l i.a)) (sS (atG 0 on l i.b)) else if i.kind = 4 then subN (sS (atG 0 on l i.a)) (sS (atG 0 on l i.b))
  else if i.kind = 5 then mulN (sS (atG 0 on l i.a)) (sS (atG 0 on l i.b)) else if i.kind = 7 then sS ans else 7
def flatI (on : Bool) (l : List V) (i : Ins) : List V := if i.defn < 0 then ownLF on l else setF on l i.dst (valF on l i)
def signI (on : Bool) (l : List Int) (i : Ins) (ans : Int) : List Int := if i.defn < 0 then ownLS on l else setS on l i.dst (valS on l i ans : Nat)

theorem leqF_at {on1 on2 : Bool} {l1 l2 : List V} (h : leqF on1 l1 on2 l2 = true) (k : Int) : leq (atG vbot on1 l1 k) (atG vbot on2 l2 k) = true := by
  by_cases hk : k < 0
  · rw [atG_neg hk]; exact leq_bot _
  · have := ((leqF_iff _ _ _ _).1 h).2 k.toNat
    rw [Int.toNat_of_nonneg (by omega)] at this
    exact this
theorem leqS_at {on1 on2 : Bool} {l1 l2 : List Int} (h : leqS on1 l1 on2 l2 = true) (k : Int) : leqN (sS (atG 0 on1 l1 k)) (sS (atG 0 on2 l2 k)) = true := by
  by_cases hk : k < 0
  · rw [atG_neg hk]; exact leqN_zero _
  · have := ((leqS_iff _ _ _ _).1 h).2 k.toNat
    rw [Int.toNat_of_nonneg (by omega)] at this
    exact this
theorem valF_mono {on1 on2 : Bool} {l1 l2 : List V} (h : leqF on1 l1 on2 l2 = true) (i : Ins) : leq (valF on1 l1 i) (valF on2 l2 i) = true := by
  have ha : leq (atG vbot on1 l1 i.a).sn (atG vbot on2 l2 i.a).sn = true := by rw [leq_sn_sn]; exact leqF_at h _
  have hb : leq (atG vbot on1 l1 i.b).sn (atG vbot on2 l2 i.b).sn = true := by rw [leq_sn_sn]; exact leqF_at h _
  unfold valF
  split
  · exact leq_refl _
  split
  · exact ha
  split
  · exact comb_leV _ (leq_refl _) ha
  split
  · exact comb_leV _ ha hb
  split
  · exact comb_leV _ ha hb
  split
  · exact comb_leV _ ha hb
  · exact leq_refl _
theorem leqN_iff {a b : Nat} : leqN a b = true ↔ a ||| b = b := by simp [leqN]
theorem addN_mono {a b z u : Nat} (ha : a < 8) (hb : b < 8) (hz : z < 8) (hu : u < 8) (h1 : leqN a z = true) (h2 : leqN b u = true) : leqN (addN a b) (addN z u) = true := by
  have e1 : leqN (addN a b) (addN z b) = true := by rw [leqN_iff, add_or ha hz hb, leqN_iff.1 h1]
  have e2 : leqN (addN z b) (addN z u) = true := by rw [add_commN hz hb, add_commN hz hu, leqN_iff, add_or hb hu hz, leqN_iff.1 h2]
  exact leqN_trans (addN_lt ha hb) (addN_lt hz hb) (addN_lt hz hu) e1 e2
theorem mulN_mono {a b z u : Nat} (ha : a < 8) (hb : b < 8) (hz : z < 8) (hu : u < 8) (h1 : leqN a z = true) (h2 : leqN b u = true) : leqN (mulN a b) (mulN z u) = true := by
  have e1 : leqN (mulN a b) (mulN z b) = true := by rw [leqN_iff, mul_or ha hz hb, leqN_iff.1 h1]
  have e2 : leqN (mulN z b) (mulN z u) = true := by rw [mul_commN hz hb, mul_commN hz hu, leqN_iff, mul_or hb hu hz, leqN_iff.1 h2]
  exact leqN_trans (mulN_lt ha hb) (mulN_lt hz hb) (mulN_lt hz hu) e1 e2
theorem negN_mono {a z : Nat} (ha : a < 8) (hz : z < 8) (h : leqN a z = true) : leqN (negN a) (negN z) = true := by rw [leqN_iff, neg_or ha hz, leqN_iff.1 h]
theorem valS_lt (on : Bool) (l : List Int) (i : Ins) (ans : Int) : valS on l i ans < 8 := by
  unfold valS
  split
  · exact sg_lt _
  split
  · exact sS_lt _
  split
  · exact negN_lt (sS_lt _)
  split
  · exact addN_lt (sS_lt _) (sS_lt _)
  split
  · exact subN_lt (sS_lt _) (sS_lt _)
  split
  · exact mulN_lt (sS_lt _) (sS_lt _)
  split
  · exact sS_lt _
  · decide
theorem valS_mono {on1 on2 : Bool} {l1 l2 : List Int} (h : leqS on1 l1 on2 l2 = true) (i : Ins) {x y : Int} (hxy : leqN (sS x) (sS y) = true) : leqN (valS on1 l1 i x) (valS on2 l2 i y) = true := by
  have ha := leqS_at h i.a
  have hb := leqS_at h i.b
  unfold valS
  split
  · exact leqN_refl _
  split
  · exact ha
  split
  · exact negN_mono (sS_lt _) (sS_lt _) ha
  split
  · exact addN_mono (sS_lt _) (sS_lt _) (sS_lt _) (sS_lt _) ha hb
  split
  · exact addN_mono (sS_lt _) (negN_lt (sS_lt _)) (sS_lt _) (negN_lt (sS_lt _)) ha (negN_mono (sS_lt _) (sS_lt _) hb)
  split
  · exact mulN_mono (sS_lt _) (sS_lt _) (sS_lt _) (sS_lt _) ha hb
  split
  · exact hxy
  · exact leqN_refl _
/-- With more known no less comes. -/
theorem flatI_mono {on1 on2 : Bool} {l1 l2 : List V} (h : leqF on1 l1 on2 l2 = true) (hn : on1 = true → l1.length = l2.length) (i : Ins) : leqF on1 (flatI on1 l1 i) on2 (flatI on2 l2 i) = true := by
  have ho := ((leqF_iff _ _ _ _).1 h).1
  refine (leqF_iff _ _ _ _).2 ⟨ho, fun k => ?_⟩
  unfold flatI
  split
  · rw [ownLF_at, ownLF_at, leq_sn_sn]; exact leqF_at h _
  · cases on1 with
    | false => rw [atG_off]; exact leq_bot _
    | true =>
      rw [setF_at, setF_at, hn rfl, ho rfl]
      split
      · rw [leq_sn_sn]
        have := valF_mono h i
        rw [ho rfl] at this
        exact this
      · rw [leq_sn_sn]
        have := leqF_at h (k : Int)
        rw [ho rfl] at this
        exact this
theorem signI_mono {on1 on2 : Bool} {l1 l2 : List Int} (h : leqS on1 l1 on2 l2 = true) (hn : on1 = true → l1.length = l2.length) (i : Ins) {x y : Int} (hxy : leqN (sS x) (sS y) = true) : leqS on1 (signI on1 l1 i x) on2 (signI on2 l2 i y) = true := by
  have ho := ((leqS_iff _ _ _ _).1 h).1
  refine (leqS_iff _ _ _ _).2 ⟨ho, fun k => ?_⟩
  unfold signI
  split
  · rw [ownLS_at, ownLS_at, sS_sS, sS_sS]; exact leqS_at h _
  · cases on1 with
    | false => rw [atG_off]; exact leqN_zero _
    | true =>
      rw [setS_at, setS_at, hn rfl, ho rfl]
      split
      · rw [sS_sS, sS_sS, sS_of (valS_lt _ _ _ _), sS_of (valS_lt _ _ _ _)]
        have := valS_mono h i hxy
        rw [ho rfl] at this
        exact this
      · rw [sS_sS, sS_sS]
        have := leqS_at h (k : Int)
        rw [ho rfl] at this
        exact this
end Go.Proofs.YtmcbedlmgffckaaGreatDoor
