import Derived.Laws.Bits128
import Derived.Deep.RegionHeld3
import Derived.Deep.DeepCutAuto
import Derived.Deep.LoopGhost
import Derived.Test.YtjlofjoekpoepaaDoorI
import Derived.Test.YtjlofjoekpoepaaDoorN
import Derived.Test.YtjlofjoekpoepaaDoorO
import Derived.Test.YtjlofjoekpoepaaDoorMathC
namespace Go.Proofs.YtjlofjoekpoepaaDoor
open Go Go.RowKit Go.Sort

/-- With, of a set that may be. -/
theorem With_ok (v : Value) (n : Nat) (ws : List Nat) (i : Int) (w : World) (hv : SV w v (n : Int) ws) (h : Ok n ws) :
    Calls Tryd.prog 20 #[v, .int .i64 i] w fun e w' => ∃ a' cap', e = .returned (.agg #[.int .i64 (n : Int), .slice a' ws.length cap']) ∧ FreshV w.heap.size w' a' (putW n ws i) ∧ Below w.heap.size w w' := by
  have h1 := With_any v n ws i w hv (by have := h.len16; omega) h.wb
  rw [(nrm_of_ok h).1, (nrm_of_ok h).2] at h1
  exact h1

theorem leq_put {n : Nat} {ws : List Nat} (h : Ok n ws) (x : Int) : leqB ws n (putW n ws x) = true := by
  unfold leqB
  rw [List.all_eq_true]
  intro i hi
  rw [(h.put x).hasB]
  have hb := mem_nums.1 hi
  by_cases hx : 0 ≤ x ∧ x < n
  · rw [bitAt_put h.len hx.1 hx.2, hb]; rfl
  · rw [putW_out hx]; exact hb

theorem Leq_ok (va vb : Value) (n m : Nat) (ws us : List Nat) (w : World) (hva : SV w va (n : Int) ws) (hvb : SV w vb (m : Int) us) (h : Ok n ws) (k : Ok m us) (hT : Tab w) :
    Calls Tryd.prog 37 #[va, vb] w fun e w' => e = .returned (.bool (leqB ws m us)) ∧ Below w.heap.size w w' := by
  have h1 := Leq_any va vb n m ws us w hva hvb (by have := h.len16; omega) (by have := k.len16; omega) h.wb k.wb hT
  rw [(nrm_of_ok h).2, (nrm_of_ok k).1, (nrm_of_ok k).2] at h1
  exact h1

theorem Same_ok (va vb : Value) (n m : Nat) (ws us : List Nat) (w : World) (hva : SV w va (n : Int) ws) (hvb : SV w vb (m : Int) us) (h : Ok n ws) (k : Ok m us) :
    Calls Tryd.prog 39 #[va, vb] w fun e w' => e = .returned (.bool (decide (n = m ∧ ws = us))) ∧ Below w.heap.size w w' := by
  have h1 := Same_any va vb n m ws us w hva hvb (by have := h.len16; omega) (by have := k.len16; omega) h.wb k.wb
  rw [(nrm_of_ok h).1, (nrm_of_ok h).2, (nrm_of_ok k).1, (nrm_of_ok k).2] at h1
  exact h1

theorem Has_ok (v : Value) (n : Nat) (ws : List Nat) (i : Int) (w : World) (hv : SV w v (n : Int) ws) (h : Ok n ws) :
    Calls Tryd.prog 16 #[v, .int .i64 i] w fun e w' => e = .returned (.bool (hasB n ws i)) ∧ Below w.heap.size w w' := by
  have h1 := Has_any v n ws i w hv (by have := h.len16; omega) h.wb
  rw [(nrm_of_ok h).1, (nrm_of_ok h).2] at h1
  exact h1

theorem Count_ok (v : Value) (n : Nat) (ws : List Nat) (w : World) (hv : SV w v (n : Int) ws) (h : Ok n ws) (hT : Tab w) :
    Calls Tryd.prog 26 #[v] w fun e w' => e = .returned (.int .i64 ((nums ws).length : Nat)) ∧ Below w.heap.size w w' := by
  have h1 := Count_any v n ws w hv (by have := h.len16; omega) h.wb hT
  rw [(nrm_of_ok h).2] at h1
  exact h1
end Go.Proofs.YtjlofjoekpoepaaDoor
