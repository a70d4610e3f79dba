/- Instructions: what is left when all that one has is cleared; Form. -/
import Derived.Lib.SliceRun
import Derived.Test.YtbddjneinfkmpaaGreatDoorInsA
namespace Go.Proofs.YtbddjneinfkmpaaGreatDoor
open Go Go.RowKit Go.Sort

def zeroIf (p : Bool) (x : Int) : Int := if p then 0 else x
def Ins.left (i : Ins) : Ins := ⟨0, 0, zeroIf (hasDst i.kind) i.dst, zeroIf (hasA i.kind) i.a, zeroIf (hasB i.kind) i.b, zeroIf (decide (i.kind = 0)) i.c, zeroIf (decide (i.kind = 7)) i.f, zeroIf (decide (i.kind = 7)) i.n,
  zeroIf (decide (i.kind = 7 ∧ 0 < i.n)) i.x0, zeroIf (decide (i.kind = 7 ∧ 1 < i.n)) i.x1, zeroIf (decide (i.kind = 7 ∧ 2 < i.n)) i.x2⟩

theorem put_past2 (w : World) (z : Array Value) (t : TypeId) (B C : Obj) (j : Nat) (v : Value) : (((w.alloc (.cells z t)).alloc B).alloc C).setCell ⟨w.heap.size, j, none⟩ v = ((w.alloc (.cells (z.setIfInBounds j v) t)).alloc B).alloc C := by
  rw [World.setCell_alloc_past _ _ _ _ (by simp only [World.size_alloc]; omega), World.setCell_alloc_past _ _ _ _ (by simp only [World.size_alloc]; omega), World.setCell_alloc_at _ _ _ _ _ rfl]
theorem zero3 (W : World) : (zeroValue 3).run Tryz.prog W = .ok (.int .i64 0) W := by kernel_rfl
theorem clear0 (w : World) (B C : Obj) (v0 v1 v2 v3 v4 v5 v6 v7 v8 v9 v10 : Value) :
    (Builtin.clear_ #[33] 0 #[.slice (some ⟨w.heap.size, 8, none⟩) 0 3]).run Tryz.prog (((w.alloc (.cells #[v0, v1, v2, v3, v4, v5, v6, v7, v8, v9, v10] 40)).alloc B).alloc C) = .ok (.tuple #[]) (((w.alloc (.cells #[v0, v1, v2, v3, v4, v5, v6, v7, v8, v9, v10] 40)).alloc B).alloc C) := by
  simp [Builtin.clear_, run_underlying Tryz.underlying33]
theorem clear1 (w : World) (B C : Obj) (v0 v1 v2 v3 v4 v5 v6 v7 v8 v9 v10 : Value) :
    (Builtin.clear_ #[33] 0 #[.slice (some ⟨w.heap.size, 8, none⟩) 1 3]).run Tryz.prog (((w.alloc (.cells #[v0, v1, v2, v3, v4, v5, v6, v7, v8, v9, v10] 40)).alloc B).alloc C) = .ok (.tuple #[]) (((w.alloc (.cells #[v0, v1, v2, v3, v4, v5, v6, v7, .int .i64 0, v9, v10] 40)).alloc B).alloc C) := by
  have hB : BoxL (((w.alloc (.cells #[v0, v1, v2, v3, v4, v5, v6, v7, v8, v9, v10] 40)).alloc B).alloc C) w.heap.size [v0, v1, v2, v3, v4, v5, v6, v7, v8, v9, v10] := ((BoxL.new w [v0, v1, v2, v3, v4, v5, v6, v7, v8, v9, v10] 40).alloc (Nat.zero_lt_succ _) B).alloc (Nat.zero_lt_succ _) C
  rw [Lib.run_clear_slice _ _ _ _ (.int .i64 0) Tryz.underlying33 zero3 rfl rfl _ _ _ _ (by decide)
    (fun j hj => by rcases (by omega : j = 0 ∨ j = 1 ∨ j = 2) with rfl | rfl | rfl <;> first | exact Option.isSome_of_eq_some (hB 8 _ rfl).1 | exact Option.isSome_of_eq_some (hB 9 _ rfl).1 | exact Option.isSome_of_eq_some (hB 10 _ rfl).1)
    (fun j hj => by rcases (by omega : j = 0 ∨ j = 1 ∨ j = 2) with rfl | rfl | rfl <;> first | exact (hB 8 _ rfl).2 | exact (hB 9 _ rfl).2 | exact (hB 10 _ rfl).2)]
  simp only [World.setCells, List.replicate, put_past2]
  rfl
theorem clear2 (w : World) (B C : Obj) (v0 v1 v2 v3 v4 v5 v6 v7 v8 v9 v10 : Value) :
    (Builtin.clear_ #[33] 0 #[.slice (some ⟨w.heap.size, 8, none⟩) 2 3]).run Tryz.prog (((w.alloc (.cells #[v0, v1, v2, v3, v4, v5, v6, v7, v8, v9, v10] 40)).alloc B).alloc C) = .ok (.tuple #[]) (((w.alloc (.cells #[v0, v1, v2, v3, v4, v5, v6, v7, .int .i64 0, .int .i64 0, v10] 40)).alloc B).alloc C) := by
  have hB : BoxL (((w.alloc (.cells #[v0, v1, v2, v3, v4, v5, v6, v7, v8, v9, v10] 40)).alloc B).alloc C) w.heap.size [v0, v1, v2, v3, v4, v5, v6, v7, v8, v9, v10] := ((BoxL.new w [v0, v1, v2, v3, v4, v5, v6, v7, v8, v9, v10] 40).alloc (Nat.zero_lt_succ _) B).alloc (Nat.zero_lt_succ _) C
  rw [Lib.run_clear_slice _ _ _ _ (.int .i64 0) Tryz.underlying33 zero3 rfl rfl _ _ _ _ (by decide)
    (fun j hj => by rcases (by omega : j = 0 ∨ j = 1 ∨ j = 2) with rfl | rfl | rfl <;> first | exact Option.isSome_of_eq_some (hB 8 _ rfl).1 | exact Option.isSome_of_eq_some (hB 9 _ rfl).1 | exact Option.isSome_of_eq_some (hB 10 _ rfl).1)
    (fun j hj => by rcases (by omega : j = 0 ∨ j = 1 ∨ j = 2) with rfl | rfl | rfl <;> first | exact (hB 8 _ rfl).2 | exact (hB 9 _ rfl).2 | exact (hB 10 _ rfl).2)]
  simp only [World.setCells, List.replicate, put_past2]
  rfl
theorem clear3 (w : World) (B C : Obj) (v0 v1 v2 v3 v4 v5 v6 v7 v8 v9 v10 : Value) :
    (Builtin.clear_ #[33] 0 #[.slice (some ⟨w.heap.size, 8, none⟩) 3 3]).run Tryz.prog (((w.alloc (.cells #[v0, v1, v2, v3, v4, v5, v6, v7, v8, v9, v10] 40)).alloc B).alloc C) = .ok (.tuple #[]) (((w.alloc (.cells #[v0, v1, v2, v3, v4, v5, v6, v7, .int .i64 0, .int .i64 0, .int .i64 0] 40)).alloc B).alloc C) := by
  have hB : BoxL (((w.alloc (.cells #[v0, v1, v2, v3, v4, v5, v6, v7, v8, v9, v10] 40)).alloc B).alloc C) w.heap.size [v0, v1, v2, v3, v4, v5, v6, v7, v8, v9, v10] := ((BoxL.new w [v0, v1, v2, v3, v4, v5, v6, v7, v8, v9, v10] 40).alloc (Nat.zero_lt_succ _) B).alloc (Nat.zero_lt_succ _) C
  rw [Lib.run_clear_slice _ _ _ _ (.int .i64 0) Tryz.underlying33 zero3 rfl rfl _ _ _ _ (by decide)
    (fun j hj => by rcases (by omega : j = 0 ∨ j = 1 ∨ j = 2) with rfl | rfl | rfl <;> first | exact Option.isSome_of_eq_some (hB 8 _ rfl).1 | exact Option.isSome_of_eq_some (hB 9 _ rfl).1 | exact Option.isSome_of_eq_some (hB 10 _ rfl).1)
    (fun j hj => by rcases (by omega : j = 0 ∨ j = 1 ∨ j = 2) with rfl | rfl | rfl <;> first | exact (hB 8 _ rfl).2 | exact (hB 9 _ rfl).2 | exact (hB 10 _ rfl).2)]
  simp only [World.setCells, List.replicate, put_past2]
  rfl

theorem KTab.two {w : World} (h : KTab w) (k j : Nat) (hk : k < 10) (hj : j < 6) {v : Value} (hv : kCell k j = v) : ∀ o1 o2, ((w.alloc o1).alloc o2).cell? ⟨2, k * 6 + j, none⟩ = some v := fun o1 o2 => by
  subst hv; exact (h.on (below2 w o1 o2)) k j hk hj

set_option maxRecDepth 100000 in
set_option maxHeartbeats 16000000 in
theorem left_any (i : Ins) (w : World) (hT : KTab w) (hk : 0 ≤ i.kind ∧ i.kind < 10) (hn : 0 ≤ i.n ∧ i.n ≤ 3) :
    Calls Tryz.prog 131 #[i.val] w fun e w' => e = .returned i.left.val ∧ Below w.heap.size w w' := by
  obtain ⟨id, kind, dst, a, b, c, f, n, x0, x1, x2⟩ := i
  dsimp only at hk hn
  have HT := Lib.hid hT
  clear hT
  rcases (by omega : kind = 0 ∨ kind = 1 ∨ kind = 2 ∨ kind = 3 ∨ kind = 4 ∨ kind = 5 ∨ kind = 6 ∨ kind = 7 ∨ kind = 8 ∨ kind = 9) with rfl | rfl | rfl | rfl | rfl | rfl | rfl | rfl | rfl | rfl
  · have t0 := HT.out.two 0 0 (by decide) (by decide) (v := .string (kBytes 0)) (by kernel_rfl)
    have t1 := HT.out.two 0 1 (by decide) (by decide) (v := .bool true) (by kernel_rfl)
    have t2 := HT.out.two 0 2 (by decide) (by decide) (v := .bool false) (by kernel_rfl)
    have t3 := HT.out.two 0 3 (by decide) (by decide) (v := .bool false) (by kernel_rfl)
    have t4 := HT.out.two 0 4 (by decide) (by decide) (v := .bool true) (by kernel_rfl)
    have t5 := HT.out.two 0 5 (by decide) (by decide) (v := .bool false) (by kernel_rfl)
    simp only [Nat.reduceMul, Nat.reduceAdd] at t0 t1 t2 t3 t4 t5
    replace t0 := t0
    generalize kBytes 0 = ks at *
    unfold Ins.val
    dsimp only
    go_enter Tryz.func131, Tryz.ntmps131
    go_wp2
    exact bodyPost_ret (v := (Ins.left ⟨id, 0, dst, a, b, c, f, n, x0, x1, x2⟩).val) (by simp [results, Tryz.results131, go_sem, Ins.val, Ins.left, zeroIf, hasDst, hasA, hasB]) rfl ⟨rfl, below3 _ _ _ _⟩
  · have t0 := HT.out.two 1 0 (by decide) (by decide) (v := .string (kBytes 1)) (by kernel_rfl)
    have t1 := HT.out.two 1 1 (by decide) (by decide) (v := .bool true) (by kernel_rfl)
    have t2 := HT.out.two 1 2 (by decide) (by decide) (v := .bool true) (by kernel_rfl)
    have t3 := HT.out.two 1 3 (by decide) (by decide) (v := .bool false) (by kernel_rfl)
    have t4 := HT.out.two 1 4 (by decide) (by decide) (v := .bool false) (by kernel_rfl)
    have t5 := HT.out.two 1 5 (by decide) (by decide) (v := .bool false) (by kernel_rfl)
    simp only [Nat.reduceMul, Nat.reduceAdd] at t0 t1 t2 t3 t4 t5
    generalize kBytes 1 = ks at *
    unfold Ins.val
    dsimp only
    go_enter Tryz.func131, Tryz.ntmps131
    go_wp2
    exact bodyPost_ret (v := (Ins.left ⟨id, 1, dst, a, b, c, f, n, x0, x1, x2⟩).val) (by simp [results, Tryz.results131, go_sem, Ins.val, Ins.left, zeroIf, hasDst, hasA, hasB]) rfl ⟨rfl, below3 _ _ _ _⟩
  · have t0 := HT.out.two 2 0 (by decide) (by decide) (v := .string (kBytes 2)) (by kernel_rfl)
    have t1 := HT.out.two 2 1 (by decide) (by decide) (v := .bool true) (by kernel_rfl)
    have t2 := HT.out.two 2 2 (by decide) (by decide) (v := .bool true) (by kernel_rfl)
    have t3 := HT.out.two 2 3 (by decide) (by decide) (v := .bool false) (by kernel_rfl)
    have t4 := HT.out.two 2 4 (by decide) (by decide) (v := .bool false) (by kernel_rfl)
    have t5 := HT.out.two 2 5 (by decide) (by decide) (v := .bool false) (by kernel_rfl)
    simp only [Nat.reduceMul, Nat.reduceAdd] at t0 t1 t2 t3 t4 t5
    generalize kBytes 2 = ks at *
    unfold Ins.val
    dsimp only
    go_enter Tryz.func131, Tryz.ntmps131
    go_wp2
    exact bodyPost_ret (v := (Ins.left ⟨id, 2, dst, a, b, c, f, n, x0, x1, x2⟩).val) (by simp [results, Tryz.results131, go_sem, Ins.val, Ins.left, zeroIf, hasDst, hasA, hasB]) rfl ⟨rfl, below3 _ _ _ _⟩
  · have t0 := HT.out.two 3 0 (by decide) (by decide) (v := .string (kBytes 3)) (by kernel_rfl)
    have t1 := HT.out.two 3 1 (by decide) (by decide) (v := .bool true) (by kernel_rfl)
    have t2 := HT.out.two 3 2 (by decide) (by decide) (v := .bool true) (by kernel_rfl)
    have t3 := HT.out.two 3 3 (by decide) (by decide) (v := .bool true) (by kernel_rfl)
    have t4 := HT.out.two 3 4 (by decide) (by decide) (v := .bool false) (by kernel_rfl)
    have t5 := HT.out.two 3 5 (by decide) (by decide) (v := .bool false) (by kernel_rfl)
    simp only [Nat.reduceMul, Nat.reduceAdd] at t0 t1 t2 t3 t4 t5
    generalize kBytes 3 = ks at *
    unfold Ins.val
    dsimp only
    go_enter Tryz.func131, Tryz.ntmps131
    go_wp2
    exact bodyPost_ret (v := (Ins.left ⟨id, 3, dst, a, b, c, f, n, x0, x1, x2⟩).val) (by simp [results, Tryz.results131, go_sem, Ins.val, Ins.left, zeroIf, hasDst, hasA, hasB]) rfl ⟨rfl, below3 _ _ _ _⟩
  · have t0 := HT.out.two 4 0 (by decide) (by decide) (v := .string (kBytes 4)) (by kernel_rfl)
    have t1 := HT.out.two 4 1 (by decide) (by decide) (v := .bool true) (by kernel_rfl)
    have t2 := HT.out.two 4 2 (by decide) (by decide) (v := .bool true) (by kernel_rfl)
    have t3 := HT.out.two 4 3 (by decide) (by decide) (v := .bool true) (by kernel_rfl)
    have t4 := HT.out.two 4 4 (by decide) (by decide) (v := .bool false) (by kernel_rfl)
    have t5 := HT.out.two 4 5 (by decide) (by decide) (v := .bool false) (by kernel_rfl)
    simp only [Nat.reduceMul, Nat.reduceAdd] at t0 t1 t2 t3 t4 t5
    generalize kBytes 4 = ks at *
    unfold Ins.val
    dsimp only
    go_enter Tryz.func131, Tryz.ntmps131
    go_wp2
    exact bodyPost_ret (v := (Ins.left ⟨id, 4, dst, a, b, c, f, n, x0, x1, x2⟩).val) (by simp [results, Tryz.results131, go_sem, Ins.val, Ins.left, zeroIf, hasDst, hasA, hasB]) rfl ⟨rfl, below3 _ _ _ _⟩
  · have t0 := HT.out.two 5 0 (by decide) (by decide) (v := .string (kBytes 5)) (by kernel_rfl)
    have t1 := HT.out.two 5 1 (by decide) (by decide) (v := .bool true) (by kernel_rfl)
    have t2 := HT.out.two 5 2 (by decide) (by decide) (v := .bool true) (by kernel_rfl)
    have t3 := HT.out.two 5 3 (by decide) (by decide) (v := .bool true) (by kernel_rfl)
    have t4 := HT.out.two 5 4 (by decide) (by decide) (v := .bool false) (by kernel_rfl)
    have t5 := HT.out.two 5 5 (by decide) (by decide) (v := .bool false) (by kernel_rfl)
    simp only [Nat.reduceMul, Nat.reduceAdd] at t0 t1 t2 t3 t4 t5
    generalize kBytes 5 = ks at *
    unfold Ins.val
    dsimp only
    go_enter Tryz.func131, Tryz.ntmps131
    go_wp2
    exact bodyPost_ret (v := (Ins.left ⟨id, 5, dst, a, b, c, f, n, x0, x1, x2⟩).val) (by simp [results, Tryz.results131, go_sem, Ins.val, Ins.left, zeroIf, hasDst, hasA, hasB]) rfl ⟨rfl, below3 _ _ _ _⟩
  · have t0 := HT.out.two 6 0 (by decide) (by decide) (v := .string (kBytes 6)) (by kernel_rfl)
    have t1 := HT.out.two 6 1 (by decide) (by decide) (v := .bool true) (by kernel_rfl)
    have t2 := HT.out.two 6 2 (by decide) (by decide) (v := .bool false) (by kernel_rfl)
    have t3 := HT.out.two 6 3 (by decide) (by decide) (v := .bool false) (by kernel_rfl)
    have t4 := HT.out.two 6 4 (by decide) (by decide) (v := .bool false) (by kernel_rfl)
    have t5 := HT.out.two 6 5 (by decide) (by decide) (v := .bool false) (by kernel_rfl)
    simp only [Nat.reduceMul, Nat.reduceAdd] at t0 t1 t2 t3 t4 t5
    generalize kBytes 6 = ks at *
    unfold Ins.val
    dsimp only
    go_enter Tryz.func131, Tryz.ntmps131
    go_wp2
    exact bodyPost_ret (v := (Ins.left ⟨id, 6, dst, a, b, c, f, n, x0, x1, x2⟩).val) (by simp [results, Tryz.results131, go_sem, Ins.val, Ins.left, zeroIf, hasDst, hasA, hasB]) rfl ⟨rfl, below3 _ _ _ _⟩
  · rcases (by omega : n = 0 ∨ n = 1 ∨ n = 2 ∨ n = 3) with rfl | rfl | rfl | rfl
    · have t0 := HT.out.two 7 0 (by decide) (by decide) (v := .string (kBytes 7)) (by kernel_rfl)
      have t1 := HT.out.two 7 1 (by decide) (by decide) (v := .bool true) (by kernel_rfl)
      have t2 := HT.out.two 7 2 (by decide) (by decide) (v := .bool false) (by kernel_rfl)
      have t3 := HT.out.two 7 3 (by decide) (by decide) (v := .bool false) (by kernel_rfl)
      have t4 := HT.out.two 7 4 (by decide) (by decide) (v := .bool false) (by kernel_rfl)
      have t5 := HT.out.two 7 5 (by decide) (by decide) (v := .bool true) (by kernel_rfl)
      simp only [Nat.reduceMul, Nat.reduceAdd] at t0 t1 t2 t3 t4 t5
      generalize kBytes 7 = ks at *
      unfold Ins.val
      dsimp only
      go_enter Tryz.func131, Tryz.ntmps131
      have hcl := clear0 w
      go_wp2
      exact bodyPost_ret (v := (Ins.left ⟨id, 7, dst, a, b, c, f, 0, x0, x1, x2⟩).val) (by simp [results, Tryz.results131, go_sem, Ins.val, Ins.left, zeroIf, hasDst, hasA, hasB]) rfl ⟨rfl, below3 _ _ _ _⟩
    · have t0 := HT.out.two 7 0 (by decide) (by decide) (v := .string (kBytes 7)) (by kernel_rfl)
      have t1 := HT.out.two 7 1 (by decide) (by decide) (v := .bool true) (by kernel_rfl)
      have t2 := HT.out.two 7 2 (by decide) (by decide) (v := .bool false) (by kernel_rfl)
      have t3 := HT.out.two 7 3 (by decide) (by decide) (v := .bool false) (by kernel_rfl)
      have t4 := HT.out.two 7 4 (by decide) (by decide) (v := .bool false) (by kernel_rfl)
      have t5 := HT.out.two 7 5 (by decide) (by decide) (v := .bool true) (by kernel_rfl)
      simp only [Nat.reduceMul, Nat.reduceAdd] at t0 t1 t2 t3 t4 t5
      generalize kBytes 7 = ks at *
      unfold Ins.val
      dsimp only
      go_enter Tryz.func131, Tryz.ntmps131
      have hcl := clear1 w
      go_wp2
      exact bodyPost_ret (v := (Ins.left ⟨id, 7, dst, a, b, c, f, 1, x0, x1, x2⟩).val) (by simp [results, Tryz.results131, go_sem, Ins.val, Ins.left, zeroIf, hasDst, hasA, hasB]) rfl ⟨rfl, below3 _ _ _ _⟩
    · have t0 := HT.out.two 7 0 (by decide) (by decide) (v := .string (kBytes 7)) (by kernel_rfl)
      have t1 := HT.out.two 7 1 (by decide) (by decide) (v := .bool true) (by kernel_rfl)
      have t2 := HT.out.two 7 2 (by decide) (by decide) (v := .bool false) (by kernel_rfl)
      have t3 := HT.out.two 7 3 (by decide) (by decide) (v := .bool false) (by kernel_rfl)
      have t4 := HT.out.two 7 4 (by decide) (by decide) (v := .bool false) (by kernel_rfl)
      have t5 := HT.out.two 7 5 (by decide) (by decide) (v := .bool true) (by kernel_rfl)
      simp only [Nat.reduceMul, Nat.reduceAdd] at t0 t1 t2 t3 t4 t5
      generalize kBytes 7 = ks at *
      unfold Ins.val
      dsimp only
      go_enter Tryz.func131, Tryz.ntmps131
      have hcl := clear2 w
      go_wp2
      exact bodyPost_ret (v := (Ins.left ⟨id, 7, dst, a, b, c, f, 2, x0, x1, x2⟩).val) (by simp [results, Tryz.results131, go_sem, Ins.val, Ins.left, zeroIf, hasDst, hasA, hasB]) rfl ⟨rfl, below3 _ _ _ _⟩
    · have t0 := HT.out.two 7 0 (by decide) (by decide) (v := .string (kBytes 7)) (by kernel_rfl)
      have t1 := HT.out.two 7 1 (by decide) (by decide) (v := .bool true) (by kernel_rfl)
      have t2 := HT.out.two 7 2 (by decide) (by decide) (v := .bool false) (by kernel_rfl)
      have t3 := HT.out.two 7 3 (by decide) (by decide) (v := .bool false) (by kernel_rfl)
      have t4 := HT.out.two 7 4 (by decide) (by decide) (v := .bool false) (by kernel_rfl)
      have t5 := HT.out.two 7 5 (by decide) (by decide) (v := .bool true) (by kernel_rfl)
      simp only [Nat.reduceMul, Nat.reduceAdd] at t0 t1 t2 t3 t4 t5
      generalize kBytes 7 = ks at *
      unfold Ins.val
      dsimp only
      go_enter Tryz.func131, Tryz.ntmps131
      have hcl := clear3 w
      go_wp2
      exact bodyPost_ret (v := (Ins.left ⟨id, 7, dst, a, b, c, f, 3, x0, x1, x2⟩).val) (by simp [results, Tryz.results131, go_sem, Ins.val, Ins.left, zeroIf, hasDst, hasA, hasB]) rfl ⟨rfl, below3 _ _ _ _⟩
  · have t0 := HT.out.two 8 0 (by decide) (by decide) (v := .string (kBytes 8)) (by kernel_rfl)
    have t1 := HT.out.two 8 1 (by decide) (by decide) (v := .bool false) (by kernel_rfl)
    have t2 := HT.out.two 8 2 (by decide) (by decide) (v := .bool true) (by kernel_rfl)
    have t3 := HT.out.two 8 3 (by decide) (by decide) (v := .bool false) (by kernel_rfl)
    have t4 := HT.out.two 8 4 (by decide) (by decide) (v := .bool false) (by kernel_rfl)
    have t5 := HT.out.two 8 5 (by decide) (by decide) (v := .bool false) (by kernel_rfl)
    simp only [Nat.reduceMul, Nat.reduceAdd] at t0 t1 t2 t3 t4 t5
    generalize kBytes 8 = ks at *
    unfold Ins.val
    dsimp only
    go_enter Tryz.func131, Tryz.ntmps131
    go_wp2
    exact bodyPost_ret (v := (Ins.left ⟨id, 8, dst, a, b, c, f, n, x0, x1, x2⟩).val) (by simp [results, Tryz.results131, go_sem, Ins.val, Ins.left, zeroIf, hasDst, hasA, hasB]) rfl ⟨rfl, below3 _ _ _ _⟩
  · have t0 := HT.out.two 9 0 (by decide) (by decide) (v := .string (kBytes 9)) (by kernel_rfl)
    have t1 := HT.out.two 9 1 (by decide) (by decide) (v := .bool false) (by kernel_rfl)
    have t2 := HT.out.two 9 2 (by decide) (by decide) (v := .bool true) (by kernel_rfl)
    have t3 := HT.out.two 9 3 (by decide) (by decide) (v := .bool false) (by kernel_rfl)
    have t4 := HT.out.two 9 4 (by decide) (by decide) (v := .bool false) (by kernel_rfl)
    have t5 := HT.out.two 9 5 (by decide) (by decide) (v := .bool false) (by kernel_rfl)
    simp only [Nat.reduceMul, Nat.reduceAdd] at t0 t1 t2 t3 t4 t5
    generalize kBytes 9 = ks at *
    unfold Ins.val
    dsimp only
    go_enter Tryz.func131, Tryz.ntmps131
    go_wp2
    exact bodyPost_ret (v := (Ins.left ⟨id, 9, dst, a, b, c, f, n, x0, x1, x2⟩).val) (by simp [results, Tryz.results131, go_sem, Ins.val, Ins.left, zeroIf, hasDst, hasA, hasB]) rfl ⟨rfl, below3 _ _ _ _⟩
end Go.Proofs.YtbddjneinfkmpaaGreatDoor
