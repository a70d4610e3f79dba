/- errors.As of an error of package prog. -/
import Derived.Test.YtamgkfllbfapbaaDoorPgL
import Derived.Test.YtamgkfllbfapbaaDoorPgK
namespace Go.Proofs.YtamgkfllbfapbaaDoor
open Go Go.RowKit Go.Sort Go.Extern.Stop Go.Stop Go.Extern

set_option maxRecDepth 100000 in
set_option maxHeartbeats 4000000 in
theorem as0 (s : ByteArray) (t a : Addr) (old : Value) (w : World) (B : Nat) (hB : B ≤ w.heap.size) (hBt : B ≤ t.block) (ha : w.cell? a = some (.pointer (some t))) (ht : w.cell? t = some old) (hf : w.frozen? t = false) :
    Calls Tryd.prog 35 #[.iface 52 (.string s), .iface 57 (.pointer (some t)), .agg #[.pointer (some ⟨3, 57, none⟩), .pointer (some a), .int .u64 150], .iface 99 (.agg #[.pointer (some ⟨3, 52, none⟩)])] w fun e w' => e = .returned (.bool true) ∧ Below B w w' := by
  have h33 := @run_callFunc_extern Tryd.prog 32 _ (fun args => ReflectliteValue.unpack (args.getD 0 (.tuple #[]))) Tryd.func32 (by kernel_rfl) (by kernel_rfl) (by kernel_rfl) (by kernel_rfl)
  have h48 := @run_callFunc_extern Tryd.prog 48 _ (ReflectliteType.typeOf) Tryd.func48 (by kernel_rfl) (by kernel_rfl) (by kernel_rfl) (by kernel_rfl)
  have h99 := @run_callFunc_extern Tryd.prog 108 _ (ReflectliteType.relation "AssignableTo" ReflectliteType.assignableTo) Tryd.func108 (by kernel_rfl) (by kernel_rfl) (by kernel_rfl) (by kernel_rfl)
  have h49 := @run_callFunc_extern Tryd.prog 49 _ (ReflectliteValue.method (ReflectliteValue.valueError "reflectlite.Value.Elem" 0) ReflectliteValue.elem) Tryd.func49 (by kernel_rfl) (by kernel_rfl) (by kernel_rfl) (by kernel_rfl)
  have h50 := @run_callFunc_extern Tryd.prog 50 _ (ReflectliteValue.set) Tryd.func50 (by kernel_rfl) (by kernel_rfl) (by kernel_rfl) (by kernel_rfl)
  have hal : a.block < w.heap.size := block_lt_of_cell ha
  have htl : t.block < w.heap.size := block_lt_of_cell ht
  have hBW : Below w.heap.size w (w.alloc (.cells #[.pointer (some ⟨3, 57, none⟩), .pointer (some a), .int .u64 150] 73)) := ((Below.refl w.heap.size w).alloc (Nat.le_refl _) _)
  have hBF : Below w.heap.size w ((w.alloc (.cells #[.pointer (some ⟨3, 57, none⟩), .pointer (some a), .int .u64 150] 73)).alloc (.cells #[.string s] 52)) := (((Below.refl w.heap.size w).alloc (Nat.le_refl _) _).alloc (by simp only [World.size_alloc]; omega) _)
  have HBF := Lib.hid hBF
  have tF := fx.typeOfF
  have tI := fx.typeOfI
  have mA := fx.mAssign
  have aF := fx.assignF
  have aI := fx.assignI
  have vF := fx.valueOfF s (w.alloc (.cells #[.pointer (some ⟨3, 57, none⟩), .pointer (some a), .int .u64 150] 73))
  have nA := fx.noAs
  have hU := fx.hasUnw
  have mU := fx.mUnw
  have el := fx.elemVP a t (w.alloc (.cells #[.pointer (some ⟨3, 57, none⟩), .pointer (some a), .int .u64 150] 73)) ((hBW.cell hal).trans ha)
  have st := fx.setF t ⟨w.heap.size + 1, 0, none⟩ s old ((w.alloc (.cells #[.pointer (some ⟨3, 57, none⟩), .pointer (some a), .int .u64 150] 73)).alloc (.cells #[.string s] 52)) (by rw [World.cell?_alloc_at _ _ _ _ (by simp)]; rfl) ((hBF.cell htl).trans ht) ((hBF.frozen htl).trans hf)
  simp only [World.size_alloc] at vF
  clear hBW hBF
  go_enter Tryd.func35, Tryd.ntmps35
  go_wp2
  refine wp_loop_rounds 1 ?_
  rw [rounds_succ]
  go_wp2
  go_ret
  exact ⟨rfl, (HBF.out.mono hB).setCell hBt _⟩

set_option maxRecDepth 100000 in
set_option maxHeartbeats 4000000 in
theorem as1 (s : ByteArray) (s1 : ByteArray) (n1 : Int) (t a : Addr) (old : Value) (w : World) (B : Nat) (hB : B ≤ w.heap.size) (hBt : B ≤ t.block) (ha : w.cell? a = some (.pointer (some t))) (ht : w.cell? t = some old) (hf : w.frozen? t = false) :
    Calls Tryd.prog 35 #[.iface 113 (.agg #[.string s1, .int .i64 n1, .iface 52 (.string s)]), .iface 57 (.pointer (some t)), .agg #[.pointer (some ⟨3, 57, none⟩), .pointer (some a), .int .u64 150], .iface 99 (.agg #[.pointer (some ⟨3, 52, none⟩)])] w fun e w' => e = .returned (.bool true) ∧ Below B w w' := by
  have h33 := @run_callFunc_extern Tryd.prog 32 _ (fun args => ReflectliteValue.unpack (args.getD 0 (.tuple #[]))) Tryd.func32 (by kernel_rfl) (by kernel_rfl) (by kernel_rfl) (by kernel_rfl)
  have h48 := @run_callFunc_extern Tryd.prog 48 _ (ReflectliteType.typeOf) Tryd.func48 (by kernel_rfl) (by kernel_rfl) (by kernel_rfl) (by kernel_rfl)
  have h99 := @run_callFunc_extern Tryd.prog 108 _ (ReflectliteType.relation "AssignableTo" ReflectliteType.assignableTo) Tryd.func108 (by kernel_rfl) (by kernel_rfl) (by kernel_rfl) (by kernel_rfl)
  have h49 := @run_callFunc_extern Tryd.prog 49 _ (ReflectliteValue.method (ReflectliteValue.valueError "reflectlite.Value.Elem" 0) ReflectliteValue.elem) Tryd.func49 (by kernel_rfl) (by kernel_rfl) (by kernel_rfl) (by kernel_rfl)
  have h50 := @run_callFunc_extern Tryd.prog 50 _ (ReflectliteValue.set) Tryd.func50 (by kernel_rfl) (by kernel_rfl) (by kernel_rfl) (by kernel_rfl)
  have hal : a.block < w.heap.size := block_lt_of_cell ha
  have htl : t.block < w.heap.size := block_lt_of_cell ht
  have hBW : Below w.heap.size w ((w.alloc (.cells #[.pointer (some ⟨3, 57, none⟩), .pointer (some a), .int .u64 150] 73)).alloc (.cells #[.string s1, .int .i64 n1, .iface 52 (.string s)] 113)) := (((Below.refl w.heap.size w).alloc (Nat.le_refl _) _).alloc (by simp only [World.size_alloc]; omega) _)
  have hBF : Below w.heap.size w (((w.alloc (.cells #[.pointer (some ⟨3, 57, none⟩), .pointer (some a), .int .u64 150] 73)).alloc (.cells #[.string s1, .int .i64 n1, .iface 52 (.string s)] 113)).alloc (.cells #[.string s] 52)) := ((((Below.refl w.heap.size w).alloc (Nat.le_refl _) _).alloc (by simp only [World.size_alloc]; omega) _).alloc (by simp only [World.size_alloc]; omega) _)
  have HBF := Lib.hid hBF
  have tF := fx.typeOfF
  have tI := fx.typeOfI
  have mA := fx.mAssign
  have aF := fx.assignF
  have aI := fx.assignI
  have vF := fx.valueOfF s ((w.alloc (.cells #[.pointer (some ⟨3, 57, none⟩), .pointer (some a), .int .u64 150] 73)).alloc (.cells #[.string s1, .int .i64 n1, .iface 52 (.string s)] 113))
  have nA := fx.noAs
  have hU := fx.hasUnw
  have mU := fx.mUnw
  have el := fx.elemVP a t ((w.alloc (.cells #[.pointer (some ⟨3, 57, none⟩), .pointer (some a), .int .u64 150] 73)).alloc (.cells #[.string s1, .int .i64 n1, .iface 52 (.string s)] 113)) ((hBW.cell hal).trans ha)
  have st := fx.setF t ⟨w.heap.size + 1 + 1, 0, none⟩ s old (((w.alloc (.cells #[.pointer (some ⟨3, 57, none⟩), .pointer (some a), .int .u64 150] 73)).alloc (.cells #[.string s1, .int .i64 n1, .iface 52 (.string s)] 113)).alloc (.cells #[.string s] 52)) (by rw [World.cell?_alloc_at _ _ _ _ (by simp)]; rfl) ((hBF.cell htl).trans ht) ((hBF.frozen htl).trans hf)
  simp only [World.size_alloc] at vF
  clear hBW hBF
  go_enter Tryd.func35, Tryd.ntmps35
  go_wp2
  refine wp_loop_rounds 2 ?_
  rw [rounds_succ]
  go_wp2
  rw [rounds_succ]
  go_wp2
  go_ret
  exact ⟨rfl, (HBF.out.mono hB).setCell hBt _⟩

set_option maxRecDepth 100000 in
set_option maxHeartbeats 4000000 in
theorem as2 (s : ByteArray) (s1 : ByteArray) (n1 : Int) (s2 : ByteArray) (n2 : Int) (t a : Addr) (old : Value) (w : World) (B : Nat) (hB : B ≤ w.heap.size) (hBt : B ≤ t.block) (ha : w.cell? a = some (.pointer (some t))) (ht : w.cell? t = some old) (hf : w.frozen? t = false) :
    Calls Tryd.prog 35 #[.iface 113 (.agg #[.string s1, .int .i64 n1, .iface 113 (.agg #[.string s2, .int .i64 n2, .iface 52 (.string s)])]), .iface 57 (.pointer (some t)), .agg #[.pointer (some ⟨3, 57, none⟩), .pointer (some a), .int .u64 150], .iface 99 (.agg #[.pointer (some ⟨3, 52, none⟩)])] w fun e w' => e = .returned (.bool true) ∧ Below B w w' := by
  have h33 := @run_callFunc_extern Tryd.prog 32 _ (fun args => ReflectliteValue.unpack (args.getD 0 (.tuple #[]))) Tryd.func32 (by kernel_rfl) (by kernel_rfl) (by kernel_rfl) (by kernel_rfl)
  have h48 := @run_callFunc_extern Tryd.prog 48 _ (ReflectliteType.typeOf) Tryd.func48 (by kernel_rfl) (by kernel_rfl) (by kernel_rfl) (by kernel_rfl)
  have h99 := @run_callFunc_extern Tryd.prog 108 _ (ReflectliteType.relation "AssignableTo" ReflectliteType.assignableTo) Tryd.func108 (by kernel_rfl) (by kernel_rfl) (by kernel_rfl) (by kernel_rfl)
  have h49 := @run_callFunc_extern Tryd.prog 49 _ (ReflectliteValue.method (ReflectliteValue.valueError "reflectlite.Value.Elem" 0) ReflectliteValue.elem) Tryd.func49 (by kernel_rfl) (by kernel_rfl) (by kernel_rfl) (by kernel_rfl)
  have h50 := @run_callFunc_extern Tryd.prog 50 _ (ReflectliteValue.set) Tryd.func50 (by kernel_rfl) (by kernel_rfl) (by kernel_rfl) (by kernel_rfl)
  have hal : a.block < w.heap.size := block_lt_of_cell ha
  have htl : t.block < w.heap.size := block_lt_of_cell ht
  have hBW : Below w.heap.size w (((w.alloc (.cells #[.pointer (some ⟨3, 57, none⟩), .pointer (some a), .int .u64 150] 73)).alloc (.cells #[.string s1, .int .i64 n1, .iface 113 (.agg #[.string s2, .int .i64 n2, .iface 52 (.string s)])] 113)).alloc (.cells #[.string s2, .int .i64 n2, .iface 52 (.string s)] 113)) := ((((Below.refl w.heap.size w).alloc (Nat.le_refl _) _).alloc (by simp only [World.size_alloc]; omega) _).alloc (by simp only [World.size_alloc]; omega) _)
  have hBF : Below w.heap.size w ((((w.alloc (.cells #[.pointer (some ⟨3, 57, none⟩), .pointer (some a), .int .u64 150] 73)).alloc (.cells #[.string s1, .int .i64 n1, .iface 113 (.agg #[.string s2, .int .i64 n2, .iface 52 (.string s)])] 113)).alloc (.cells #[.string s2, .int .i64 n2, .iface 52 (.string s)] 113)).alloc (.cells #[.string s] 52)) := (((((Below.refl w.heap.size w).alloc (Nat.le_refl _) _).alloc (by simp only [World.size_alloc]; omega) _).alloc (by simp only [World.size_alloc]; omega) _).alloc (by simp only [World.size_alloc]; omega) _)
  have HBF := Lib.hid hBF
  have tF := fx.typeOfF
  have tI := fx.typeOfI
  have mA := fx.mAssign
  have aF := fx.assignF
  have aI := fx.assignI
  have vF := fx.valueOfF s (((w.alloc (.cells #[.pointer (some ⟨3, 57, none⟩), .pointer (some a), .int .u64 150] 73)).alloc (.cells #[.string s1, .int .i64 n1, .iface 113 (.agg #[.string s2, .int .i64 n2, .iface 52 (.string s)])] 113)).alloc (.cells #[.string s2, .int .i64 n2, .iface 52 (.string s)] 113))
  have nA := fx.noAs
  have hU := fx.hasUnw
  have mU := fx.mUnw
  have el := fx.elemVP a t (((w.alloc (.cells #[.pointer (some ⟨3, 57, none⟩), .pointer (some a), .int .u64 150] 73)).alloc (.cells #[.string s1, .int .i64 n1, .iface 113 (.agg #[.string s2, .int .i64 n2, .iface 52 (.string s)])] 113)).alloc (.cells #[.string s2, .int .i64 n2, .iface 52 (.string s)] 113)) ((hBW.cell hal).trans ha)
  have st := fx.setF t ⟨w.heap.size + 1 + 1 + 1, 0, none⟩ s old ((((w.alloc (.cells #[.pointer (some ⟨3, 57, none⟩), .pointer (some a), .int .u64 150] 73)).alloc (.cells #[.string s1, .int .i64 n1, .iface 113 (.agg #[.string s2, .int .i64 n2, .iface 52 (.string s)])] 113)).alloc (.cells #[.string s2, .int .i64 n2, .iface 52 (.string s)] 113)).alloc (.cells #[.string s] 52)) (by rw [World.cell?_alloc_at _ _ _ _ (by simp)]; rfl) ((hBF.cell htl).trans ht) ((hBF.frozen htl).trans hf)
  simp only [World.size_alloc] at vF
  clear hBW hBF
  go_enter Tryd.func35, Tryd.ntmps35
  go_wp2
  refine wp_loop_rounds 3 ?_
  rw [rounds_succ]
  go_wp2
  rw [rounds_succ]
  go_wp2
  rw [rounds_succ]
  go_wp2
  go_ret
  exact ⟨rfl, (HBF.out.mono hB).setCell hBt _⟩

set_option maxRecDepth 100000 in
set_option maxHeartbeats 4000000 in
theorem as3 (s : ByteArray) (s1 : ByteArray) (n1 : Int) (s2 : ByteArray) (n2 : Int) (s3 : ByteArray) (n3 : Int) (t a : Addr) (old : Value) (w : World) (B : Nat) (hB : B ≤ w.heap.size) (hBt : B ≤ t.block) (ha : w.cell? a = some (.pointer (some t))) (ht : w.cell? t = some old) (hf : w.frozen? t = false) :
    Calls Tryd.prog 35 #[.iface 113 (.agg #[.string s1, .int .i64 n1, .iface 113 (.agg #[.string s2, .int .i64 n2, .iface 113 (.agg #[.string s3, .int .i64 n3, .iface 52 (.string s)])])]), .iface 57 (.pointer (some t)), .agg #[.pointer (some ⟨3, 57, none⟩), .pointer (some a), .int .u64 150], .iface 99 (.agg #[.pointer (some ⟨3, 52, none⟩)])] w fun e w' => e = .returned (.bool true) ∧ Below B w w' := by
  have h33 := @run_callFunc_extern Tryd.prog 32 _ (fun args => ReflectliteValue.unpack (args.getD 0 (.tuple #[]))) Tryd.func32 (by kernel_rfl) (by kernel_rfl) (by kernel_rfl) (by kernel_rfl)
  have h48 := @run_callFunc_extern Tryd.prog 48 _ (ReflectliteType.typeOf) Tryd.func48 (by kernel_rfl) (by kernel_rfl) (by kernel_rfl) (by kernel_rfl)
  have h99 := @run_callFunc_extern Tryd.prog 108 _ (ReflectliteType.relation "AssignableTo" ReflectliteType.assignableTo) Tryd.func108 (by kernel_rfl) (by kernel_rfl) (by kernel_rfl) (by kernel_rfl)
  have h49 := @run_callFunc_extern Tryd.prog 49 _ (ReflectliteValue.method (ReflectliteValue.valueError "reflectlite.Value.Elem" 0) ReflectliteValue.elem) Tryd.func49 (by kernel_rfl) (by kernel_rfl) (by kernel_rfl) (by kernel_rfl)
  have h50 := @run_callFunc_extern Tryd.prog 50 _ (ReflectliteValue.set) Tryd.func50 (by kernel_rfl) (by kernel_rfl) (by kernel_rfl) (by kernel_rfl)
  have hal : a.block < w.heap.size := block_lt_of_cell ha
  have htl : t.block < w.heap.size := block_lt_of_cell ht
  have hBW : Below w.heap.size w ((((w.alloc (.cells #[.pointer (some ⟨3, 57, none⟩), .pointer (some a), .int .u64 150] 73)).alloc (.cells #[.string s1, .int .i64 n1, .iface 113 (.agg #[.string s2, .int .i64 n2, .iface 113 (.agg #[.string s3, .int .i64 n3, .iface 52 (.string s)])])] 113)).alloc (.cells #[.string s2, .int .i64 n2, .iface 113 (.agg #[.string s3, .int .i64 n3, .iface 52 (.string s)])] 113)).alloc (.cells #[.string s3, .int .i64 n3, .iface 52 (.string s)] 113)) := (((((Below.refl w.heap.size w).alloc (Nat.le_refl _) _).alloc (by simp only [World.size_alloc]; omega) _).alloc (by simp only [World.size_alloc]; omega) _).alloc (by simp only [World.size_alloc]; omega) _)
  have hBF : Below w.heap.size w (((((w.alloc (.cells #[.pointer (some ⟨3, 57, none⟩), .pointer (some a), .int .u64 150] 73)).alloc (.cells #[.string s1, .int .i64 n1, .iface 113 (.agg #[.string s2, .int .i64 n2, .iface 113 (.agg #[.string s3, .int .i64 n3, .iface 52 (.string s)])])] 113)).alloc (.cells #[.string s2, .int .i64 n2, .iface 113 (.agg #[.string s3, .int .i64 n3, .iface 52 (.string s)])] 113)).alloc (.cells #[.string s3, .int .i64 n3, .iface 52 (.string s)] 113)).alloc (.cells #[.string s] 52)) := ((((((Below.refl w.heap.size w).alloc (Nat.le_refl _) _).alloc (by simp only [World.size_alloc]; omega) _).alloc (by simp only [World.size_alloc]; omega) _).alloc (by simp only [World.size_alloc]; omega) _).alloc (by simp only [World.size_alloc]; omega) _)
  have HBF := Lib.hid hBF
  have tF := fx.typeOfF
  have tI := fx.typeOfI
  have mA := fx.mAssign
  have aF := fx.assignF
  have aI := fx.assignI
  have vF := fx.valueOfF s ((((w.alloc (.cells #[.pointer (some ⟨3, 57, none⟩), .pointer (some a), .int .u64 150] 73)).alloc (.cells #[.string s1, .int .i64 n1, .iface 113 (.agg #[.string s2, .int .i64 n2, .iface 113 (.agg #[.string s3, .int .i64 n3, .iface 52 (.string s)])])] 113)).alloc (.cells #[.string s2, .int .i64 n2, .iface 113 (.agg #[.string s3, .int .i64 n3, .iface 52 (.string s)])] 113)).alloc (.cells #[.string s3, .int .i64 n3, .iface 52 (.string s)] 113))
  have nA := fx.noAs
  have hU := fx.hasUnw
  have mU := fx.mUnw
  have el := fx.elemVP a t ((((w.alloc (.cells #[.pointer (some ⟨3, 57, none⟩), .pointer (some a), .int .u64 150] 73)).alloc (.cells #[.string s1, .int .i64 n1, .iface 113 (.agg #[.string s2, .int .i64 n2, .iface 113 (.agg #[.string s3, .int .i64 n3, .iface 52 (.string s)])])] 113)).alloc (.cells #[.string s2, .int .i64 n2, .iface 113 (.agg #[.string s3, .int .i64 n3, .iface 52 (.string s)])] 113)).alloc (.cells #[.string s3, .int .i64 n3, .iface 52 (.string s)] 113)) ((hBW.cell hal).trans ha)
  have st := fx.setF t ⟨w.heap.size + 1 + 1 + 1 + 1, 0, none⟩ s old (((((w.alloc (.cells #[.pointer (some ⟨3, 57, none⟩), .pointer (some a), .int .u64 150] 73)).alloc (.cells #[.string s1, .int .i64 n1, .iface 113 (.agg #[.string s2, .int .i64 n2, .iface 113 (.agg #[.string s3, .int .i64 n3, .iface 52 (.string s)])])] 113)).alloc (.cells #[.string s2, .int .i64 n2, .iface 113 (.agg #[.string s3, .int .i64 n3, .iface 52 (.string s)])] 113)).alloc (.cells #[.string s3, .int .i64 n3, .iface 52 (.string s)] 113)).alloc (.cells #[.string s] 52)) (by rw [World.cell?_alloc_at _ _ _ _ (by simp)]; rfl) ((hBF.cell htl).trans ht) ((hBF.frozen htl).trans hf)
  simp only [World.size_alloc] at vF
  clear hBW hBF
  go_enter Tryd.func35, Tryd.ntmps35
  go_wp2
  refine wp_loop_rounds 4 ?_
  rw [rounds_succ]
  go_wp2
  rw [rounds_succ]
  go_wp2
  rw [rounds_succ]
  go_wp2
  rw [rounds_succ]
  go_wp2
  go_ret
  exact ⟨rfl, (HBF.out.mono hB).setCell hBt _⟩

end Go.Proofs.YtamgkfllbfapbaaDoor
