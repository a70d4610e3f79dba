/- errors.As of an error of package prog. -/
import Derived.Test.YtbddjneinfkmpaaGreatDoorPgL
import Derived.Test.YtbddjneinfkmpaaGreatDoorPgU2
namespace Go.Proofs.YtbddjneinfkmpaaGreatDoor
open Go Go.RowKit Go.Sort Go.Extern.Stop Go.Stop Go.Extern

set_option maxRecDepth 100000 in
set_option maxHeartbeats 4000000 in
theorem as0 (s : ByteArray) (t a : Addr) (old : Value) (w : World) (B : Nat) (hB : B ≤ w.heap.size) (hBt : B ≤ t.block) (ha : w.cell? a = some (.pointer (some t))) (ht : w.cell? t = some old) (hf : w.frozen? t = false) :
    Calls Tryz.prog 94 #[.iface 79 (.string s), .iface 84 (.pointer (some t)), .agg #[.pointer (some ⟨3, 84, none⟩), .pointer (some a), .int .u64 150], .iface 144 (.agg #[.pointer (some ⟨3, 79, none⟩)])] w fun e w' => e = .returned (.bool true) ∧ Below B w w' := by
  have h33 := @run_callFunc_extern Tryz.prog 91 _ (fun args => ReflectliteValue.unpack (args.getD 0 (.tuple #[]))) Tryz.func91 (by kernel_rfl) (by kernel_rfl) (by kernel_rfl) (by kernel_rfl)
  have h48 := @run_callFunc_extern Tryz.prog 122 _ (ReflectliteType.typeOf) Tryz.func122 (by kernel_rfl) (by kernel_rfl) (by kernel_rfl) (by kernel_rfl)
  have h99 := @run_callFunc_extern Tryz.prog 203 _ (ReflectliteType.relation "AssignableTo" ReflectliteType.assignableTo) Tryz.func203 (by kernel_rfl) (by kernel_rfl) (by kernel_rfl) (by kernel_rfl)
  have h49 := @run_callFunc_extern Tryz.prog 123 _ (ReflectliteValue.method (ReflectliteValue.valueError "reflectlite.Value.Elem" 0) ReflectliteValue.elem) Tryz.func123 (by kernel_rfl) (by kernel_rfl) (by kernel_rfl) (by kernel_rfl)
  have h50 := @run_callFunc_extern Tryz.prog 124 _ (ReflectliteValue.set) Tryz.func124 (by kernel_rfl) (by kernel_rfl) (by kernel_rfl) (by kernel_rfl)
  have hal : a.block < w.heap.size := block_lt_of_cell ha
  have htl : t.block < w.heap.size := block_lt_of_cell ht
  have hBW : Below w.heap.size w (w.alloc (.cells #[.pointer (some ⟨3, 84, none⟩), .pointer (some a), .int .u64 150] 110)) := ((Below.refl w.heap.size w).alloc (Nat.le_refl _) _)
  have hBF : Below w.heap.size w ((w.alloc (.cells #[.pointer (some ⟨3, 84, none⟩), .pointer (some a), .int .u64 150] 110)).alloc (.cells #[.string s] 79)) := (((Below.refl w.heap.size w).alloc (Nat.le_refl _) _).alloc (by simp only [World.size_alloc]; omega) _)
  have HBF := Lib.hid hBF
  have tF := fx.typeOfF
  have tI := fx.typeOfI
  have mA := fx.mAssign
  have aF := fx.assignF
  have aI := fx.assignI
  have vF := fx.valueOfF s (w.alloc (.cells #[.pointer (some ⟨3, 84, none⟩), .pointer (some a), .int .u64 150] 110))
  have nA := fx.noAs
  have hU := fx.hasUnw
  have mU := fx.mUnw
  have el := fx.elemVP a t (w.alloc (.cells #[.pointer (some ⟨3, 84, none⟩), .pointer (some a), .int .u64 150] 110)) ((hBW.cell hal).trans ha)
  have st := fx.setF t ⟨w.heap.size + 1, 0, none⟩ s old ((w.alloc (.cells #[.pointer (some ⟨3, 84, none⟩), .pointer (some a), .int .u64 150] 110)).alloc (.cells #[.string s] 79)) (by rw [World.cell?_alloc_at _ _ _ _ (by simp)]; rfl) ((hBF.cell htl).trans ht) ((hBF.frozen htl).trans hf)
  simp only [World.size_alloc] at vF
  clear hBW hBF
  go_enter Tryz.func94, Tryz.ntmps94
  go_wp2
  refine wp_loop_rounds 1 ?_
  rw [rounds_succ]
  go_wp2
  go_ret
  exact ⟨rfl, (HBF.out.mono hB).setCell hBt _⟩

set_option maxRecDepth 100000 in
set_option maxHeartbeats 4000000 in
theorem as1 (s : ByteArray) (s1 : ByteArray) (n1 : Int) (t a : Addr) (old : Value) (w : World) (B : Nat) (hB : B ≤ w.heap.size) (hBt : B ≤ t.block) (ha : w.cell? a = some (.pointer (some t))) (ht : w.cell? t = some old) (hf : w.frozen? t = false) :
    Calls Tryz.prog 94 #[.iface 158 (.agg #[.string s1, .int .i64 n1, .iface 79 (.string s)]), .iface 84 (.pointer (some t)), .agg #[.pointer (some ⟨3, 84, none⟩), .pointer (some a), .int .u64 150], .iface 144 (.agg #[.pointer (some ⟨3, 79, none⟩)])] w fun e w' => e = .returned (.bool true) ∧ Below B w w' := by
  have h33 := @run_callFunc_extern Tryz.prog 91 _ (fun args => ReflectliteValue.unpack (args.getD 0 (.tuple #[]))) Tryz.func91 (by kernel_rfl) (by kernel_rfl) (by kernel_rfl) (by kernel_rfl)
  have h48 := @run_callFunc_extern Tryz.prog 122 _ (ReflectliteType.typeOf) Tryz.func122 (by kernel_rfl) (by kernel_rfl) (by kernel_rfl) (by kernel_rfl)
  have h99 := @run_callFunc_extern Tryz.prog 203 _ (ReflectliteType.relation "AssignableTo" ReflectliteType.assignableTo) Tryz.func203 (by kernel_rfl) (by kernel_rfl) (by kernel_rfl) (by kernel_rfl)
  have h49 := @run_callFunc_extern Tryz.prog 123 _ (ReflectliteValue.method (ReflectliteValue.valueError "reflectlite.Value.Elem" 0) ReflectliteValue.elem) Tryz.func123 (by kernel_rfl) (by kernel_rfl) (by kernel_rfl) (by kernel_rfl)
  have h50 := @run_callFunc_extern Tryz.prog 124 _ (ReflectliteValue.set) Tryz.func124 (by kernel_rfl) (by kernel_rfl) (by kernel_rfl) (by kernel_rfl)
  have hal : a.block < w.heap.size := block_lt_of_cell ha
  have htl : t.block < w.heap.size := block_lt_of_cell ht
  have hBW : Below w.heap.size w ((w.alloc (.cells #[.pointer (some ⟨3, 84, none⟩), .pointer (some a), .int .u64 150] 110)).alloc (.cells #[.string s1, .int .i64 n1, .iface 79 (.string s)] 158)) := (((Below.refl w.heap.size w).alloc (Nat.le_refl _) _).alloc (by simp only [World.size_alloc]; omega) _)
  have hBF : Below w.heap.size w (((w.alloc (.cells #[.pointer (some ⟨3, 84, none⟩), .pointer (some a), .int .u64 150] 110)).alloc (.cells #[.string s1, .int .i64 n1, .iface 79 (.string s)] 158)).alloc (.cells #[.string s] 79)) := ((((Below.refl w.heap.size w).alloc (Nat.le_refl _) _).alloc (by simp only [World.size_alloc]; omega) _).alloc (by simp only [World.size_alloc]; omega) _)
  have HBF := Lib.hid hBF
  have tF := fx.typeOfF
  have tI := fx.typeOfI
  have mA := fx.mAssign
  have aF := fx.assignF
  have aI := fx.assignI
  have vF := fx.valueOfF s ((w.alloc (.cells #[.pointer (some ⟨3, 84, none⟩), .pointer (some a), .int .u64 150] 110)).alloc (.cells #[.string s1, .int .i64 n1, .iface 79 (.string s)] 158))
  have nA := fx.noAs
  have hU := fx.hasUnw
  have mU := fx.mUnw
  have el := fx.elemVP a t ((w.alloc (.cells #[.pointer (some ⟨3, 84, none⟩), .pointer (some a), .int .u64 150] 110)).alloc (.cells #[.string s1, .int .i64 n1, .iface 79 (.string s)] 158)) ((hBW.cell hal).trans ha)
  have st := fx.setF t ⟨w.heap.size + 1 + 1, 0, none⟩ s old (((w.alloc (.cells #[.pointer (some ⟨3, 84, none⟩), .pointer (some a), .int .u64 150] 110)).alloc (.cells #[.string s1, .int .i64 n1, .iface 79 (.string s)] 158)).alloc (.cells #[.string s] 79)) (by rw [World.cell?_alloc_at _ _ _ _ (by simp)]; rfl) ((hBF.cell htl).trans ht) ((hBF.frozen htl).trans hf)
  simp only [World.size_alloc] at vF
  clear hBW hBF
  go_enter Tryz.func94, Tryz.ntmps94
  go_wp2
  refine wp_loop_rounds 2 ?_
  rw [rounds_succ]
  go_wp2
  rw [rounds_succ]
  go_wp2
  go_ret
  exact ⟨rfl, (HBF.out.mono hB).setCell hBt _⟩

set_option maxRecDepth 100000 in
set_option maxHeartbeats 4000000 in
theorem as2 (s : ByteArray) (s1 : ByteArray) (n1 : Int) (s2 : ByteArray) (n2 : Int) (t a : Addr) (old : Value) (w : World) (B : Nat) (hB : B ≤ w.heap.size) (hBt : B ≤ t.block) (ha : w.cell? a = some (.pointer (some t))) (ht : w.cell? t = some old) (hf : w.frozen? t = false) :
    Calls Tryz.prog 94 #[.iface 158 (.agg #[.string s1, .int .i64 n1, .iface 158 (.agg #[.string s2, .int .i64 n2, .iface 79 (.string s)])]), .iface 84 (.pointer (some t)), .agg #[.pointer (some ⟨3, 84, none⟩), .pointer (some a), .int .u64 150], .iface 144 (.agg #[.pointer (some ⟨3, 79, none⟩)])] w fun e w' => e = .returned (.bool true) ∧ Below B w w' := by
  have h33 := @run_callFunc_extern Tryz.prog 91 _ (fun args => ReflectliteValue.unpack (args.getD 0 (.tuple #[]))) Tryz.func91 (by kernel_rfl) (by kernel_rfl) (by kernel_rfl) (by kernel_rfl)
  have h48 := @run_callFunc_extern Tryz.prog 122 _ (ReflectliteType.typeOf) Tryz.func122 (by kernel_rfl) (by kernel_rfl) (by kernel_rfl) (by kernel_rfl)
  have h99 := @run_callFunc_extern Tryz.prog 203 _ (ReflectliteType.relation "AssignableTo" ReflectliteType.assignableTo) Tryz.func203 (by kernel_rfl) (by kernel_rfl) (by kernel_rfl) (by kernel_rfl)
  have h49 := @run_callFunc_extern Tryz.prog 123 _ (ReflectliteValue.method (ReflectliteValue.valueError "reflectlite.Value.Elem" 0) ReflectliteValue.elem) Tryz.func123 (by kernel_rfl) (by kernel_rfl) (by kernel_rfl) (by kernel_rfl)
  have h50 := @run_callFunc_extern Tryz.prog 124 _ (ReflectliteValue.set) Tryz.func124 (by kernel_rfl) (by kernel_rfl) (by kernel_rfl) (by kernel_rfl)
  have hal : a.block < w.heap.size := block_lt_of_cell ha
  have htl : t.block < w.heap.size := block_lt_of_cell ht
  have hBW : Below w.heap.size w (((w.alloc (.cells #[.pointer (some ⟨3, 84, none⟩), .pointer (some a), .int .u64 150] 110)).alloc (.cells #[.string s1, .int .i64 n1, .iface 158 (.agg #[.string s2, .int .i64 n2, .iface 79 (.string s)])] 158)).alloc (.cells #[.string s2, .int .i64 n2, .iface 79 (.string s)] 158)) := ((((Below.refl w.heap.size w).alloc (Nat.le_refl _) _).alloc (by simp only [World.size_alloc]; omega) _).alloc (by simp only [World.size_alloc]; omega) _)
  have hBF : Below w.heap.size w ((((w.alloc (.cells #[.pointer (some ⟨3, 84, none⟩), .pointer (some a), .int .u64 150] 110)).alloc (.cells #[.string s1, .int .i64 n1, .iface 158 (.agg #[.string s2, .int .i64 n2, .iface 79 (.string s)])] 158)).alloc (.cells #[.string s2, .int .i64 n2, .iface 79 (.string s)] 158)).alloc (.cells #[.string s] 79)) := (((((Below.refl w.heap.size w).alloc (Nat.le_refl _) _).alloc (by simp only [World.size_alloc]; omega) _).alloc (by simp only [World.size_alloc]; omega) _).alloc (by simp only [World.size_alloc]; omega) _)
  have HBF := Lib.hid hBF
  have tF := fx.typeOfF
  have tI := fx.typeOfI
  have mA := fx.mAssign
  have aF := fx.assignF
  have aI := fx.assignI
  have vF := fx.valueOfF s (((w.alloc (.cells #[.pointer (some ⟨3, 84, none⟩), .pointer (some a), .int .u64 150] 110)).alloc (.cells #[.string s1, .int .i64 n1, .iface 158 (.agg #[.string s2, .int .i64 n2, .iface 79 (.string s)])] 158)).alloc (.cells #[.string s2, .int .i64 n2, .iface 79 (.string s)] 158))
  have nA := fx.noAs
  have hU := fx.hasUnw
  have mU := fx.mUnw
  have el := fx.elemVP a t (((w.alloc (.cells #[.pointer (some ⟨3, 84, none⟩), .pointer (some a), .int .u64 150] 110)).alloc (.cells #[.string s1, .int .i64 n1, .iface 158 (.agg #[.string s2, .int .i64 n2, .iface 79 (.string s)])] 158)).alloc (.cells #[.string s2, .int .i64 n2, .iface 79 (.string s)] 158)) ((hBW.cell hal).trans ha)
  have st := fx.setF t ⟨w.heap.size + 1 + 1 + 1, 0, none⟩ s old ((((w.alloc (.cells #[.pointer (some ⟨3, 84, none⟩), .pointer (some a), .int .u64 150] 110)).alloc (.cells #[.string s1, .int .i64 n1, .iface 158 (.agg #[.string s2, .int .i64 n2, .iface 79 (.string s)])] 158)).alloc (.cells #[.string s2, .int .i64 n2, .iface 79 (.string s)] 158)).alloc (.cells #[.string s] 79)) (by rw [World.cell?_alloc_at _ _ _ _ (by simp)]; rfl) ((hBF.cell htl).trans ht) ((hBF.frozen htl).trans hf)
  simp only [World.size_alloc] at vF
  clear hBW hBF
  go_enter Tryz.func94, Tryz.ntmps94
  go_wp2
  refine wp_loop_rounds 3 ?_
  rw [rounds_succ]
  go_wp2
  rw [rounds_succ]
  go_wp2
  rw [rounds_succ]
  go_wp2
  go_ret
  exact ⟨rfl, (HBF.out.mono hB).setCell hBt _⟩

set_option maxRecDepth 100000 in
set_option maxHeartbeats 4000000 in
theorem as3 (s : ByteArray) (s1 : ByteArray) (n1 : Int) (s2 : ByteArray) (n2 : Int) (s3 : ByteArray) (n3 : Int) (t a : Addr) (old : Value) (w : World) (B : Nat) (hB : B ≤ w.heap.size) (hBt : B ≤ t.block) (ha : w.cell? a = some (.pointer (some t))) (ht : w.cell? t = some old) (hf : w.frozen? t = false) :
    Calls Tryz.prog 94 #[.iface 158 (.agg #[.string s1, .int .i64 n1, .iface 158 (.agg #[.string s2, .int .i64 n2, .iface 158 (.agg #[.string s3, .int .i64 n3, .iface 79 (.string s)])])]), .iface 84 (.pointer (some t)), .agg #[.pointer (some ⟨3, 84, none⟩), .pointer (some a), .int .u64 150], .iface 144 (.agg #[.pointer (some ⟨3, 79, none⟩)])] w fun e w' => e = .returned (.bool true) ∧ Below B w w' := by
  have h33 := @run_callFunc_extern Tryz.prog 91 _ (fun args => ReflectliteValue.unpack (args.getD 0 (.tuple #[]))) Tryz.func91 (by kernel_rfl) (by kernel_rfl) (by kernel_rfl) (by kernel_rfl)
  have h48 := @run_callFunc_extern Tryz.prog 122 _ (ReflectliteType.typeOf) Tryz.func122 (by kernel_rfl) (by kernel_rfl) (by kernel_rfl) (by kernel_rfl)
  have h99 := @run_callFunc_extern Tryz.prog 203 _ (ReflectliteType.relation "AssignableTo" ReflectliteType.assignableTo) Tryz.func203 (by kernel_rfl) (by kernel_rfl) (by kernel_rfl) (by kernel_rfl)
  have h49 := @run_callFunc_extern Tryz.prog 123 _ (ReflectliteValue.method (ReflectliteValue.valueError "reflectlite.Value.Elem" 0) ReflectliteValue.elem) Tryz.func123 (by kernel_rfl) (by kernel_rfl) (by kernel_rfl) (by kernel_rfl)
  have h50 := @run_callFunc_extern Tryz.prog 124 _ (ReflectliteValue.set) Tryz.func124 (by kernel_rfl) (by kernel_rfl) (by kernel_rfl) (by kernel_rfl)
  have hal : a.block < w.heap.size := block_lt_of_cell ha
  have htl : t.block < w.heap.size := block_lt_of_cell ht
  have hBW : Below w.heap.size w ((((w.alloc (.cells #[.pointer (some ⟨3, 84, none⟩), .pointer (some a), .int .u64 150] 110)).alloc (.cells #[.string s1, .int .i64 n1, .iface 158 (.agg #[.string s2, .int .i64 n2, .iface 158 (.agg #[.string s3, .int .i64 n3, .iface 79 (.string s)])])] 158)).alloc (.cells #[.string s2, .int .i64 n2, .iface 158 (.agg #[.string s3, .int .i64 n3, .iface 79 (.string s)])] 158)).alloc (.cells #[.string s3, .int .i64 n3, .iface 79 (.string s)] 158)) := (((((Below.refl w.heap.size w).alloc (Nat.le_refl _) _).alloc (by simp only [World.size_alloc]; omega) _).alloc (by simp only [World.size_alloc]; omega) _).alloc (by simp only [World.size_alloc]; omega) _)
  have hBF : Below w.heap.size w (((((w.alloc (.cells #[.pointer (some ⟨3, 84, none⟩), .pointer (some a), .int .u64 150] 110)).alloc (.cells #[.string s1, .int .i64 n1, .iface 158 (.agg #[.string s2, .int .i64 n2, .iface 158 (.agg #[.string s3, .int .i64 n3, .iface 79 (.string s)])])] 158)).alloc (.cells #[.string s2, .int .i64 n2, .iface 158 (.agg #[.string s3, .int .i64 n3, .iface 79 (.string s)])] 158)).alloc (.cells #[.string s3, .int .i64 n3, .iface 79 (.string s)] 158)).alloc (.cells #[.string s] 79)) := ((((((Below.refl w.heap.size w).alloc (Nat.le_refl _) _).alloc (by simp only [World.size_alloc]; omega) _).alloc (by simp only [World.size_alloc]; omega) _).alloc (by simp only [World.size_alloc]; omega) _).alloc (by simp only [World.size_alloc]; omega) _)
  have HBF := Lib.hid hBF
  have tF := fx.typeOfF
  have tI := fx.typeOfI
  have mA := fx.mAssign
  have aF := fx.assignF
  have aI := fx.assignI
  have vF := fx.valueOfF s ((((w.alloc (.cells #[.pointer (some ⟨3, 84, none⟩), .pointer (some a), .int .u64 150] 110)).alloc (.cells #[.string s1, .int .i64 n1, .iface 158 (.agg #[.string s2, .int .i64 n2, .iface 158 (.agg #[.string s3, .int .i64 n3, .iface 79 (.string s)])])] 158)).alloc (.cells #[.string s2, .int .i64 n2, .iface 158 (.agg #[.string s3, .int .i64 n3, .iface 79 (.string s)])] 158)).alloc (.cells #[.string s3, .int .i64 n3, .iface 79 (.string s)] 158))
  have nA := fx.noAs
  have hU := fx.hasUnw
  have mU := fx.mUnw
  have el := fx.elemVP a t ((((w.alloc (.cells #[.pointer (some ⟨3, 84, none⟩), .pointer (some a), .int .u64 150] 110)).alloc (.cells #[.string s1, .int .i64 n1, .iface 158 (.agg #[.string s2, .int .i64 n2, .iface 158 (.agg #[.string s3, .int .i64 n3, .iface 79 (.string s)])])] 158)).alloc (.cells #[.string s2, .int .i64 n2, .iface 158 (.agg #[.string s3, .int .i64 n3, .iface 79 (.string s)])] 158)).alloc (.cells #[.string s3, .int .i64 n3, .iface 79 (.string s)] 158)) ((hBW.cell hal).trans ha)
  have st := fx.setF t ⟨w.heap.size + 1 + 1 + 1 + 1, 0, none⟩ s old (((((w.alloc (.cells #[.pointer (some ⟨3, 84, none⟩), .pointer (some a), .int .u64 150] 110)).alloc (.cells #[.string s1, .int .i64 n1, .iface 158 (.agg #[.string s2, .int .i64 n2, .iface 158 (.agg #[.string s3, .int .i64 n3, .iface 79 (.string s)])])] 158)).alloc (.cells #[.string s2, .int .i64 n2, .iface 158 (.agg #[.string s3, .int .i64 n3, .iface 79 (.string s)])] 158)).alloc (.cells #[.string s3, .int .i64 n3, .iface 79 (.string s)] 158)).alloc (.cells #[.string s] 79)) (by rw [World.cell?_alloc_at _ _ _ _ (by simp)]; rfl) ((hBF.cell htl).trans ht) ((hBF.frozen htl).trans hf)
  simp only [World.size_alloc] at vF
  clear hBW hBF
  go_enter Tryz.func94, Tryz.ntmps94
  go_wp2
  refine wp_loop_rounds 4 ?_
  rw [rounds_succ]
  go_wp2
  rw [rounds_succ]
  go_wp2
  rw [rounds_succ]
  go_wp2
  rw [rounds_succ]
  go_wp2
  go_ret
  exact ⟨rfl, (HBF.out.mono hB).setCell hBt _⟩

end Go.Proofs.YtbddjneinfkmpaaGreatDoor
