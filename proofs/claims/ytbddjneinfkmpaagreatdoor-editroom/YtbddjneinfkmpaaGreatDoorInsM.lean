/- Instructions: the pure side. -/
import GoSem.Claim
namespace Go.Proofs.YtbddjneinfkmpaaGreatDoor
open Go

/-- An instruction: its eleven numbers, in their order. -/
structure Ins where
  id : Int
  kind : Int
  dst : Int
  a : Int
  b : Int
  c : Int
  f : Int
  n : Int
  x0 : Int
  x1 : Int
  x2 : Int
  deriving DecidableEq
def Ins.cells (i : Ins) : List Value := [.int .i64 i.id, .int .i64 i.kind, .int .i64 i.dst, .int .i64 i.a, .int .i64 i.b, .int .i64 i.c, .int .i64 i.f, .int .i64 i.n, .int .i64 i.x0, .int .i64 i.x1, .int .i64 i.x2]
def Ins.args (i : Ins) : List Int := [i.x0, i.x1, i.x2]
def hasDst (k : Int) : Bool := decide (0 ≤ k ∧ k ≤ 7)
def hasA (k : Int) : Bool := decide ((1 ≤ k ∧ k ≤ 5) ∨ k = 8 ∨ k = 9)
def hasB (k : Int) : Bool := decide (3 ≤ k ∧ k ≤ 5)
/-- A number that is had, or 0. -/
def noneB (had : Bool) (n : Int) : Bool := (had && decide (0 ≤ n)) || decide (n = 0)
/-- May an instruction be? -/
def Ins.form (i : Ins) : Prop :=
  0 ≤ i.kind ∧ i.kind ≤ 9 ∧ 0 ≤ i.id ∧ i.id ≤ 95 ∧ 0 ≤ i.n ∧ i.n ≤ 3 ∧ noneB (hasDst i.kind) i.dst = true ∧ noneB (hasA i.kind) i.a = true ∧ noneB (hasB i.kind) i.b = true ∧ noneB (decide (i.kind = 7)) i.f = true ∧ noneB (decide (i.kind = 7)) i.n = true ∧
  (i.kind ≠ 0 → i.c = 0) ∧ -2147483648 ≤ i.c ∧ i.c ≤ 2147483647 ∧ noneB (decide (0 < i.n)) i.x0 = true ∧ noneB (decide (1 < i.n)) i.x1 = true ∧ noneB (decide (2 < i.n)) i.x2 = true
instance (i : Ins) : Decidable i.form := by unfold Ins.form; infer_instance
def Ins.defn (i : Ins) : Int := if i.form ∧ hasDst i.kind = true then i.dst else -1
/-- With a number, if it is not there. -/
def addL (l : List Int) (x : Int) : List Int := if x ∈ l then l else l ++ [x]
def addIf (p : Bool) (l : List Int) (x : Int) : List Int := if p then addL l x else l
def Ins.uses (i : Ins) : List Int := if i.form then (i.args.take i.n.toNat).foldl addL (addIf (hasB i.kind) (addIf (hasA i.kind) [] i.a) i.b) else []
theorem mem_addL (l : List Int) (x y : Int) : y ∈ addL l x ↔ y ∈ l ∨ y = x := by
  unfold addL
  split
  · rename_i h
    constructor
    · exact .inl
    · rintro (h' | rfl)
      · exact h'
      · exact h
  · simp
theorem addL_nodup {l : List Int} (h : l.Nodup) (x : Int) : (addL l x).Nodup := by
  unfold addL
  split
  · exact h
  · rename_i hx
    rw [List.nodup_append]
    exact ⟨h, by simp, fun a ha b hb => by simp at hb; subst hb; exact fun e => hx (e ▸ ha)⟩
theorem addL_length (l : List Int) (x : Int) : (addL l x).length ≤ l.length + 1 := by
  unfold addL; split <;> simp
theorem addIf_nodup {l : List Int} (h : l.Nodup) (p : Bool) (x : Int) : (addIf p l x).Nodup := by
  unfold addIf; split
  · exact addL_nodup h x
  · exact h
theorem foldl_addL_nodup (m : List Int) : ∀ {l : List Int}, l.Nodup → (m.foldl addL l).Nodup := by
  induction m with
  | nil => intro l h; exact h
  | cons x r ih => intro l h; exact ih (addL_nodup h x)
theorem mem_foldl_addL (m : List Int) : ∀ (l : List Int) (y : Int), y ∈ m.foldl addL l ↔ y ∈ l ∨ y ∈ m := by
  induction m with
  | nil => intro l y; simp
  | cons x r ih =>
    intro l y
    rw [List.foldl_cons, ih, mem_addL, List.mem_cons]
    constructor
    · rintro ((h | h) | h)
      · exact .inl h
      · exact .inr (.inl h)
      · exact .inr (.inr h)
    · rintro (h | h | h)
      · exact .inl (.inl h)
      · exact .inl (.inr h)
      · exact .inr h
theorem uses_nodup (i : Ins) : i.uses.Nodup := by
  unfold Ins.uses
  split
  · exact foldl_addL_nodup _ (addIf_nodup (addIf_nodup List.nodup_nil _ _) _ _)
  · exact List.nodup_nil
/-- Two lists that rise and have the same numbers are one. -/
theorem rising_ext : ∀ {l m : List Int}, l.Pairwise (· < ·) → m.Pairwise (· < ·) → (∀ x, x ∈ l ↔ x ∈ m) → l = m
  | [], [], _, _, _ => rfl
  | [], y :: m, _, _, h => absurd ((h y).2 (by simp)) (by simp)
  | x :: l, [], _, _, h => absurd ((h x).1 (by simp)) (by simp)
  | x :: l, y :: m, hl, hm, h => by
    rw [List.pairwise_cons] at hl hm
    have hxy : x = y := by
      have h1 : x ∈ y :: m := (h x).1 (by simp)
      have h2 : y ∈ x :: l := (h y).2 (by simp)
      rcases List.mem_cons.1 h1 with e | e
      · exact e
      · rcases List.mem_cons.1 h2 with e' | e'
        · exact e'.symm
        · have := hm.1 x e
          have := hl.1 y e'
          omega
    subst hxy
    rw [rising_ext hl.2 hm.2 fun z => ?_]
    constructor
    · intro hz
      rcases List.mem_cons.1 ((h z).1 (List.mem_cons_of_mem _ hz)) with rfl | e
      · exact absurd (hl.1 _ hz) (by omega)
      · exact e
    · intro hz
      rcases List.mem_cons.1 ((h z).2 (List.mem_cons_of_mem _ hz)) with rfl | e
      · exact absurd (hm.1 _ hz) (by omega)
      · exact e
/-- A number put where it belongs. -/
def insL (x : Int) : List Int → List Int
  | [] => [x]
  | y :: l => if x < y then x :: y :: l else if x = y then y :: l else y :: insL x l
def sortL (l : List Int) : List Int := l.foldr insL []
theorem mem_insL (x z : Int) : ∀ l, z ∈ insL x l ↔ z = x ∨ z ∈ l
  | [] => by simp [insL]
  | y :: l => by
    unfold insL
    split
    · simp
    · split
      · rename_i h; subst h; simp
      · simp only [List.mem_cons, mem_insL x z l]
        constructor
        · rintro (h | h | h)
          · exact .inr (.inl h)
          · exact .inl h
          · exact .inr (.inr h)
        · rintro (h | h | h)
          · exact .inr (.inl h)
          · exact .inl h
          · exact .inr (.inr h)
theorem insL_rising (x : Int) : ∀ {l : List Int}, l.Pairwise (· < ·) → (insL x l).Pairwise (· < ·)
  | [], _ => by simp [insL]
  | y :: l, h => by
    have h' := List.pairwise_cons.1 h
    unfold insL
    split
    · rename_i hx
      refine List.pairwise_cons.2 ⟨fun z hz => ?_, h⟩
      rcases List.mem_cons.1 hz with rfl | hz
      · exact hx
      · have := h'.1 z hz; omega
    · split
      · exact h
      · refine List.pairwise_cons.2 ⟨fun z hz => ?_, insL_rising x h'.2⟩
        rcases (mem_insL x z l).1 hz with rfl | hz
        · omega
        · exact h'.1 z hz
theorem mem_sortL (z : Int) : ∀ l, z ∈ sortL l ↔ z ∈ l
  | [] => by simp [sortL]
  | x :: l => by
    show z ∈ insL x (sortL l) ↔ _
    rw [mem_insL, mem_sortL z l, List.mem_cons]
theorem sortL_rising : ∀ l, (sortL l).Pairwise (· < ·)
  | [] => by simp [sortL]
  | x :: l => insL_rising x (sortL_rising l)
/-- All its variables, rising. -/
def Ins.vars (i : Ins) : List Int := sortL (if 0 ≤ i.defn then addL i.uses i.defn else i.uses)
theorem form_dst {i : Ins} (h : i.form) : 0 ≤ i.dst := by
  have := h.2.2.2.2.2.2.1
  simp [noneB] at this
  omega
theorem defn_neg (i : Ins) : i.defn < 0 ↔ ¬ (i.form ∧ hasDst i.kind = true) := by
  unfold Ins.defn
  split
  · rename_i h
    have := form_dst h.1
    constructor
    · intro g; omega
    · intro g; exact absurd h g
  · rename_i h
    exact ⟨fun _ => h, fun _ => by omega⟩
end Go.Proofs.YtbddjneinfkmpaaGreatDoor
