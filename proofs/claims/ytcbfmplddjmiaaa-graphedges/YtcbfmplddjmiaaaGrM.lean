/- Graphs: what a graph that is cleaned is, ways, and the way down with a stack. -/
import Derived.Test.YtcbfmplddjmiaaaProg
namespace Go.Proofs.Ytcbfmplddjmiaaa

/-- The numbers below n that are told. -/
def rowE (n : Nat) (p : Nat → Bool) : List Nat := (List.range n).filter p
/-- A clean graph of n nodes. -/
def rows (n : Nat) (E : Nat → Nat → Bool) : List (List Nat) := (List.range n).map fun a => rowE n (E a)
/-- The edges of a graph as it came. -/
def edge (g : List (List Int)) (a b : Nat) : Bool := decide ((b : Int) ∈ g[a]?.getD [])
def zs (l : List Nat) : List Int := l.map fun (x : Nat) => (x : Int)
def zss (L : List (List Nat)) : List (List Int) := L.map zs

theorem mem_rowE {n : Nat} {p : Nat → Bool} {x : Nat} : x ∈ rowE n p ↔ x < n ∧ p x = true := by simp [rowE]
theorem rowE_le (n : Nat) (p : Nat → Bool) : (rowE n p).length ≤ n := by
  have := List.length_filter_le p (List.range n)
  simpa [rowE] using this
theorem rowE_congr {n : Nat} {p q : Nat → Bool} (h : ∀ x, x < n → p x = q x) : rowE n p = rowE n q := by
  unfold rowE
  exact List.filter_congr fun x hx => h x (by simpa using hx)
theorem rowE_succ (n : Nat) (p : Nat → Bool) : rowE (n + 1) p = rowE n p ++ (if p n then [n] else []) := by
  unfold rowE
  rw [List.range_succ, List.filter_append]
  congr 1
  cases h : p n <;> simp [h]
theorem rowE_rising (n : Nat) (p : Nat → Bool) : (rowE n p).Pairwise (· < ·) := List.Pairwise.filter _ List.pairwise_lt_range
theorem rows_length (n : Nat) (E : Nat → Nat → Bool) : (rows n E).length = n := by simp [rows]
theorem rows_at {n : Nat} {E : Nat → Nat → Bool} {a : Nat} (h : a < n) : (rows n E)[a]?.getD [] = rowE n (E a) := by simp [rows, h]
theorem rows_get {n : Nat} {E : Nat → Nat → Bool} {a : Nat} (h : a < n) : (rows n E)[a]? = some (rowE n (E a)) := by simp [rows, h]
theorem rows_congr {n : Nat} {E F : Nat → Nat → Bool} (h : ∀ a b, a < n → b < n → E a b = F a b) : rows n E = rows n F := by
  unfold rows
  exact List.map_congr_left fun a ha => rowE_congr fun b hb => h a b (by simpa using ha) hb
theorem rows_ext {n : Nat} {E F : Nat → Nat → Bool} (h : rows n E = rows n F) : ∀ a b, a < n → b < n → E a b = F a b := by
  intro a b ha hb
  have e := congrArg (fun L => L[a]?.getD []) h
  simp only [rows_at ha] at e
  have e2 : b ∈ rowE n (E a) ↔ b ∈ rowE n (F a) := by rw [e]
  simp only [mem_rowE, hb, true_and] at e2
  cases h1 : E a b <;> cases h2 : F a b <;> simp_all
theorem zs_length (l : List Nat) : (zs l).length = l.length := by simp [zs]
theorem zs_mem {l : List Nat} {x : Nat} : (x : Int) ∈ zs l ↔ x ∈ l := by
  unfold zs
  rw [List.mem_map]
  constructor
  · rintro ⟨y, hy, e⟩
    have : y = x := by omega
    exact this ▸ hy
  · exact fun h => ⟨x, h, rfl⟩
theorem zs_get (l : List Nat) (j : Nat) : (zs l)[j]?.getD 0 = ((l[j]?.getD 0 : Nat) : Int) := by
  unfold zs
  rw [List.getElem?_map]
  cases l[j]? <;> simp
theorem zs_inj {l m : List Nat} (h : zs l = zs m) : l = m := by
  unfold zs at h
  exact List.map_inj_right (fun x y e => by omega) |>.1 h
theorem zss_inj {l m : List (List Nat)} (h : zss l = zss m) : l = m := by
  unfold zss at h
  exact List.map_inj_right (fun x y e => zs_inj e) |>.1 h
theorem edge_rows {n : Nat} {E : Nat → Nat → Bool} {a b : Nat} (ha : a < n) (hb : b < n) : edge (zss (rows n E)) a b = E a b := by
  unfold edge zss
  rw [List.getElem?_map, rows_get ha]
  simp only [Option.map_some, Option.getD_some, zs_mem, mem_rowE, hb, true_and]
  cases E a b <;> simp

/-- There is a way, of any number of steps. -/
inductive Way (n : Nat) (E : Nat → Nat → Bool) : Nat → Nat → Prop
  | refl {a : Nat} : a < n → Way n E a a
  | step {a b c : Nat} : Way n E a b → c < n → E b c = true → Way n E a c

theorem Way.lt {n : Nat} {E : Nat → Nat → Bool} {a b : Nat} (h : Way n E a b) : a < n ∧ b < n := by
  induction h with
  | refl h => exact ⟨h, h⟩
  | step _ hc _ ih => exact ⟨ih.1, hc⟩
theorem Way.trans {n : Nat} {E : Nat → Nat → Bool} {a b c : Nat} (h : Way n E a b) (k : Way n E b c) : Way n E a c := by
  induction k with
  | refl _ => exact h
  | step _ hc he ih => exact .step ih hc he
theorem Way.one {n : Nat} {E : Nat → Nat → Bool} {a b : Nat} (ha : a < n) (hb : b < n) (he : E a b = true) : Way n E a b := .step (.refl ha) hb he
theorem Way.head {n : Nat} {E : Nat → Nat → Bool} {a b : Nat} (h : Way n E a b) : a = b ∨ ∃ s, s < n ∧ E a s = true ∧ Way n E s b := by
  induction h with
  | refl _ => exact .inl rfl
  | step h1 hc he ih =>
    rcases ih with e | ⟨s, hs, h2, h3⟩
    · exact .inr ⟨_, hc, e ▸ he, .refl hc⟩
    · exact .inr ⟨s, hs, h2, .step h3 hc he⟩
theorem Way.mono {n : Nat} {E F : Nat → Nat → Bool} {a b : Nat} (h : Way n E a b) (hEF : ∀ a b, a < n → b < n → E a b = true → F a b = true) : Way n F a b := by
  induction h with
  | refl h => exact .refl h
  | step h1 hc he ih => exact .step ih hc (hEF _ _ h1.lt.2 hc he)
theorem Way.turn {n : Nat} {E : Nat → Nat → Bool} {a b : Nat} (h : Way n E a b) : Way n (fun x y => E y x) b a := by
  induction h with
  | refl h => exact .refl h
  | step h1 hc he ih => exact (Way.one (E := fun x y => E y x) hc h1.lt.2 he).trans ih

/-! The way down. -/
structure St where
  left : List (List Nat)
  gone : List Bool
  way : List Nat
  told : List Nat

def St.isGone (s : St) (b : Nat) : Bool := s.gone[b]?.getD false
def St.leftOf (s : St) (a : Nat) : List Nat := s.left[a]?.getD []

/-- One round: the last one on the way goes on to the first that is left and was not gone to; or it is told. -/
def St.next (s : St) (a : Nat) (ws : List Nat) : List Nat → St
  | [] => { s with way := ws, told := s.told ++ [a] }
  | b :: r => ⟨s.left.set a r, s.gone.set b true, b :: a :: ws, s.told⟩
def stp (s : St) : St :=
  match s.way with
  | [] => s
  | a :: ws => s.next a ws ((s.leftOf a).dropWhile s.isGone)

def fin : Nat → St → List Nat
  | 0, s => s.told
  | f + 1, s => if s.way = [] then s.told else fin f (stp s)

def mu (s : St) : Nat := 2 * s.gone.count false + s.way.length

def st0 (n : Nat) (E : Nat → Nat → Bool) (a : Nat) : St := ⟨rows n E, (List.replicate n false).set a true, [a], []⟩
/-- All nodes that there is a way to, each behind those that were gone to from it. -/
def post (n : Nat) (E : Nat → Nat → Bool) (a : Nat) : List Nat := fin (2 * n + 1) (st0 n E a)
def order (n : Nat) (E : Nat → Nat → Bool) (a : Nat) : List Nat := if a < n then (post n E a).reverse else []

def Chain (E : Nat → Nat → Bool) : List Nat → Prop
  | b :: a :: ws => E a b = true ∧ Chain E (a :: ws)
  | _ => True

theorem chain_way {n : Nat} {E : Nat → Nat → Bool} : ∀ (ws : List Nat) (a : Nat), Chain E (a :: ws) → (∀ x ∈ a :: ws, x < n) → ∀ x ∈ a :: ws, Way n E x a
  | [], a, _, hl, x, hx => by
    simp at hx
    subst hx
    exact .refl (hl _ (by simp))
  | b :: ws, a, h, hl, x, hx => by
    rcases List.mem_cons.1 hx with rfl | hx
    · exact .refl (hl _ (by simp))
    · exact .step (chain_way ws b h.2 (fun y hy => hl y (List.mem_cons_of_mem _ hy)) x hx) (hl _ (by simp)) h.1

structure PInv (n : Nat) (E : Nat → Nat → Bool) (a0 : Nat) (s : St) : Prop where
  ll : s.left.length = n
  gl : s.gone.length = n
  gn : ∀ x, s.isGone x = true ↔ x ∈ s.told ∨ x ∈ s.way
  nd : (s.way ++ s.told).Nodup
  ch : Chain E s.way
  rc : ∀ x, (x ∈ s.told ∨ x ∈ s.way) → Way n E a0 x
  st : ∀ x b, b ∈ s.leftOf x → b < n ∧ E x b = true
  wy : ∀ x ∈ s.way, ∀ b, b < n → E x b = true → b ∈ s.leftOf x ∨ s.isGone b = true
  ng : ∀ x, x < n → s.isGone x = false → ∀ b, b < n → E x b = true → b ∈ s.leftOf x
  td : ∀ x ∈ s.told, ∀ b, b < n → E x b = true → s.isGone b = true
  od : ∀ p x q, s.told = p ++ x :: q → ∀ b, b < n → E x b = true → b ∈ p ∨ Way n E b x
  la : s.way.getLast? = some a0 ∨ (s.way = [] ∧ s.told.getLast? = some a0)
  ln : ∀ x, (s.leftOf x).length ≤ n

theorem isGone_set (s : St) {n b : Nat} (hb : b < n) (hg : s.gone.length = n) (l : List (List Nat)) (w t : List Nat) (x : Nat) : (St.mk l (s.gone.set b true) w t).isGone x = true ↔ x = b ∨ s.isGone x = true := by
  unfold St.isGone
  by_cases h : b = x
  · subst h; simp [hg, hb]
  · rw [List.getElem?_set_ne h]
    constructor
    · exact .inr
    · rintro (e | e)
      · exact absurd e.symm h
      · exact e
theorem dropWhile_cons {α : Type} (p : α → Bool) : ∀ (l : List α) (b : α) (r : List α), l.dropWhile p = b :: r → ∃ pre, l = pre ++ b :: r ∧ (∀ x ∈ pre, p x = true) ∧ p b = false
  | [], b, r, h => by simp at h
  | x :: l, b, r, h => by
    rw [List.dropWhile_cons] at h
    by_cases hx : p x = true
    · rw [if_pos hx] at h
      obtain ⟨pre, e, h1, h2⟩ := dropWhile_cons p l b r h
      exact ⟨x :: pre, by rw [e]; rfl, fun y hy => by rcases List.mem_cons.1 hy with rfl | hy; exact hx; exact h1 y hy, h2⟩
    · rw [if_neg hx] at h
      cases h
      exact ⟨[], rfl, by simp, by simpa using hx⟩
theorem dropWhile_nil {α : Type} (p : α → Bool) : ∀ (l : List α), l.dropWhile p = [] → ∀ x ∈ l, p x = true
  | [], _, x, hx => by simp at hx
  | y :: l, h, x, hx => by
    rw [List.dropWhile_cons] at h
    by_cases hy : p y = true
    · rw [if_pos hy] at h
      rcases List.mem_cons.1 hx with rfl | hx
      · exact hy
      · exact dropWhile_nil p l h x hx
    · rw [if_neg hy] at h
      cases h

theorem leftOf_set (s : St) {a n : Nat} (hl : s.left.length = n) (ha : a < n) (r : List Nat) (g : List Bool) (w t : List Nat) (x : Nat) : (St.mk (s.left.set a r) g w t).leftOf x = if x = a then r else s.leftOf x := by
  unfold St.leftOf
  by_cases h : x = a
  · subst h; simp [hl, ha]
  · rw [if_neg h, List.getElem?_set_ne (fun e => h e.symm)]

theorem split_snoc {α : Type} {t p q : List α} {a x : α} (h : t ++ [a] = p ++ x :: q) : (q = [] ∧ p = t ∧ x = a) ∨ ∃ q', q = q' ++ [a] ∧ t = p ++ x :: q' := by
  rcases List.eq_nil_or_concat q with rfl | ⟨q', y, rfl⟩
  · left
    have := List.append_inj' h (by simp)
    exact ⟨rfl, this.1.symm, by simpa using this.2.symm⟩
  · right
    rw [List.concat_eq_append] at h ⊢
    rw [← List.cons_append, ← List.append_assoc] at h
    have := List.append_inj' h (by simp)
    have hy : a = y := by simpa using this.2
    subst hy
    exact ⟨q', rfl, this.1⟩

theorem PInv.step {n : Nat} {E : Nat → Nat → Bool} {a0 : Nat} {s : St} (h : PInv n E a0 s) : PInv n E a0 (stp s) := by
  unfold stp
  split
  · exact h
  · rename_i a ws hw
    have haw : a ∈ s.way := by rw [hw]; simp
    have han : a < n := (h.rc a (.inr haw)).lt.2
    cases hd : (s.leftOf a).dropWhile s.isGone with
    | nil =>
      have hall := dropWhile_nil _ _ hd
      have hnd := h.nd
      rw [hw] at hnd
      have hmem : ∀ x, (x ∈ s.told ++ [a] ∨ x ∈ ws) ↔ (x ∈ s.told ∨ x ∈ s.way) := by
        intro x
        rw [hw]
        simp only [List.mem_append, List.mem_cons, List.not_mem_nil, or_false]
        constructor
        · rintro ((h | h) | h) <;> simp [h]
        · rintro (h | (h | h)) <;> simp [h]
      refine ⟨h.ll, h.gl, fun x => (h.gn x).trans (hmem x).symm, ?_, ?_, fun x hx => h.rc x ((hmem x).1 hx), h.st, ?_, h.ng, ?_, ?_, ?_, h.ln⟩
      · show (ws ++ (s.told ++ [a])).Nodup
        rw [← List.append_assoc]
        have hp : ((a :: ws) ++ s.told).Perm (ws ++ s.told ++ [a]) := (List.perm_append_singleton a (ws ++ s.told)).symm
        exact hp.nodup_iff.1 hnd
      · have hc := h.ch
        rw [hw] at hc
        show Chain E ws
        cases ws with
        | nil => trivial
        | cons b r => exact hc.2
      · intro x hx
        exact h.wy x (by rw [hw]; exact List.mem_cons_of_mem _ hx)
      · intro x hx b hb he
        rcases List.mem_append.1 hx with hx | hx
        · exact h.td x hx b hb he
        · simp at hx
          subst hx
          rcases h.wy x haw b hb he with h1 | h1
          · exact hall b h1
          · exact h1
      · intro p x q e b hb he
        rcases split_snoc e with ⟨rfl, rfl, rfl⟩ | ⟨q', rfl, e2⟩
        · have hg : s.isGone b = true := by
            rcases h.wy x haw b hb he with h1 | h1
            · exact hall b h1
            · exact h1
          rcases (h.gn b).1 hg with h1 | h1
          · exact .inl h1
          · right
            have hc := h.ch
            rw [hw] at hc h1
            exact chain_way ws x hc (fun y hy => (h.rc y (.inr (by rw [hw]; exact hy))).lt.2) b h1
        · exact h.od p x q' e2 b hb he
      · show ws.getLast? = some a0 ∨ (ws = [] ∧ (s.told ++ [a]).getLast? = some a0)
        rcases h.la with h1 | ⟨h1, h2⟩
        · rw [hw] at h1
          cases ws with
          | nil => simp at h1; subst h1; right; simp
          | cons b r => left; simpa using h1
        · rw [hw] at h1; cases h1
    | cons b r =>
      obtain ⟨pre, e, hpre, hbg⟩ := dropWhile_cons _ _ _ _ hd
      have hbl : b ∈ s.leftOf a := by rw [e]; simp
      obtain ⟨hbn, hab⟩ := h.st a b hbl
      have hgo : ∀ x, (St.next s a ws (b :: r)).isGone x = true ↔ x = b ∨ s.isGone x = true := isGone_set s hbn h.gl _ _ _
      have hlo : ∀ x, (St.next s a ws (b :: r)).leftOf x = if x = a then r else s.leftOf x := leftOf_set s h.ll han r _ _ _
      have hnot : ¬ (b ∈ s.told ∨ b ∈ s.way) := fun hh => by rw [(h.gn b).2 hh] at hbg; cases hbg
      have hway : (St.next s a ws (b :: r)).way = b :: s.way := by rw [hw]; rfl
      have htold : (St.next s a ws (b :: r)).told = s.told := rfl
      refine ⟨by show (s.left.set a r).length = n; rw [List.length_set]; exact h.ll, by show (s.gone.set b true).length = n; rw [List.length_set]; exact h.gl, ?_, ?_, ?_, ?_, ?_, ?_, ?_, ?_, h.od, ?_, ?_⟩
      · intro x
        rw [hgo, hway, htold, h.gn, List.mem_cons]
        constructor
        · rintro (h | h | h) <;> simp [h]
        · rintro (h | h | h) <;> simp [h]
      · rw [hway, htold, List.cons_append]
        refine List.nodup_cons.2 ⟨fun hh => hnot ?_, h.nd⟩
        rcases List.mem_append.1 hh with h1 | h1
        · exact .inr h1
        · exact .inl h1
      · rw [hway, hw]
        have hc := h.ch
        rw [hw] at hc
        exact ⟨hab, hc⟩
      · intro x hx
        rw [hway, htold, List.mem_cons] at hx
        rcases hx with hx | rfl | hx
        · exact h.rc x (.inl hx)
        · exact .step (h.rc a (.inr haw)) hbn hab
        · exact h.rc x (.inr hx)
      · intro x y hy
        rw [hlo] at hy
        split at hy
        · rename_i hxa
          subst hxa
          exact h.st _ y (by rw [e]; simp [hy])
        · exact h.st x y hy
      · intro x hx y hy he
        rw [hgo, hlo]
        rw [hway, List.mem_cons] at hx
        have key : ∀ x, (y ∈ s.leftOf x ∨ s.isGone y = true) → y ∈ (if x = a then r else s.leftOf x) ∨ (y = b ∨ s.isGone y = true) := by
          intro x hh
          rcases hh with h1 | h1
          · by_cases hxa : x = a
            · subst hxa
              rw [if_pos rfl]
              rw [e] at h1
              rcases List.mem_append.1 h1 with h2 | h2
              · exact .inr (.inr (hpre y h2))
              · rcases List.mem_cons.1 h2 with rfl | h2
                · exact .inr (.inl rfl)
                · exact .inl h2
            · rw [if_neg hxa]; exact .inl h1
          · exact .inr (.inr h1)
        rcases hx with rfl | hx
        · exact key x (.inl (h.ng x hbn hbg y hy he))
        · exact key x (h.wy x hx y hy he)
      · intro x hx hg y hy he
        have hg2 : s.isGone x = false := by
          cases hh : s.isGone x with
          | false => rfl
          | true => have := (hgo x).2 (.inr hh); rw [this] at hg; cases hg
        have hxa : x ≠ a := by
          rintro rfl
          rw [(h.gn x).2 (.inr haw)] at hg2
          cases hg2
        rw [hlo, if_neg hxa]
        exact h.ng x hx hg2 y hy he
      · intro x hx y hy he
        exact (hgo y).2 (.inr (h.td x hx y hy he))
      · left
        rw [hway, hw]
        rcases h.la with h1 | ⟨h1, _⟩
        · rw [hw] at h1
          simpa using h1
        · rw [hw] at h1; cases h1
      · intro x
        rw [hlo]
        split
        · have := h.ln a
          rw [e] at this
          simp only [List.length_append, List.length_cons] at this
          omega
        · exact h.ln x

theorem count_set_true : ∀ (l : List Bool) (b : Nat), l[b]? = some false → (l.set b true).count false + 1 = l.count false
  | [], b, h => by simp at h
  | x :: l, 0, h => by
    simp at h
    subst h
    simp
  | x :: l, b + 1, h => by
    have := count_set_true l b (by simpa using h)
    rw [List.set_cons_succ, List.count_cons, List.count_cons]
    omega

theorem mu_step {n : Nat} {E : Nat → Nat → Bool} {a0 : Nat} {s : St} (h : PInv n E a0 s) (hw : s.way ≠ []) : mu (stp s) + 1 = mu s := by
  unfold stp
  split
  · rename_i e; exact absurd e hw
  · rename_i a ws hw
    cases hd : (s.leftOf a).dropWhile s.isGone with
    | nil =>
      show 2 * s.gone.count false + ws.length + 1 = mu s
      unfold mu
      rw [hw]
      simp
      omega
    | cons b r =>
      obtain ⟨pre, e, hpre, hbg⟩ := dropWhile_cons _ _ _ _ hd
      obtain ⟨hbn, hab⟩ := h.st a b (by rw [e]; simp)
      have hbf : s.gone[b]? = some false := by
        have hlt : b < s.gone.length := by rw [h.gl]; exact hbn
        unfold St.isGone at hbg
        rw [List.getElem?_eq_getElem hlt] at hbg ⊢
        simpa using hbg
      have := count_set_true s.gone b hbf
      show 2 * (s.gone.set b true).count false + (b :: a :: ws).length + 1 = mu s
      unfold mu
      rw [hw]
      simp only [List.length_cons]
      omega

theorem fin_inv {n : Nat} {E : Nat → Nat → Bool} {a0 : Nat} : ∀ (f : Nat) (s : St), PInv n E a0 s → mu s ≤ f → ∃ s', PInv n E a0 s' ∧ s'.way = [] ∧ fin f s = s'.told
  | 0, s, h, hm => ⟨s, h, List.eq_nil_of_length_eq_zero (by unfold mu at hm; omega), rfl⟩
  | f + 1, s, h, hm => by
    by_cases hw : s.way = []
    · exact ⟨s, h, hw, by rw [fin, if_pos hw]⟩
    · have := mu_step h hw
      obtain ⟨s', h1, h2, h3⟩ := fin_inv f (stp s) h.step (by omega)
      exact ⟨s', h1, h2, by rw [fin, if_neg hw]; exact h3⟩

theorem st0_inv {n : Nat} (E : Nat → Nat → Bool) {a : Nat} (ha : a < n) : PInv n E a (st0 n E a) := by
  have hg : ∀ x, (st0 n E a).isGone x = true ↔ x = a := by
    intro x
    unfold St.isGone st0
    by_cases h : a = x
    · subst h; simp [ha]
    · show ((List.replicate n false).set a true)[x]?.getD false = true ↔ x = a
      rw [List.getElem?_set_ne h, List.getElem?_replicate]
      constructor
      · intro hh; split at hh <;> cases hh
      · rintro rfl; exact absurd rfl h
  have hl : ∀ x, x < n → (st0 n E a).leftOf x = rowE n (E x) := fun x hx => rows_at hx
  refine ⟨rows_length n E, by simp [st0], ?_, by simp [st0], trivial, ?_, ?_, ?_, ?_, ?_, ?_, .inl rfl, ?_⟩
  · intro x
    rw [hg]
    simp [st0]
  · intro x hx
    simp [st0] at hx
    subst hx
    exact .refl ha
  · intro x b hb
    by_cases hx : x < n
    · rw [hl x hx] at hb
      exact mem_rowE.1 hb
    · exfalso
      unfold St.leftOf st0 at hb
      rw [List.getElem?_eq_none (by rw [rows_length]; omega)] at hb
      simp at hb
  · intro x hx b hb he
    simp [st0] at hx
    subst hx
    rw [hl x ha]
    exact .inl (mem_rowE.2 ⟨hb, he⟩)
  · intro x hx _ b hb he
    rw [hl x hx]
    exact mem_rowE.2 ⟨hb, he⟩
  · intro x hx
    simp [st0] at hx
  · intro p x q e
    simp [st0] at e
  · intro x
    by_cases hx : x < n
    · rw [hl x hx]
      exact rowE_le n _
    · unfold St.leftOf st0
      rw [List.getElem?_eq_none (by rw [rows_length]; omega)]
      simp
theorem mu_st0 (n : Nat) (E : Nat → Nat → Bool) (a : Nat) : mu (st0 n E a) ≤ 2 * n + 1 := by
  unfold mu st0
  have h1 : ((List.replicate n false).set a true).count false ≤ ((List.replicate n false).set a true).length := List.count_le_length
  rw [List.length_set, List.length_replicate] at h1
  simp only [List.length_singleton]
  omega

/-- What the order is. -/
structure IsPost (n : Nat) (E : Nat → Nat → Bool) (a : Nat) (l : List Nat) : Prop where
  nd : l.Nodup
  way : ∀ x, x ∈ l ↔ Way n E a x
  od : ∀ p x q, l = p ++ x :: q → ∀ b, b < n → E x b = true → b ∈ p ∨ Way n E b x
  la : l.getLast? = some a

theorem post_is {n : Nat} (E : Nat → Nat → Bool) {a : Nat} (ha : a < n) : IsPost n E a (post n E a) := by
  obtain ⟨s, h, hw, e⟩ := fin_inv (2 * n + 1) (st0 n E a) (st0_inv E ha) (mu_st0 n E a)
  unfold post
  rw [e]
  have hgo : ∀ x, s.isGone x = true ↔ x ∈ s.told := fun x => by rw [h.gn, hw]; simp
  have hla : s.told.getLast? = some a := by
    rcases h.la with h1 | ⟨_, h1⟩
    · rw [hw] at h1; simp at h1
    · exact h1
  refine ⟨by have := h.nd; rw [hw] at this; simpa using this, fun x => ⟨fun hx => h.rc x (.inl hx), fun hx => ?_⟩, h.od, hla⟩
  have ha1 : a ∈ s.told := List.mem_of_getLast? hla
  induction hx with
  | refl _ => exact ha1
  | step h1 hc he ih => exact (hgo _).1 (h.td _ ih _ hc he)

theorem order_mem {n : Nat} {E : Nat → Nat → Bool} {a x : Nat} : x ∈ order n E a ↔ Way n E a x := by
  unfold order
  by_cases ha : a < n
  · rw [if_pos ha, List.mem_reverse]
    exact (post_is E ha).way x
  · rw [if_neg ha]
    constructor
    · intro h; simp at h
    · intro h; exact absurd h.lt.1 ha
theorem order_nodup (n : Nat) (E : Nat → Nat → Bool) (a : Nat) : (order n E a).Nodup := by
  unfold order
  by_cases ha : a < n
  · rw [if_pos ha]
    exact List.pairwise_reverse.2 ((post_is E ha).nd.imp fun h => h.symm)
  · rw [if_neg ha]; exact List.nodup_nil
theorem order_lt {n : Nat} {E : Nat → Nat → Bool} {a x : Nat} (h : x ∈ order n E a) : x < n := (order_mem.1 h).lt.2
theorem nodup_length : ∀ (n : Nat) (l : List Nat), l.Nodup → (∀ x ∈ l, x < n) → l.length ≤ n
  | 0, l, _, hl => by
    cases l with
    | nil => simp
    | cons x r => exact absurd (hl x (by simp)) (Nat.not_lt_zero _)
  | n + 1, l, hnd, hl => by
    by_cases hn : n ∈ l
    · have h1 := List.length_erase_of_mem hn
      have h2 := nodup_length n (l.erase n) (hnd.sublist (List.erase_sublist)) fun x hx => by
        have := hl x (List.mem_of_mem_erase hx)
        have hne : x ≠ n := fun e => by subst e; exact hnd.not_mem_erase hx
        omega
      omega
    · have := nodup_length n l hnd fun x hx => by
        have := hl x hx
        have hne : x ≠ n := fun e => hn (e ▸ hx)
        omega
      omega
theorem order_length (n : Nat) (E : Nat → Nat → Bool) (a : Nat) : (order n E a).length ≤ n := nodup_length n _ (order_nodup n E a) fun _ hx => order_lt hx

theorem post_congr {n : Nat} {E F : Nat → Nat → Bool} (h : ∀ a b, a < n → b < n → E a b = F a b) (a : Nat) : post n E a = post n F a := by
  unfold post st0
  rw [rows_congr h]
theorem order_congr {n : Nat} {E F : Nat → Nat → Bool} (h : ∀ a b, a < n → b < n → E a b = F a b) (a : Nat) : order n E a = order n F a := by
  unfold order
  rw [post_congr h]
end Go.Proofs.Ytcbfmplddjmiaaa
