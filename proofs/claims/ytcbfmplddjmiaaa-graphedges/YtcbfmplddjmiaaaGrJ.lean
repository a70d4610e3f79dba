/- Graphs: With, Without. -/
import Derived.Test.YtcbfmplddjmiaaaGrI
namespace Go.Proofs.Ytcbfmplddjmiaaa
open Go Go.RowKit Go.Sort

/-- With an edge, without one. -/
def withI (E : Nat → Nat → Bool) (a b : Int) (p q : Nat) : Bool := E p q || (decide ((p : Int) = a) && decide ((q : Int) = b))
def cutI (E : Nat → Nat → Bool) (a b : Int) (p q : Nat) : Bool := E p q && !(decide ((p : Int) = a) && decide ((q : Int) = b))

theorem row_with {n : Nat} {E : Nat → Nat → Bool} {x y : Nat} (hy : y < n) (hno : (y : Int) ∉ zs (rowE n (E x))) :
    (zs (rowE n (E x))).take ((zs (rowE n (E x))).countP (· < (y : Int))) ++ (y : Int) :: (zs (rowE n (E x))).drop ((zs (rowE n (E x))).countP (· < (y : Int))) = zs (rowE n (withI E (x : Int) (y : Int) x)) := by
  refine rising_ext (put_rising _ _ (zs_rising (rowE_rising _ _)) hno) (zs_rising (rowE_rising _ _)) fun z => ?_
  rw [put_mem]
  unfold zs
  rw [List.mem_map, List.mem_map]
  constructor
  · rintro (rfl | ⟨k, hk, rfl⟩)
    · exact ⟨y, mem_rowE.2 ⟨hy, by simp [withI]⟩, rfl⟩
    · obtain ⟨h1, h2⟩ := mem_rowE.1 hk
      exact ⟨k, mem_rowE.2 ⟨h1, by simp [withI, h2]⟩, rfl⟩
  · rintro ⟨k, hk, rfl⟩
    obtain ⟨h1, h2⟩ := mem_rowE.1 hk
    unfold withI at h2
    rcases Bool.or_eq_true _ _ ▸ h2 with h | h
    · exact .inr ⟨k, mem_rowE.2 ⟨h1, h⟩, rfl⟩
    · simp at h; exact .inl (by omega)
theorem row_with_there {n : Nat} {E : Nat → Nat → Bool} {x y : Nat} (hyes : (y : Int) ∈ zs (rowE n (E x))) : rowE n (E x) = rowE n (withI E (x : Int) (y : Int) x) := by
  rw [zs_mem, mem_rowE] at hyes
  refine rowE_congr fun k _ => ?_
  unfold withI
  by_cases e : k = y
  · subst e; simp [hyes.2]
  · have : ¬ (k : Int) = (y : Int) := by omega
    simp [this]
theorem row_other {n : Nat} {E : Nat → Nat → Bool} {a b : Int} {j : Nat} (h : ¬ (j : Int) = a) : rowE n (withI E a b j) = rowE n (E j) ∧ rowE n (cutI E a b j) = rowE n (E j) := by
  constructor <;> exact rowE_congr fun k _ => by simp [withI, cutI, h]
theorem row_cut {n : Nat} {E : Nat → Nat → Bool} {x y : Nat} (hyes : (y : Int) ∈ zs (rowE n (E x))) :
    (zs (rowE n (E x))).take ((zs (rowE n (E x))).countP (· < (y : Int))) ++ (zs (rowE n (E x))).drop ((zs (rowE n (E x))).countP (· < (y : Int)) + 1) = zs (rowE n (cutI E (x : Int) (y : Int) x)) := by
  have hr : (zs (rowE n (E x))).Pairwise (· < ·) := zs_rising (rowE_rising _ _)
  refine rising_ext ?_ (zs_rising (rowE_rising _ _)) fun z => ?_
  · have h2 := (cut_split _ _ hr hyes).2
    have h3 : ((zs (rowE n (E x))).take ((zs (rowE n (E x))).countP (· < (y : Int))) ++ (zs (rowE n (E x))).drop ((zs (rowE n (E x))).countP (· < (y : Int)) + 1)).Sublist (zs (rowE n (E x))) := by
      conv => rhs; rw [h2]
      exact List.Sublist.append_left (List.sublist_cons_self _ _) _
    exact hr.sublist h3
  · rw [cut_mem _ _ hr hyes]
    unfold zs
    rw [List.mem_map, List.mem_map]
    constructor
    · rintro ⟨⟨k, hk, rfl⟩, hne⟩
      obtain ⟨h1, h2⟩ := mem_rowE.1 hk
      exact ⟨k, mem_rowE.2 ⟨h1, by simp [cutI, h2]; omega⟩, rfl⟩
    · rintro ⟨k, hk, rfl⟩
      obtain ⟨h1, h2⟩ := mem_rowE.1 hk
      unfold cutI at h2
      simp at h2
      exact ⟨⟨k, mem_rowE.2 ⟨h1, h2.1⟩, rfl⟩, by have := h2.2; omega⟩
theorem row_cut_no {n : Nat} {E : Nat → Nat → Bool} {x : Nat} {b : Int} (hno : b ∉ zs (rowE n (E x))) : rowE n (E x) = rowE n (cutI E (x : Int) b x) := by
  refine rowE_congr fun k hk => ?_
  unfold cutI
  by_cases e : (k : Int) = b
  · subst e
    have : E x k = false := by
      cases h : E x k with
      | false => rfl
      | true => exact absurd (zs_mem.2 (mem_rowE.2 ⟨hk, h⟩)) hno
    simp [this]
  · simp [e]
theorem rows_same {n : Nat} {E F : Nat → Nat → Bool} (h : ∀ j, j < n → rowE n (E j) = rowE n (F j)) : rows n E = rows n F := by
  unfold rows
  exact List.map_congr_left fun a ha => h a (by simpa using ha)

theorem isG_put {B n : Nat} {W : World} {gb : Nat} {R : Nat → Value} {L : Nat → List Int} {F : Nat → Nat → Bool} (h : GOwn B W gb n R L) (hL : ∀ j, j < n → L j = zs (rowE n (F j))) : isG n (zss (rows n F)) (.slice (some ⟨gb, 0, none⟩) n n) W :=
  isG_of (h.congr hL)

set_option maxRecDepth 100000 in
set_option maxHeartbeats 8000000 in
theorem With_g (av : Option Addr) (g : List (List Int)) (cap n : Nat) (a b : Int) (w : World) (hG : GIs w.heap.size w av g) (hF : FewG g) (hn : g.length = n) (E : Nat → Nat → Bool) (hE : ∀ x y, x < n → y < n → edge g x y = E x y) :
    Calls Try.prog 22 #[.slice av n cap, .int .i64 a, .int .i64 b] w fun e w' => ∃ v, e = .returned v ∧ Below w.heap.size w w' ∧ isG n (zss (rows n (withI E a b))) v w' := by
  have hn40 : n ≤ 40 := hn ▸ hF.1
  have HC : Hid (Calls Try.prog 12 #[.slice av n cap] w fun e w' => ∃ gb R, e = .returned (.slice (some ⟨gb, 0, none⟩) n n) ∧ GOwn w.heap.size w' gb n R (fun j => zs (rowE n (E j))) ∧ Below w.heap.size w w') :=
    Lib.hid ((Clean_any av g cap w hG hF n hn).mono fun _ _ ⟨gb, R, he, ho, hb⟩ => ⟨gb, R, he, ho.congr fun j hj => by rw [rowE_congr fun y hy => hE j y hj hy], hb⟩)
  clear hG hF hn hE
  by_cases ha : 0 ≤ a ∧ a < (n : Int)
  · obtain ⟨x, rfl⟩ : ∃ x : Nat, a = (x : Int) := ⟨a.toNat, by omega⟩
    have HA : Hid (∀ W v c, Calls Try.prog 33 #[.slice v n c, .int .i64 (x : Int)] W fun e w' => e = .returned (.bool true) ∧ W = w') := Lib.hid fun W v c => (isNode_any v n c x W).mono fun _ _ ⟨h1, h2⟩ => ⟨by rw [h1]; simp only [ha, and_self, decide_true], h2.symm⟩
    have hx : x < n := by omega
    have hxi : (x : Int) < (n : Int) := ha.2
    by_cases hb : 0 ≤ b ∧ b < (n : Int)
    · obtain ⟨y, rfl⟩ : ∃ y : Nat, b = (y : Int) := ⟨b.toNat, by omega⟩
      have HB : Hid (∀ W v c, Calls Try.prog 33 #[.slice v n c, .int .i64 (y : Int)] W fun e w' => e = .returned (.bool true) ∧ W = w') := Lib.hid fun W v c => (isNode_any v n c y W).mono fun _ _ ⟨h1, h2⟩ => ⟨by rw [h1]; simp only [hb, and_self, decide_true], h2.symm⟩
      have hy : y < n := by omega
      clear ha hb
      go_enter Try.func22, Try.ntmps22
      go_upto_region 4 with (first
        | (go_at_call 12; refine HC.out.mono ?_; rintro e w1 ⟨gb, R, rfl, ho, hb1⟩; have HO := Lib.hid ho; have HB1 := Lib.hid hb1; clear ho hb1)
        | (go_at_call_of 33 (Value.int .i64 (x : Int)); refine (HA.out _ _ _).mono ?_; rintro e w2 ⟨rfl, rfl⟩)
        | (go_at_call_of 33 (Value.int .i64 (y : Int)); refine (HB.out _ _ _).mono ?_; rintro e w3 ⟨rfl, rfl⟩))
      obtain ⟨ra, rc, hR, hrl, hll, hI, hrb⟩ := is_own (HO.out.row x hx)
      have hcx := HO.out.top.cell hx
      rw [hR] at hcx
      have hrow := HO.out.row x hx
      rw [hR] at hrow
      have HI := Lib.hid hI
      have HR := Lib.hid hR
      have HRO := Lib.hid (fun (h : (y : Int) ∉ zs (rowE n (E x))) => row_with hy h)
      have HRT := Lib.hid (fun (h : (y : Int) ∈ zs (rowE n (E x))) => row_with_there h)
      have HRS := Lib.hid (zs_rising (rowE_rising n (E x)))
      have HLE : Hid ((zs (rowE n (E x))).length ≤ 40) := by have := rowE_le n (E x); show _ ≤ _; rw [zs_length]; omega
      obtain ⟨l, hl⟩ : ∃ l, zs (rowE n (E x)) = l := ⟨_, rfl⟩
      rw [hl] at HI HRO HRT HRS HLE hrow hcx HR
      have HLL := Lib.hid hl
      have HSE := Lib.hid (SearchO ra l rc (y : Int) w1 HI.out (by have := HLE.out; omega) HRS.out)
      obtain ⟨L, hL⟩ : ∃ L, l.length = L := ⟨_, rfl⟩
      rw [hL] at HLE hrow hcx HR HSE
      have HL := Lib.hid hL
      obtain ⟨i, hi⟩ : ∃ i, l.countP (· < (y : Int)) = i := ⟨_, rfl⟩
      have hiL : i ≤ L := by rw [← hi, ← hL]; exact List.countP_le_length
      rw [hi] at HRO HSE
      have HROW := Lib.hid hrow
      clear hR hrl hll hI hrb hl hL hi hrow
      by_cases hth : (y : Int) ∈ l
      · have hd : decide ((y : Int) ∈ l) = true := by simpa using hth
        rw [hd] at HSE
        have hrt := HRT.out hth
        have HRT2 := Lib.hid hrt
        clear hth hd hrt
        go_wp2_with (go_at_call 37; refine HSE.out.mono ?_; rintro e w4 ⟨rfl, hb4⟩; have HB4 := Lib.hid hb4; clear hb4)
        go_ret
        refine ⟨_, rfl, HB1.out.trans (HB4.out.mono HB1.out.size), isG_put (HO.out.below HB4.out) fun j hj => ?_⟩
        by_cases e : j = x
        · subst e; rw [HRT2.out]
        · rw [(row_other (b := (y : Int)) (by omega : ¬ (j : Int) = (x : Int))).1]
      · have hd : decide ((y : Int) ∈ l) = false := by simpa using hth
        rw [hd] at HSE
        have hro := HRO.out hth
        have HRO2 := Lib.hid hro
        clear hth hd hro
        go_upto_region 6 with (go_at_call 37; refine HSE.out.mono ?_; rintro e w4 ⟨rfl, hb4⟩; have HB4 := Lib.hid hb4; clear hb4)
        have HO4 := Lib.hid (HO.out.below HB4.out)
        have hcx4 := HO4.out.top.cell hx
        rw [HR.out] at hcx4
        have HRW4 := Lib.hid ((owns_kept HROW.out HB4.out).alloc (.cells #[.int .i64 (y : Int)] 3))
        have hrlt : ∀ k, (Value.slice ra L rc).ownBlock = some k → k < w4.heap.size := fun k hk => (HO4.out.row x hx |>.lt k (by rw [HR.out]; exact hk)).2
        have hbs : w.heap.size ≤ w4.heap.size := Nat.le_trans HB1.out.size HB4.out.size
        have HINS := Lib.hid (InsertO (i := i) (vb := w4.heap.size) (x := (y : Int)) HRW4.out (by have := HLE.out; omega) hiL (heap_alloc_new w4 _) (fun e => by have := hrlt _ e; omega) (by rw [World.size_alloc]; omega))
        clear hcx hrlt
        go_wp2_with (go_at_call 38; refine HINS.out.mono ?_; rintro e w5 ⟨v', rfl, ho5, hg5, hn5⟩; obtain ⟨va, vc, rfl, -⟩ := is_own ho5; obtain ⟨hg6, hcy6, hfy6⟩ := turn_row HO4.out hx HR.out hg5; have HO5 := Lib.hid ho5; have HG5 := Lib.hid hg6; have HN5 := Lib.hid (near_old hn5); clear ho5 hg5 hn5 hg6 hcx4)
        go_ret
        have hlen : (l.take i ++ (y : Int) :: l.drop i).length = L + 1 := by
          have := HL.out
          simp
          omega
        have hnear : (Value.slice va (L + 1) vc).ownBlock = (R x).ownBlock ∨ ∃ k, (Value.slice va (L + 1) vc).ownBlock = some k ∧ w4.heap.size ≤ k := by rw [HR.out]; exact HN5.out
        have hput := HO4.out.appendAt hx (v := .slice va (L + 1) vc) (l := l.take i ++ (y : Int) :: l.drop i) HG5.out (by rw [hlen]; exact HO5.out) hnear
        refine ⟨_, rfl, ?_, isG_put hput fun j hj => ?_⟩
        · refine Below.setCell (p := ⟨gb, x, none⟩) ?_ HO.out.base _
          refine (HB1.out.trans (HB4.out.mono HB1.out.size)).grown HG5.out hbs (fun k hk => ?_)
          exact (HO4.out.row x hx).lt k hk |>.1
        · by_cases e : j = x
          · subst e; simp only [if_true]; exact HRO2.out
          · simp only [e, if_false]
            rw [(row_other (b := (y : Int)) (by omega : ¬ (j : Int) = (x : Int))).1]
    · have HB : Hid (∀ W v c, Calls Try.prog 33 #[.slice v n c, .int .i64 b] W fun e w' => e = .returned (.bool false) ∧ W = w') := Lib.hid fun W v c => (isNode_any v n c b W).mono fun _ _ ⟨h1, h2⟩ => ⟨by rw [h1]; simp only [hb, decide_false], h2.symm⟩
      have hne : ¬ (x : Int) = b := fun e => hb (by omega)
      have HQ : Hid (∀ j, j < n → rowE n (E j) = rowE n (withI E (x : Int) b j)) := Lib.hid fun j _ => rowE_congr fun k hk => by
        have : ¬ (k : Int) = b := fun e => hb (by omega)
        simp [withI, this]
      clear ha hb
      go_enter Try.func22, Try.ntmps22
      go_wp2_with (first
        | (go_at_call 12; refine HC.out.mono ?_; rintro e w1 ⟨gb, R, rfl, ho, hb1⟩; have HO := Lib.hid ho; have HB1 := Lib.hid hb1; clear ho hb1)
        | (go_at_call_of 33 (Value.int .i64 (x : Int)); refine (HA.out _ _ _).mono ?_; rintro e w2 ⟨rfl, rfl⟩)
        | (go_at_call_of 33 (Value.int .i64 b); refine (HB.out _ _ _).mono ?_; rintro e w3 ⟨rfl, rfl⟩))
      go_ret
      exact ⟨_, rfl, HB1.out, isG_put HO.out fun j hj => by rw [HQ.out j hj]⟩
  · have HA : Hid (∀ W v c, Calls Try.prog 33 #[.slice v n c, .int .i64 a] W fun e w' => e = .returned (.bool false) ∧ W = w') := Lib.hid fun W v c => (isNode_any v n c a W).mono fun _ _ ⟨h1, h2⟩ => ⟨by rw [h1]; simp only [ha, decide_false], h2.symm⟩
    have HQ : Hid (∀ j, j < n → rowE n (E j) = rowE n (withI E a b j)) := Lib.hid fun j hj => (row_other (fun e => ha (by omega))).1.symm
    clear ha
    go_enter Try.func22, Try.ntmps22
    go_wp2_with (first
      | (go_at_call 12; refine HC.out.mono ?_; rintro e w1 ⟨gb, R, rfl, ho, hb1⟩; have HO := Lib.hid ho; have HB1 := Lib.hid hb1; clear ho hb1)
      | (go_at_call 33; refine (HA.out _ _ _).mono ?_; rintro e w2 ⟨rfl, rfl⟩))
    go_ret
    exact ⟨_, rfl, HB1.out, isG_put HO.out fun j hj => by rw [HQ.out j hj]⟩
end Go.Proofs.Ytcbfmplddjmiaaa
