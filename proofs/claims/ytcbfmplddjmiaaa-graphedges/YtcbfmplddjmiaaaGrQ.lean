/- Graphs: Path. -/
import Derived.Test.YtcbfmplddjmiaaaGrT
namespace Go.Proofs.Ytcbfmplddjmiaaa
open Go Go.RowKit Go.Sort

theorem Contains_any (a : Option Addr) (l : List Int) (c : Nat) (x : Int) (w : World) (hI : Is w.heap.size w a l) (hl : l.length ≤ 1000) :
    Calls Try.prog 41 #[.slice a l.length c, .int .i64 x] w fun e w' => e = .returned (.bool (decide (x ∈ l))) ∧ w' = w := by
  cases l with
  | nil => exact (Any.slices_Contains_int_empty Try.lays107 a c x w).mono fun e w' ⟨h1, h2⟩ => ⟨by simpa using h1, h2⟩
  | cons y r =>
    obtain ⟨b, o, rfl, hb, h0⟩ := hI 0 (by simp)
    refine (Any.slices_Contains_int Try.lays107 b o (y :: r).length c (y :: r) x w (Nat.le_refl _) (by omega) (fun j hj => ?_)).mono fun e w' ⟨h1, h2⟩ => ⟨?_, h2⟩
    · obtain ⟨b', o', e, _, h1⟩ := hI j hj
      cases e
      rw [h1, List.getD_eq_getElem?_getD]
    · rw [h1, List.take_of_length_le (Nat.le_refl _)]
      simp [List.contains_eq_mem]

set_option maxRecDepth 100000 in
set_option maxHeartbeats 4000000 in
theorem last_any (b3 b5 : Nat) (a : Option Addr) (g : List (List Int)) (cap n y k : Nat) (w : World) (h3 : w.cell? ⟨b3, 0, none⟩ = some (.slice a n cap)) (h5 : w.cell? ⟨b5, 0, none⟩ = some (.int .i64 (y : Int)))
    (hG : GIs w.heap.size w a g) (hF : FewG g) (hn : g.length = n) (hk : k < n) :
    Calls Try.prog 40 #[.int .i64 (k : Int), .pointer (some ⟨b3, 0, none⟩), .pointer (some ⟨b5, 0, none⟩)] w fun e w' => e = .returned (.bool (edge g k y)) ∧ Below w.heap.size w w' := by
  have hki : (k : Int) < (n : Int) := by omega
  obtain ⟨b, o, ra, rc, rfl, hb, e1, hI⟩ := hG k (by omega)
  have hl := hF.2 k
  have hC : ∀ m, Calls Try.prog 41 #[.slice ra (g[k]?.getD []).length rc, .int .i64 (y : Int)] (w.drewN m) fun e w'' => e = .returned (.bool (edge g k y)) ∧ ∃ j, w'' = w.drewN j := fun m =>
    Calls.quiet_of_same (Contains_any ra (g[k]?.getD []) rc (y : Int) (w.drewN m) (hI.below (below_drewN (Below.refl _ _) m)) (by omega))
  generalize edge g k y = r at *
  obtain ⟨L, hL⟩ : ∃ L, (g[k]?.getD []).length = L := ⟨_, rfl⟩
  rw [hL] at e1 hC
  have HC := Lib.hid hC
  clear hI hl hL hG hF hC hn
  go_enter Try.func40, Try.ntmps40
  go_wp2
  go_quiet (exact HC.out _)
  go_wp2
  go_ret
  exact ⟨rfl, below_drewN (Below.refl _ _) _⟩

set_option maxRecDepth 100000 in
set_option maxHeartbeats 4000000 in
theorem IndexFunc_any (b3 b5 : Nat) (a ua : Option Addr) (g : List (List Int)) (ks : List Nat) (cap n y uc L : Nat) (w : World) (h3 : w.cell? ⟨b3, 0, none⟩ = some (.slice a n cap)) (h5 : w.cell? ⟨b5, 0, none⟩ = some (.int .i64 (y : Int)))
    (hG : GIs w.heap.size w a g) (hF : FewG g) (hn : g.length = n) (hI : Is w.heap.size w ua (zs ks)) (hL : ks.length = L) (hL40 : L ≤ 40) (hks : ∀ k ∈ ks, k < n) :
    Calls Try.prog 50 #[.slice ua L uc, .func (.func 40) #[] #[.pointer (some ⟨b3, 0, none⟩), .pointer (some ⟨b5, 0, none⟩)]] w
      fun e w' => ∃ r : Int, e = .returned (.int .i64 r) ∧ decide (0 ≤ r) = ks.any (fun k => edge g k y) ∧ Below w.heap.size w w' := by
  have HL := Lib.hid (fun W (h : Below w.heap.size w W) k (hk : k < n) => last_any b3 b5 a g cap n y k W ((h.cell (p := ⟨b3, 0, none⟩) (block_lt_of_cell h3)).trans h3) ((h.cell (p := ⟨b5, 0, none⟩) (block_lt_of_cell h5)).trans h5) (hG.on h) hF hn hk)
  have HI := Lib.hid hI
  have HLL := Lib.hid hL
  have HKS := Lib.hid hks
  generalize edge g = E at *
  clear h3 h5 hG hF hn hI hL hks
  go_enter Try.func50, Try.ntmps50
  go_wp2_with fail
  go_loopw [8] (fun i wr => ∃ q : Nat, q ≤ L ∧ i = .int .i64 q ∧ Hid (∀ j, j < q → E (ks[j]?.getD 0) y = false) ∧ Hid (Below w.heap.size w wr)) (fun i _ => L - (intOf i).toNat)
  case atStart => exact ⟨0, Nat.zero_le _, rfl, fun j hj => absurd hj (Nat.not_lt_zero _), Below.refl _ _⟩
  case round =>
    obtain ⟨q, hq, rfl, hno, hB⟩ := hrel
    by_cases hlt : q < L
    · have hqi : (q : Int) < (L : Int) := by omega
      obtain ⟨b, o, rfl, hb, e1⟩ := HI.out q (by rw [zs_length, HLL.out]; exact hlt)
      have hcs := (hB.out.cell (p := ⟨b, o + q, none⟩) hb).trans e1
      obtain ⟨k, hk⟩ : ∃ k, ks[q]?.getD 0 = k := ⟨_, rfl⟩
      rw [zs_get, hk] at hcs
      have hql : q < ks.length := by rw [HLL.out]; exact hlt
      have hkm : k ∈ ks := by rw [← hk, List.getElem?_eq_getElem hql]; exact List.getElem_mem hql
      have HC := Lib.hid (HL.out wr hB.out k (HKS.out k hkm))
      have HK := Lib.hid hk
      have HKM := Lib.hid hkm
      obtain ⟨r, hr⟩ : ∃ r, E k y = r := ⟨_, rfl⟩
      rw [hr] at HC
      have HR := Lib.hid hr
      clear e1 hk hkm hr
      cases r with
      | true =>
        go_wp2_with (go_at_call 40; refine HC.out.mono ?_; rintro e w3 ⟨rfl, hb3⟩; have HB3 := Lib.hid (hB.out.trans (hb3.mono hB.out.size)); clear hb3)
        go_ret
        refine ⟨_, rfl, ?_, HB3.out⟩
        have : ks.any (fun k => E k y) = true := List.any_eq_true.2 ⟨k, HKM.out, HR.out⟩
        rw [this]
        simp
      | false =>
        go_wp2_with (go_at_call 40; refine HC.out.mono ?_; rintro e w3 ⟨rfl, hb3⟩; have HB3 := Lib.hid (hB.out.trans (hb3.mono hB.out.size)); clear hb3)
        go_roundw
        case rel =>
          refine ⟨q + 1, by omega, by go_num, fun j hj => ?_, HB3⟩
          rcases Nat.lt_succ_iff_lt_or_eq.1 hj with h | rfl
          · exact hno.out j h
          · rw [HK.out]; exact HR.out
        case measure => simp [intOf]; omega
    · obtain rfl : q = L := by omega
      go_wp2_with fail
      go_ret
      refine ⟨_, rfl, ?_, hB.out⟩
      have : ks.any (fun k => E k y) = false := by
        rw [List.any_eq_false]
        intro k hk
        obtain ⟨j, hj, e⟩ := List.getElem_of_mem hk
        have := hno.out j (by rw [← HLL.out]; exact hj)
        rw [List.getElem?_eq_getElem hj] at this
        simp only [Option.getD_some, e] at this
        simp [this]
      rw [this]
      rfl

/-- Is there a way of one step at least? -/
def pathB (n : Nat) (E : Nat → Nat → Bool) (a b : Int) : Bool := decide (0 ≤ b ∧ b < (n : Int)) && (orderI n E a).any fun k => E k b.toNat

set_option maxRecDepth 100000 in
set_option maxHeartbeats 4000000 in
theorem Path_any (av : Option Addr) (g : List (List Int)) (cap n : Nat) (a b : Int) (w : World) (hG : GIs w.heap.size w av g) (hF : FewG g) (hn : g.length = n) :
    Calls Try.prog 26 #[.slice av n cap, .int .i64 a, .int .i64 b] w fun e w' => e = .returned (.bool (pathB n (edge g) a b)) ∧ Below w.heap.size w w' := by
  have hn40 : n ≤ 40 := hn ▸ hF.1
  have HB2 := Lib.hid (below2 w (.cells #[.slice av n cap] 22) (.cells #[.int .i64 b] 3))
  have HG := Lib.hid (hG.on HB2.out)
  have k3 : ((w.alloc (.cells #[.slice av n cap] 22)).alloc (.cells #[.int .i64 b] 3)).cell? ⟨w.heap.size, 0, none⟩ = some (.slice av n cap) := cell_old _ _ _ _ _ (cell_laid _ _ _ _ _ _ rfl rfl)
  have k5 : ((w.alloc (.cells #[.slice av n cap] 22)).alloc (.cells #[.int .i64 b] 3)).cell? ⟨w.heap.size + 1, 0, none⟩ = some (.int .i64 b) := cell_laid _ _ _ _ _ _ (by simp) rfl
  generalize hE : (w.alloc (.cells #[.slice av n cap] 22)).alloc (.cells #[.int .i64 b] 3) = W at HB2 HG k3 k5
  have HE := Lib.hid hE
  have HN := Lib.hid (isNode_any av n cap b W)
  by_cases hb : 0 ≤ b ∧ b < (n : Int)
  · obtain ⟨y, rfl⟩ : ∃ y : Nat, b = (y : Int) := ⟨b.toNat, by omega⟩
    have HO := Lib.hid (Order_any av g cap n a W HG.out hF hn _ rfl)
    have HIX := Lib.hid (fun W' (h : Below W.heap.size W W') ua uc (hI : Is W'.heap.size W' ua (zs (orderI n (edge g) a))) L hL hL40 => IndexFunc_any w.heap.size (w.heap.size + 1) av ua g (orderI n (edge g) a) cap n y uc L W'
      ((h.cell (p := ⟨w.heap.size, 0, none⟩) (block_lt_of_cell k3)).trans k3) ((h.cell (p := ⟨w.heap.size + 1, 0, none⟩) (block_lt_of_cell k5)).trans k5) (HG.out.on h) hF hn hI hL hL40 (fun k hk => orderI_lt hk))
    have hol := orderI_length n (edge g) a
    have hd : decide (0 ≤ (y : Int) ∧ (y : Int) < (n : Int)) = true := by simpa using hb
    rw [hd] at HN
    have HP : Hid (pathB n (edge g) a (y : Int) = (orderI n (edge g) a).any fun k => edge g k y) := by
      show _ = _
      unfold pathB
      rw [hd, Bool.true_and]
      rfl
    rw [HP.out]
    generalize (orderI n (edge g) a).any (fun k => edge g k y) = r at *
    generalize orderI n (edge g) a = l at *
    obtain ⟨L, hL⟩ : ∃ L, l.length = L := ⟨_, rfl⟩
    rw [hL] at HO hol
    have HL := Lib.hid hL
    clear hG hF hn hb hd hL hE HP
    have HF2 : Hid (∀ W' (h : Below W.heap.size W W') ua uc (hI : Is W'.heap.size W' ua (zs l)), Calls Try.prog 42 #[.slice ua L uc, .func (.func 40) #[] #[.pointer (some ⟨w.heap.size, 0, none⟩), .pointer (some ⟨w.heap.size + 1, 0, none⟩)]] W' fun e w' => e = .returned (.bool r) ∧ Below W'.heap.size W' w') := Lib.hid fun W' h ua uc hI => by
      have HX := Lib.hid (HIX.out W' h ua uc hI L HL.out (by omega))
      clear k3 k5 hI h
      go_enter Try.func42, Try.ntmps42
      go_wp2_with (go_at_call 50; refine HX.out.mono ?_; rintro e w3 ⟨rr, rfl, hrr, hb3⟩; have HRR := Lib.hid hrr; have HB3 := Lib.hid hb3; clear hrr hb3)
      go_ret
      exact ⟨ret_bool HRR.out, HB3.out⟩
    clear HIX
    go_enter Try.func26, Try.ntmps26
    go_upto_region 2 with fail
    rw [HE.out]
    go_wp2_with (first
      | (go_at_call 33; refine HN.out.mono ?_; rintro e w1 ⟨rfl, rfl⟩)
      | (go_at_call 20; refine HO.out.mono ?_; rintro e w2 ⟨u, rfl, hou, hb2⟩; obtain ⟨ua, uc, rfl, -, -, hI, -⟩ := is_own hou; have HI := Lib.hid hI; have HB3 := Lib.hid hb2; clear hou hI hb2 k3 k5)
      | (go_at_call 42; refine (HF2.out _ HB3.out ua uc HI.out).mono ?_; rintro e w3 ⟨rfl, hb3⟩; have HB4 := Lib.hid (HB3.out.trans (hb3.mono HB3.out.size)); clear hb3))
    go_ret
    exact ⟨rfl, HB2.out.trans (HB4.out.mono HB2.out.size)⟩
  · have hd : decide (0 ≤ b ∧ b < (n : Int)) = false := by simpa using hb
    rw [hd] at HN
    have HP : pathB n (edge g) a b = false := by unfold pathB; rw [hd, Bool.false_and]
    rw [HP]
    clear hG hF hn hb hd hE HP
    go_enter Try.func26, Try.ntmps26
    go_upto_region 2 with fail
    rw [HE.out]
    go_wp2_with (go_at_call 33; refine HN.out.mono ?_; rintro e w1 ⟨rfl, rfl⟩)
    go_ret
    exact ⟨rfl, HB2.out⟩
end Go.Proofs.Ytcbfmplddjmiaaa
