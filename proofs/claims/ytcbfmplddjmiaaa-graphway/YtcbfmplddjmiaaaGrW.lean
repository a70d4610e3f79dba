/- GraphWay, walked. -/
import Derived.Test.YtcbfmplddjmiaaaGrH
namespace Go.Proofs.Ytcbfmplddjmiaaa
open Go Go.RowKit Go.Sort

/-- Is one there, or has one of the first k followers a way? -/
def foundW (n : Nat) (E : Nat → Nat → Bool) (x y k : Nat) : Bool := decide (x = y) || ((rowE n (E x)).take k).any fun s => decide (y ∈ orderI n E (s : Int))
theorem foundW_succ {n : Nat} {E : Nat → Nat → Bool} {x y k s : Nat} (hk : k < (rowE n (E x)).length) (hs : (rowE n (E x))[k]?.getD 0 = s) : foundW n E x y (k + 1) = (foundW n E x y k || decide (y ∈ orderI n E (s : Int))) := by
  have e : (rowE n (E x))[k] = s := by rw [← hs, List.getElem?_eq_getElem hk]; rfl
  unfold foundW
  rw [List.take_succ_eq_append_getElem hk, List.any_append, e]
  simp [Bool.or_assoc]
theorem foundW_all {n : Nat} {E : Nat → Nat → Bool} {x y : Nat} (hx : x < n) : foundW n E x y (rowE n (E x)).length = decide (y ∈ orderI n E (x : Int)) := by
  rw [Bool.eq_iff_iff]
  unfold foundW
  rw [List.take_of_length_le (Nat.le_refl _)]
  simp only [Bool.or_eq_true, decide_eq_true_eq, List.any_eq_true, orderI_nat, order_mem, mem_rowE]
  constructor
  · rintro (rfl | ⟨s, ⟨hs, he⟩, h⟩)
    · exact .refl hx
    · exact (Way.one hx hs he).trans h
  · intro h
    rcases h.head with e | ⟨s, hs, he, h2⟩
    · exact .inl e
    · exact .inr ⟨s, ⟨hs, he⟩, h2⟩

set_option maxRecDepth 100000 in
set_option maxHeartbeats 8000000 in
theorem graphWay_any (av : Option Addr) (g : List (List Int)) (cap n : Nat) (a b : Int) (w : World) (hG : GIs w.heap.size w av g) (hn : g.length = n) (hm : n ≤ maxLen) :
    Calls Try.prog 8 #[.slice av n cap, .int .i64 a, .int .i64 b] w fun e w' => e = .returned (.bool true) ∧ Below w.heap.size w w' := by
  have HG := Lib.hid hG
  have HN := Lib.hid hn
  have HM := Lib.hid hm
  clear hG hn hm
  have HA := Lib.hid (awake10_any w)
  have HFW := Lib.hid (fun W (h : Below w.heap.size w W) => Few_any av g cap n W (HG.out.on h) HN.out HM.out)
  go_enter Try.func8, Try.ntmps8
  go_upto_region 2 with (go_at_call 9; refine HA.out.mono ?_; rintro e w1 ⟨rfl, hb1⟩; have HB1 := Lib.hid hb1; clear hb1)
  by_cases hF : FewG g
  · have hF40 : n ≤ 40 := HN.out ▸ hF.1
    have HF := Lib.hid hF
    clear hF
    have HRE := Lib.hid (fun W (h : Below w.heap.size w W) x => Reach_any av g cap n x W (HG.out.on h) HF.out HN.out)
    have HCL := Lib.hid (fun W (h : Below w.heap.size w W) => Clean_any av g cap W (HG.out.on h) HF.out n HN.out)
    have hnn : ((n : Int) != (n : Int)) = false := by simp
    generalize edge g = E at *
    go_upto_region 8 with (first
      | (go_at_call 10; refine (HFW.out _ HB1.out).mono ?_; rintro e w2 ⟨bf, rfl, hbf, hb2⟩; obtain rfl : bf = true := hbf.2 HF.out; have HB2 := Lib.hid (HB1.out.trans (hb2.mono HB1.out.size)); clear hbf hb2)
      | (go_at_call 17; refine (HRE.out _ HB2.out _).mono ?_; rintro e w3 ⟨rb, rfl, hrb, hbi, hb3⟩; have HBI := Lib.hid hbi; have HB3 := Lib.hid (HB2.out.trans (hb3.mono HB2.out.size)); clear hrb hbi hb3)
      | (go_at_call 12; refine (HCL.out _ HB3.out).mono ?_; rintro e w4 ⟨gb, R, rfl, ho, hb4⟩; have HO := Lib.hid ho; have HB4 := Lib.hid (HB3.out.trans (hb4.mono HB3.out.size)); have HBI4 := Lib.hid (HBI.out.below hb4); clear ho hb4))
    by_cases hin : (0 ≤ a ∧ a < (n : Int)) ∧ (0 ≤ b ∧ b < (n : Int))
    · obtain ⟨x, rfl⟩ : ∃ x : Nat, a = (x : Int) := ⟨a.toNat, by omega⟩
      obtain ⟨y, rfl⟩ : ∃ y : Nat, b = (y : Int) := ⟨b.toNat, by omega⟩
      have hxi : (x : Int) < (n : Int) := hin.1.2
      have hyi : (y : Int) < (n : Int) := hin.2.2
      have hx : x < n := by omega
      have hy : y < n := by omega
      clear hin
      obtain ⟨ra, rc, hR, hrl, hl, hI, hrb⟩ := is_own (HO.out.row x hx)
      have hcx := HO.out.top.cell hx
      rw [hR] at hcx
      have HI := Lib.hid hI
      have HALL := Lib.hid (foundW_all (E := E) (y := y) hx)
      obtain ⟨L, hL⟩ : ∃ L, (zs (rowE n (E x))).length = L := ⟨_, rfl⟩
      rw [hL] at hcx
      have hL2 : (rowE n (E x)).length = L := by rw [← hL, zs_length]
      rw [hL2] at HALL
      have hL40 : L ≤ 40 := by have := rowE_le n (E x); omega
      have HCX := Lib.hid hcx
      have HL := Lib.hid hL2
      have HL1 := Lib.hid hL
      have hxyb : ((x : Int) == (y : Int)) = decide (x = y) := by
        rw [Bool.eq_iff_iff, beq_iff_eq, decide_eq_true_iff]; omega
      have HXY : Hid (foundW n E x y 0 = decide (x = y)) := by unfold foundW; show _ = _; simp
      have hry := World.rowIs.cell HBI4.out (i := y) (by rw [reachL_length]; exact hy)
      rw [reachL_at hy] at hry
      have HRY := Lib.hid hry
      clear hR hrl hl hI hrb hL hL2 hry
      have hx0 : ¬ (x : Int) < 0 := by omega
      have hy0 : ¬ (y : Int) < 0 := by omega
      have hxn : ¬ n ≤ x := by omega
      have hyn : ¬ n ≤ y := by omega
      go_upto_region 16 with fail
      go_upto_region 17 with fail
      clear hcx hxyb
      have hnn2 : ((n : Int) == (n : Int)) = true := by simp
      go_loopw [11, 12] (fun f k wr => ∃ q : Nat, q ≤ L ∧ k = .int .i64 (q : Int) ∧ Hid (f = .bool (foundW n E x y q)) ∧ Hid (Below w4.heap.size w4 wr)) (fun _ k _ => L - (intOf k).toNat)
      case atStart => exact ⟨0, Nat.zero_le _, rfl, Lib.hid (by rw [HXY.out]), Below.refl _ _⟩
      case round =>
        obtain ⟨q, hq, rfl, hf, hB⟩ := hrel
        replace hf := hf.out
        subst hf
        obtain ⟨wz, rfl⟩ : ∃ wz, wz = wr := ⟨_, rfl⟩
        have hcx := (hB.out.cell (p := ⟨gb, x, none⟩) HO.out.top.lt).trans HCX.out
        by_cases hlt : q < L
        · have hqi : (q : Int) < (L : Int) := by omega
          obtain ⟨b1, o1, rfl, hb1, e1⟩ := HI.out q (by rw [HL1.out]; exact hlt)
          have hcs := (hB.out.cell (p := ⟨b1, o1 + q, none⟩) hb1).trans e1
          obtain ⟨s, hs⟩ : ∃ s, (rowE n (E x))[q]?.getD 0 = s := ⟨_, rfl⟩
          rw [zs_get, hs] at hcs
          have HST := Lib.hid (foundW_succ (E := E) (x := x) (y := y) (by rw [HL.out]; exact hlt) hs)
          clear e1 hs
          generalize foundW n E x y q = f0 at *
          go_upto_region 20 with (go_at_call 17; refine (HRE.out _ (HB4.out.trans (hB.out.mono HB4.out.size)) _).mono ?_; rintro e w5 ⟨sb, rfl, hsb, hsi, hb5⟩; have hcy := World.rowIs.cell hsi (i := y) (by rw [reachL_length]; exact hy); rw [reachL_at hy] at hcy; have HB5 := Lib.hid (hB.out.trans (hb5.mono hB.out.size)); clear hsb hsi hb5 hcx hcs)
          cases f0 with
          | true =>
            go_wp2_with fail
            go_roundw
            case rel => exact ⟨q + 1, by omega, by go_num, Lib.hid (by rw [HST.out]; rfl), HB5⟩
            case measure => simp [intOf]; omega
          | false =>
            go_wp2_with fail
            go_roundw
            case rel => exact ⟨q + 1, by omega, by go_num, Lib.hid (by rw [HST.out]; rfl), HB5⟩
            case measure => simp [intOf]; omega
        · obtain rfl : q = L := by omega
          have hry := (hB.out.cell (p := ⟨rb, y, none⟩) (World.rowIs.lt HBI4.out)).trans HRY.out
          rw [HALL.out]
          generalize decide (y ∈ orderI n E (x : Int)) = z at *
          have hzz : (z == z) = true := by cases z <;> rfl
          go_wp2_with fail
          go_ret
          exact ⟨rfl, HB4.out.trans (hB.out.mono HB4.out.size)⟩
    · rcases (by omega : a < 0 ∨ (¬ a < 0 ∧ (n : Int) ≤ a) ∨ (¬ a < 0 ∧ ¬ (n : Int) ≤ a ∧ b < 0) ∨ (¬ a < 0 ∧ ¬ (n : Int) ≤ a ∧ ¬ b < 0 ∧ (n : Int) ≤ b)) with h1 | ⟨h1, h2⟩ | ⟨h1, h2, h3⟩ | ⟨h1, h2, h3, h4⟩
      · have HOUT := Lib.hid (orderI_out (E := E) (x := a) (n := n) (by omega))
        clear hin
        go_upto_region 10 with fail
        go_loopw [10] (fun i wr => ∃ q : Nat, q ≤ n ∧ i = .int .i64 q ∧ w4 = wr) (fun i _ => n - (intOf i).toNat)
        case atStart => exact ⟨0, Nat.zero_le _, rfl, rfl⟩
        case round =>
          obtain ⟨q, hq, rfl, rfl⟩ := hrel
          by_cases hlt : q < n
          · have hqi : (q : Int) < (n : Int) := by omega
            have hcq := World.rowIs.cell HBI4.out (i := q) (by rw [reachL_length]; exact hlt)
            rw [reachL_at hlt] at hcq
            rw [HOUT.out] at hcq
            simp only [List.not_mem_nil, decide_false] at hcq
            go_wp2_with fail
            go_roundw
            case rel => exact ⟨q + 1, by omega, by go_num, (by first | rfl | trivial)⟩
            case measure => simp [intOf]; omega
          · obtain rfl : q = n := by omega
            go_wp2_with fail
            go_ret
            exact ⟨rfl, HB4.out⟩
      · have HOUT := Lib.hid (orderI_out (E := E) (x := a) (n := n) (by omega))
        clear hin
        go_upto_region 10 with fail
        go_loopw [10] (fun i wr => ∃ q : Nat, q ≤ n ∧ i = .int .i64 q ∧ w4 = wr) (fun i _ => n - (intOf i).toNat)
        case atStart => exact ⟨0, Nat.zero_le _, rfl, rfl⟩
        case round =>
          obtain ⟨q, hq, rfl, rfl⟩ := hrel
          by_cases hlt : q < n
          · have hqi : (q : Int) < (n : Int) := by omega
            have hcq := World.rowIs.cell HBI4.out (i := q) (by rw [reachL_length]; exact hlt)
            rw [reachL_at hlt] at hcq
            rw [HOUT.out] at hcq
            simp only [List.not_mem_nil, decide_false] at hcq
            go_wp2_with fail
            go_roundw
            case rel => exact ⟨q + 1, by omega, by go_num, (by first | rfl | trivial)⟩
            case measure => simp [intOf]; omega
          · obtain rfl : q = n := by omega
            go_wp2_with fail
            go_ret
            exact ⟨rfl, HB4.out⟩
      · clear hin
        go_upto_region 10 with fail
        go_loopw [10] (fun i wr => ∃ q : Nat, q ≤ n ∧ i = .int .i64 q ∧ w4 = wr) (fun i _ => n - (intOf i).toNat)
        case atStart => exact ⟨0, Nat.zero_le _, rfl, rfl⟩
        case round =>
          obtain ⟨q, hq, rfl, rfl⟩ := hrel
          by_cases hlt : q < n
          · have hqi : (q : Int) < (n : Int) := by omega
            have hcq := World.rowIs.cell HBI4.out (i := q) (by rw [reachL_length]; exact hlt)
            rw [reachL_at hlt] at hcq
            generalize decide (q ∈ orderI n E a) = z at *
            cases z with
            | true =>
              go_wp2_with fail
              go_roundw
              case rel => exact ⟨q + 1, by omega, by go_num, (by first | rfl | trivial)⟩
              case measure => simp [intOf]; omega
            | false =>
              go_wp2_with fail
              go_roundw
              case rel => exact ⟨q + 1, by omega, by go_num, (by first | rfl | trivial)⟩
              case measure => simp [intOf]; omega
          · obtain rfl : q = n := by omega
            go_wp2_with fail
            go_ret
            exact ⟨rfl, HB4.out⟩
      · clear hin
        go_upto_region 10 with fail
        go_loopw [10] (fun i wr => ∃ q : Nat, q ≤ n ∧ i = .int .i64 q ∧ w4 = wr) (fun i _ => n - (intOf i).toNat)
        case atStart => exact ⟨0, Nat.zero_le _, rfl, rfl⟩
        case round =>
          obtain ⟨q, hq, rfl, rfl⟩ := hrel
          by_cases hlt : q < n
          · have hqi : (q : Int) < (n : Int) := by omega
            have hcq := World.rowIs.cell HBI4.out (i := q) (by rw [reachL_length]; exact hlt)
            rw [reachL_at hlt] at hcq
            generalize decide (q ∈ orderI n E a) = z at *
            cases z with
            | true =>
              go_wp2_with fail
              go_roundw
              case rel => exact ⟨q + 1, by omega, by go_num, (by first | rfl | trivial)⟩
              case measure => simp [intOf]; omega
            | false =>
              go_wp2_with fail
              go_roundw
              case rel => exact ⟨q + 1, by omega, by go_num, (by first | rfl | trivial)⟩
              case measure => simp [intOf]; omega
          · obtain rfl : q = n := by omega
            go_wp2_with fail
            go_ret
            exact ⟨rfl, HB4.out⟩
  · go_wp2_with (go_at_call 10; refine (HFW.out _ HB1.out).mono ?_; rintro e w2 ⟨bf, rfl, hbf, hb2⟩; obtain rfl : bf = false := (by cases bf; rfl; exact absurd (hbf.1 rfl) hF); have HB2 := Lib.hid (HB1.out.trans (hb2.mono HB1.out.size)); clear hbf hb2)
    go_ret
    exact ⟨rfl, HB2.out⟩
end Go.Proofs.Ytcbfmplddjmiaaa
