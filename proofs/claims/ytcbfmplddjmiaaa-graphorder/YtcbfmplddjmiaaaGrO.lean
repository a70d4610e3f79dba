/- GraphOrder, walked. -/
import Derived.Test.YtcbfmplddjmiaaaLate
import Derived.Test.YtcbfmplddjmiaaaGrH
import Derived.Test.YtcbfmplddjmiaaaGrP
namespace Go.Proofs.Ytcbfmplddjmiaaa
open Go Go.RowKit Go.Sort

theorem orderI_nodup (n : Nat) (E : Nat → Nat → Bool) (x : Int) : (orderI n E x).Nodup := by
  unfold orderI
  split
  · exact order_nodup n E _
  · exact List.nodup_nil
theorem orderI_head {n : Nat} {E : Nat → Nat → Bool} {x : Int} {l : List Nat} (hl : orderI n E x = l) (h : 0 < l.length) : ((l[0]?.getD 0 : Nat) : Int) = x := by
  unfold orderI at hl
  split at hl
  · rename_i h0
    by_cases hx : x.toNat < n
    · have := (order_head (E := E) hx).1
      rw [hl] at this
      rw [this]
      show ((x.toNat : Nat) : Int) = x
      omega
    · unfold order at hl
      rw [if_neg hx] at hl
      subst hl
      simp at h
  · subst hl; simp at h
theorem orderI_back {n : Nat} {E : Nat → Nat → Bool} {x : Int} {l : List Nat} (hl : orderI n E x = l) {f : Nat → Nat} (h : AtUpto l l.length f) {a b : Nat} (ha : a ∈ l) (hb : b < n) (he : E a b = true) : b ∈ l ∧ (f b ≤ f a → a ∈ orderI n E (b : Int)) := by
  unfold orderI at hl
  split at hl
  · refine ⟨?_, fun hle => by rw [orderI_nat]; exact (order_back hl h ha hb he hle).2⟩
    rw [← hl, order_mem] at ha ⊢
    exact .step ha hb he
  · subst hl; simp at ha

def zerosI (k : Nat) : Array Value := Array.replicate k (.int .i64 0)
theorem made_zerosI (k : Nat) : madeCells (Value.int .i64 0).cells (k * 1) = zerosI k := by
  apply Array.ext
  · simp [madeCells, zerosI]
  · intro i h1 h2
    simp [madeCells, zerosI, Value.cells, Nat.mod_one]
theorem mk_runI (k : Nat) (hk : k ≤ 1024) (W : World) : (Instr.makeSlice 32 (.int .i64 (k : Int)) (.int .i64 (k : Int))).run Try.prog W = .ok (.slice (some ⟨W.heap.size, 0, none⟩) k k) (W.alloc (.cells (zerosI k) 3)) := by
  obtain ⟨i, hi, hz0, hz1, hz2⟩ := info_parts info3
  have h := run_make (P := Try.prog) W 32 3 i (.int .i64 0) Try.underlying32 hi hz0 .i64 .i64 k k (by omega) (by omega) (by rw [hz2]; omega) (by omega)
  rw [h, hz1]
  simp only [Int.toNat_natCast]
  rw [made_zerosI]
/-- Numbers in a block of the call's own. -/
def NIs (W : World) (b n : Nat) (f : Nat → Nat) : Prop := W.rowIs b 3 n (fun j => .int .i64 ((f j : Nat) : Int))
theorem zerosI_is (W : World) (k : Nat) : NIs (W.alloc (.cells (zerosI k) 3)) W.heap.size k (fun _ => 0) := by
  have h := World.rowIs_alloc W (zerosI k) 3 (fun _ => .int .i64 ((0 : Nat) : Int)) (fun i hi => by simp only [zerosI, Array.size_replicate] at hi; simp [zerosI, hi])
  unfold NIs
  simpa [zerosI] using h
theorem NIs.set {W : World} {b n : Nat} {f : Nat → Nat} (h : NIs W b n f) (i x : Nat) : NIs (W.setCell ⟨b, i, none⟩ (.int .i64 (x : Int))) b n (fun z => if z = i then x else f z) := by
  unfold NIs
  refine (World.rowIs.set h i (.int .i64 (x : Int))).congr fun j _ => ?_
  by_cases e : j = i <;> simp [e]

set_option maxRecDepth 100000 in
set_option maxHeartbeats 8000000 in
theorem graphOrder_any (av : Option Addr) (g : List (List Int)) (cap n : Nat) (a : Int) (w : World) (hG : GIs w.heap.size w av g) (hn : g.length = n) (hm : n ≤ maxLen) :
    Calls Try.prog 4 #[.slice av n cap, .int .i64 a] w fun e w' => e = .returned (.bool true) ∧ Below w.heap.size w w' := by
  have HG := Lib.hid hG
  have HN := Lib.hid hn
  have HM := Lib.hid hm
  clear hG hn hm
  have HA := Lib.hid (awake10_any w)
  have HFW := Lib.hid (fun W (h : Below w.heap.size w W) => Few_any av g cap n W (HG.out.on h) HN.out HM.out)
  go_enter Try.func4, Try.ntmps4
  go_upto_region 2 with (go_at_call 9; refine HA.out.mono ?_; rintro e w1 ⟨rfl, hb1⟩; have HB1 := Lib.hid hb1; clear hb1)
  by_cases hF : FewG g
  · have hF40 : n ≤ 40 := HN.out ▸ hF.1
    have HF := Lib.hid hF
    clear hF
    have HRE := Lib.hid (fun W (h : Below w.heap.size w W) x => Reach_any av g cap n x W (HG.out.on h) HF.out HN.out)
    have HCL := Lib.hid (fun W (h : Below w.heap.size w W) => Clean_any av g cap W (HG.out.on h) HF.out n HN.out)
    have HOR := Lib.hid (fun W (h : Below w.heap.size w W) => Order_any av g cap n a W (HG.out.on h) HF.out HN.out _ rfl)
    have hnn : ((n : Int) != (n : Int)) = false := by simp
    generalize edge g = E at *
    have hol := orderI_length n E a
    have HND := Lib.hid (orderI_nodup n E a)
    have HLT := Lib.hid (fun y (h : y ∈ orderI n E a) => orderI_lt h)
    have HHD := Lib.hid (fun l (h : orderI n E a = l) => orderI_head h)
    have HBK := Lib.hid (fun l (h : orderI n E a = l) f hf x y => orderI_back (a := x) (b := y) h (f := f) hf)
    have HRL := Lib.hid (fun y (h : y < n) => reachL_at (E := E) (x := a) h)
    obtain ⟨l, hl⟩ : ∃ l, orderI n E a = l := ⟨_, rfl⟩
    rw [hl] at HOR hol HND HLT HRL
    replace HHD := Lib.hid (HHD.out l hl)
    replace HBK := Lib.hid (HBK.out l hl)
    obtain ⟨L, hL⟩ : ∃ L, l.length = L := ⟨_, rfl⟩
    rw [hL] at HOR hol
    have HLL := Lib.hid hL
    clear hl hL
    go_upto_region 9 with (first
      | (go_at_call 10; refine (HFW.out _ HB1.out).mono ?_; rintro e w2 ⟨bf, rfl, hbf, hb2⟩; obtain rfl : bf = true := hbf.2 HF.out; have HB2 := Lib.hid (HB1.out.trans (hb2.mono HB1.out.size)); clear hbf hb2)
      | (go_at_call 20; refine (HOR.out _ HB2.out).mono ?_; rintro e w3 ⟨u, rfl, hou, hb3⟩; obtain ⟨oa, oc, rfl, -, -, hI, -⟩ := is_own hou; have HI := Lib.hid hI; have HB3 := Lib.hid (HB2.out.trans (hb3.mono HB2.out.size)); clear hou hI hb3)
      | (go_at_call 17; refine (HRE.out _ HB3.out _).mono ?_; rintro e w4 ⟨rb, rfl, hrb, hbi, hb4⟩; have HBI := Lib.hid hbi; have HI4 := Lib.hid (HI.out.on hb4); have HB4 := Lib.hid (HB3.out.trans (hb4.mono HB3.out.size)); clear hrb hbi hb4)
      | (go_at_call 12; refine (HCL.out _ HB4.out).mono ?_; rintro e w5 ⟨gb, R, rfl, ho, hb5⟩; have HO := Lib.hid ho; have HB5 := Lib.hid (HB4.out.trans (hb5.mono HB4.out.size)); have HBI5 := Lib.hid (HBI.out.below hb5); have HI5 := Lib.hid (HI4.out.on hb5); clear ho hb5))
    have hmk := mk_runI n (by omega) w5
    have HZ := Lib.hid (zerosI_is w5 n)
    have HB6 := Lib.hid (below1 w5 (.cells (zerosI n) 3))
    go_upto_region 11 with fail
    clear hmk
    generalize hE : w5.alloc (.cells (zerosI n) 3) = w6 at *
    clear hE
    go_loopw [10] (fun i wr => ∃ q : Nat, q ≤ L ∧ i = .int .i64 q ∧ Hid (∃ f, AtUpto l q f ∧ NIs wr w5.heap.size n f) ∧ Hid (Below w5.heap.size w5 wr)) (fun i _ => L - (intOf i).toNat)
    case atStart => exact ⟨0, Nat.zero_le _, rfl, ⟨_, atUpto_zero l, HZ.out⟩, HB6.out⟩
    case round =>
      obtain ⟨q, hq, rfl, hat, hB⟩ := hrel
      by_cases hlt : q < L
      · have hqi : (q : Int) < (L : Int) := by omega
        obtain ⟨b, o, rfl, hb, e1⟩ := HI5.out q (by rw [zs_length, HLL.out]; exact hlt)
        obtain ⟨y, hy⟩ : ∃ y, l[q]?.getD 0 = y := ⟨_, rfl⟩
        rw [zs_get, hy] at e1
        have hql : q < l.length := by rw [HLL.out]; exact hlt
        have hyl : y ∈ l := by rw [← hy, List.getElem?_eq_getElem hql]; exact List.getElem_mem hql
        have hyn : y < n := HLT.out y hyl
        have hyi : (y : Int) < (n : Int) := by omega
        have hy0 : ¬ (y : Int) < 0 := by omega
        have hyg : ¬ n ≤ y := by omega
        have hco := (hB.out.cell (p := ⟨b, o + q, none⟩) hb).trans e1
        obtain ⟨f, hf, hni⟩ := hat.out
        obtain ⟨hfy, hfn⟩ := atUpto_new HND.out hql hf hy
        have hcat := World.rowIs.cell hni (i := y) hyn
        rw [hfy] at hcat
        have hfat := World.rowIs.frozen hni y
        have hcr := World.rowIs.cell (HBI5.out.below hB.out) (i := y) (by rw [reachL_length]; exact hyn)
        rw [HRL.out y hyn] at hcr
        simp only [hyl, decide_true] at hcr
        have HFN := Lib.hid hfn
        have HNI := Lib.hid hni
        clear e1 hy hyl hf hfn hfy hni hat
        go_wp2_with fail
        go_roundw
        case rel =>
          refine ⟨q + 1, by omega, by go_num, ⟨_, HFN.out, ?_⟩, hB.out.setCell (p := ⟨w5.heap.size, y, none⟩) (Nat.le_refl _) _⟩
          have := HNI.out.set y (q + 1)
          exact this
        case measure => simp [intOf]; omega
      · obtain rfl : q = L := by omega
        obtain ⟨w7, rfl⟩ : ∃ w7, w7 = wr := ⟨_, rfl⟩
        obtain ⟨f, hf, hni⟩ := hat.out
        have HF1 := Lib.hid hf
        have HNI := Lib.hid hni
        have HB7 := Lib.hid (HB5.out.trans (hB.out.mono HB5.out.size))
        have HBI7 := Lib.hid (HBI5.out.below hB.out)
        have HI7 := Lib.hid (HI5.out.on hB.out)
        have HO7 := Lib.hid (HO.out.below hB.out)
        clear hf hni hat hlt
        go_upto_region 18 with fail
        go_loopw [11, 12] (fun c i wr => ∃ p : Nat, p ≤ n ∧ i = .int .i64 (p : Int) ∧ Hid (c = .int .i64 ((among l p : Nat) : Int)) ∧ Hid (Below w7.heap.size w7 wr)) (fun _ i _ => n - (intOf i).toNat)
        case atStart => exact ⟨0, Nat.zero_le _, rfl, Lib.hid rfl, Below.refl _ _⟩
        case round =>
          obtain ⟨p, hp, rfl, hc, hB2⟩ := hrel
          replace hc := hc.out
          subst hc
          obtain ⟨w8, rfl⟩ : ∃ w8, w8 = wr := ⟨_, rfl⟩
          by_cases hpn : p < n
          · have hpi : (p : Int) < (n : Int) := by omega
            have hcr := World.rowIs.cell (HBI7.out.below hB2.out) (i := p) (by rw [reachL_length]; exact hpn)
            rw [HRL.out p hpn] at hcr
            have hal := among_le l p
            have HAS := Lib.hid (among_succ l p)
            obtain ⟨m, hm⟩ : ∃ m, among l p = m := ⟨_, rfl⟩
            rw [hm] at hal HAS
            rw [hm]
            obtain ⟨ra, rc, hR, hrl, hll, hI, hrb⟩ := is_own (HO7.out.row p hpn)
            have hcx := HO7.out.top.cell hpn
            rw [hR] at hcx
            have HIR := Lib.hid hI
            obtain ⟨K, hK⟩ : ∃ K, (zs (rowE n (E p))).length = K := ⟨_, rfl⟩
            rw [hK] at hcx
            have hK40 : K ≤ 40 := by have := rowE_le n (E p); rw [zs_length] at hK; omega
            have HCX := Lib.hid hcx
            have HK := Lib.hid hK
            have hcx8 := (hB2.out.cell (p := ⟨gb, p, none⟩) HO7.out.top.lt).trans hcx
            clear hm hR hrl hll hI hrb hcx hK
            by_cases hpl : p ∈ l
            · simp only [hpl, decide_true] at hcr
              simp only [hpl, if_true] at HAS
              have HPL := Lib.hid hpl
              clear hpl
              have HCR := Lib.hid hcr
              go_upto_region 23 with fail
              clear hcr hcx8
              go_loopw [13] (fun i wr => ∃ k : Nat, k ≤ K ∧ i = .int .i64 (k : Int) ∧ Hid (Below w7.heap.size w7 wr)) (fun i _ => K - (intOf i).toNat)
              case atStart => exact ⟨0, Nat.zero_le _, rfl, hB2⟩
              case round =>
                obtain ⟨k, hk, rfl, hB3⟩ := hrel
                obtain ⟨w9, rfl⟩ : ∃ w9, w9 = wr := ⟨_, rfl⟩
                have hcx := (hB3.out.cell (p := ⟨gb, p, none⟩) HO7.out.top.lt).trans HCX.out
                have hcr := World.rowIs.cell (HBI7.out.below hB3.out) (i := p) (by rw [reachL_length]; exact hpn)
                rw [HRL.out p hpn] at hcr
                simp only [HPL.out, decide_true] at hcr
                by_cases hlt : k < K
                · have hki : (k : Int) < (K : Int) := by omega
                  obtain ⟨b1, o1, rfl, hb1, e1⟩ := HIR.out k (by rw [HK.out]; exact hlt)
                  have hcs := (hB3.out.cell (p := ⟨b1, o1 + k, none⟩) hb1).trans e1
                  obtain ⟨s, hs⟩ : ∃ s, (rowE n (E p))[k]?.getD 0 = s := ⟨_, rfl⟩
                  rw [zs_get, hs] at hcs
                  have hkr : k < (rowE n (E p)).length := by have := HK.out; rw [zs_length] at this; omega
                  obtain ⟨hsn, hE⟩ := mem_rowE.1 (show s ∈ rowE n (E p) by rw [← hs, List.getElem?_eq_getElem hkr]; exact List.getElem_mem hkr)
                  obtain ⟨hsl, hbk⟩ := HBK.out f (by rw [HLL.out]; exact HF1.out) p s HPL.out hsn hE
                  have hsi : (s : Int) < (n : Int) := by omega
                  have hcrs := World.rowIs.cell (HBI7.out.below hB3.out) (i := s) (by rw [reachL_length]; exact hsn)
                  rw [HRL.out s hsn] at hcrs
                  simp only [hsl, decide_true] at hcrs
                  have hcas := World.rowIs.cell (World.rowIs.of_block HNI.out (hB3.out.block _ (World.rowIs.lt HNI.out))) (i := s) hsn
                  have hcap := World.rowIs.cell (World.rowIs.of_block HNI.out (hB3.out.block _ (World.rowIs.lt HNI.out))) (i := p) hpn
                  have HBKK := Lib.hid hbk
                  clear e1 hs hE hsl hbk
                  generalize f s = fs at *
                  generalize f p = fp at *
                  by_cases hle : fs ≤ fp
                  · have hlei : (fs : Int) ≤ (fp : Int) := by omega
                    go_upto_region 26 with fail
                    have HS : Hid (∀ w', Below w9.heap.size w9 w' → w'.cell? ⟨rb, s, none⟩ = some (.bool true) ∧ w'.cell? ⟨w5.heap.size, s, none⟩ = some (.int .i64 (fs : Int)) ∧ w'.cell? ⟨w5.heap.size, p, none⟩ = some (.int .i64 (fp : Int))) := Lib.hid fun w' h =>
                      ⟨(h.cell (p := ⟨rb, s, none⟩) (block_lt_of_cell hcrs)).trans hcrs, (h.cell (p := ⟨w5.heap.size, s, none⟩) (block_lt_of_cell hcas)).trans hcas, (h.cell (p := ⟨w5.heap.size, p, none⟩) (block_lt_of_cell hcap)).trans hcap⟩
                    have HBN : Hid (Below w9.heap.size w9 w9.drew) := Lib.hid (Below.refl _ _).drew
                    clear hcx hcr hcs hcrs hcas hcap
                    refine wp_region_late (fun w' => w'.cell? ⟨rb, s, none⟩ = some (.bool true) ∧ w'.cell? ⟨w5.heap.size, s, none⟩ = some (.int .i64 (fs : Int)) ∧ w'.cell? ⟨w5.heap.size, p, none⟩ = some (.int .i64 (fp : Int))) 25 (by kernel_rfl) (HS.out _ HBN.out) (fun hHeld => ?_)
                    refine wpAnyE_take (i := 0) (v := ?v0) rfl (by kernel_rfl) (fun _ _ _ h => h) hHeld (by kernel_rfl) ?y0 ?_
                    case y0 => (intro w' hSw; (try dsimp only at hSw); go_simp <;> with_reducible rfl)
                    simp [Act.put]
                    refine wpAnyE_take (i := 1) (v := ?v1) rfl (by kernel_rfl) (fun _ _ _ h => h) hHeld (by kernel_rfl) ?y1 ?_
                    case y1 => (intro w' hSw; (try dsimp only at hSw); go_simp <;> with_reducible rfl)
                    simp [Act.put]
                    refine wpAnyE_take (i := 2) (v := ?v2) rfl (by kernel_rfl) (fun _ _ _ h => h) hHeld (by kernel_rfl) ?y2 ?_
                    case y2 => (intro w' hSw; (try dsimp only at hSw); go_simp <;> with_reducible rfl)
                    simp [Act.put]
                    refine wpAnyE_take (i := 3) (v := ?v3) rfl (by kernel_rfl) (fun _ _ _ h => h) hHeld (by kernel_rfl) ?y3 ?_
                    case y3 => (intro w' hSw; (try dsimp only at hSw); go_simp <;> with_reducible rfl)
                    simp [Act.put]
                    refine wpAnyE_take (i := 4) (v := ?v4) rfl (by kernel_rfl) (fun _ _ _ h => h) hHeld (by kernel_rfl) ?y4 ?_
                    case y4 => (intro w' hSw; (try dsimp only at hSw); go_simp <;> with_reducible rfl)
                    simp [Act.put]
                    refine wpAnyE_take (i := 5) (v := ?v5) rfl (by kernel_rfl) (fun _ _ _ h => h) hHeld (by kernel_rfl) ?y5 ?_
                    case y5 => (intro w' hSw; (try dsimp only at hSw); go_simp <;> with_reducible rfl)
                    simp [Act.put]
                    refine wpAnyE_take (i := 6) (v := ?v6) rfl (by kernel_rfl) (fun _ _ _ h => h) hHeld (by kernel_rfl) ?y6 ?_
                    case y6 => (intro w' hSw; (try dsimp only at hSw); go_simp <;> with_reducible rfl)
                    simp [Act.put]
                    refine wpAnyE_take (i := 7) (v := ?v7) rfl (by kernel_rfl) (fun _ _ _ h => h) hHeld (by kernel_rfl) ?y7 ?_
                    case y7 => (intro w' hSw; (try dsimp only at hSw); go_simp <;> with_reducible rfl)
                    simp [Act.put]
                    refine wpAnyE_take (i := 8) (v := ?v8) rfl (by kernel_rfl) (fun _ _ _ h => h) hHeld (by kernel_rfl) ?y8 ?_
                    case y8 => (intro w' hSw; (try dsimp only at hSw); go_simp <;> with_reducible rfl)
                    simp [Act.put]
                    refine wpAnyE_take (i := 9) (v := ?v9) rfl (by kernel_rfl) (fun _ _ _ h => h) hHeld (by kernel_rfl) ?y9 ?_
                    case y9 => (intro w' hSw; (try dsimp only at hSw); go_simp <;> with_reducible rfl)
                    simp [Act.put]
                    refine wpAnyE_take (i := 10) (v := ?v10) rfl (by kernel_rfl) (fun _ _ _ h => h) hHeld (by kernel_rfl) ?y10 ?_
                    case y10 => (intro w' hSw; (try dsimp only at hSw); go_simp <;> with_reducible rfl)
                    simp [Act.put]
                    refine wpAnyE_take (i := 11) (v := ?v11) rfl (by kernel_rfl) (fun _ _ _ h => h) hHeld (by kernel_rfl) ?y11 ?_
                    case y11 => (intro w' hSw; (try dsimp only at hSw); go_simp <;> with_reducible rfl)
                    simp [Act.put]
                    refine wpAnyE_take (i := 12) (v := ?v12) rfl (by kernel_rfl) (fun _ _ _ h => h) hHeld (by kernel_rfl) ?y12 ?_
                    case y12 => (intro w' hSw; (try dsimp only at hSw); go_simp <;> with_reducible rfl)
                    simp [Act.put]
                    refine wpAnyE_take (i := 13) (v := ?v13) rfl (by kernel_rfl) (fun _ _ _ h => h) hHeld (by kernel_rfl) ?y13 ?_
                    case y13 => (intro w' hSw; (try dsimp only at hSw); go_simp <;> with_reducible rfl)
                    simp [Act.put]
                    refine wpAnyE_take (i := 14) (v := ?v14) rfl (by kernel_rfl) (fun _ _ _ h => h) hHeld (by kernel_rfl) ?y14 ?_
                    case y14 => (intro w' hSw; (try dsimp only at hSw); go_simp <;> with_reducible rfl)
                    simp [Act.put]
                    refine wpAnyE_take (i := 15) (v := ?v15) rfl (by kernel_rfl) (fun _ _ _ h => h) hHeld (by kernel_rfl) ?y15 ?_
                    case y15 => (intro w' hSw; (try dsimp only at hSw); go_simp <;> with_reducible rfl)
                    simp [Act.put]
                    refine wpAnyE_take (i := 16) (v := ?v16) rfl (by kernel_rfl) (fun _ _ _ h => h) hHeld (by kernel_rfl) ?y16 ?_
                    case y16 => (intro w' hSw; (try dsimp only at hSw); go_simp <;> with_reducible rfl)
                    simp [Act.put]
                    refine wpAnyE_take (i := 17) (v := ?v17) rfl (by kernel_rfl) (fun _ _ _ h => h) hHeld (by kernel_rfl) ?y17 ?_
                    case y17 => (intro w' hSw; (try dsimp only at hSw); go_simp <;> with_reducible rfl)
                    simp [Act.put]
                    refine wpAnyE_take (i := 19) (v := ?v19) rfl (by kernel_rfl) (fun _ _ _ h => h) hHeld (by kernel_rfl) ?y19 ?_
                    case y19 => (intro w' hSw; (try dsimp only at hSw); go_simp <;> with_reducible rfl)
                    simp [Act.put]
                    refine wpAnyE_one (i := 18) (by kernel_rfl) rfl (fun K hK => ?_)
                    refine Eq.mpr (if_pos ?hw) ?_
                    case hw => kernel_rfl
                    go_simp
                    go_at_call 17
                    refine Calls.mono (HRE.out _ (HB7.out.trans ((hB3.out.trans (HBN.out.mono hB3.out.size)).mono HB7.out.size)) _) ?_
                    rintro e wa ⟨sb, rfl, hsb, hsi, hba⟩
                    have hcz := World.rowIs.cell hsi (i := p) (by rw [reachL_length]; exact hpn)
                    rw [reachL_at hpn] at hcz
                    simp only [HBKK.out hle, decide_true] at hcz
                    have HBA := Lib.hid (HBN.out.trans (hba.mono HBN.out.size))
                    clear hsb hsi hba
                    refine hK.out _ _ ?_ (fun hHeld => ?_)
                    · exact HS.out _ HBA.out
                    clear hK K
                    try simp [Act.put]
                    refine wpAnyE_one (i := 20) (by kernel_rfl) rfl (fun K hK => ?_)
                    refine Eq.mpr (if_pos ?hw20) ?_
                    case hw20 => kernel_rfl
                    go_simp
                    refine hK.out _ _ (HS.out _ HBA.out) (fun hHeld => ?_)
                    clear hK K
                    try simp [Act.put]
                    refine wpAnyE_one (i := 21) (by kernel_rfl) rfl (fun K hK => ?_)
                    refine Eq.mpr (if_pos ?hw21) ?_
                    case hw21 => kernel_rfl
                    go_simp
                    refine hK.out _ _ (HS.out _ HBA.out) (fun hHeld => ?_)
                    clear hK K
                    try simp [Act.put]
                    refine wpAnyE_one (i := 22) (by kernel_rfl) rfl (fun K hK => ?_)
                    refine Eq.mpr (if_pos ?hw22) ?_
                    case hw22 => kernel_rfl
                    go_simp
                    refine hK.out _ _ (HS.out _ HBA.out) (fun hHeld => ?_)
                    clear hK K
                    try simp [Act.put]
                    refine wpAnyE_one (i := 23) (by kernel_rfl) rfl (fun K hK => ?_)
                    refine Eq.mpr (if_pos ?hw23) ?_
                    case hw23 => kernel_rfl
                    go_simp
                    refine hK.out _ _ (HS.out _ HBA.out) (fun hHeld => ?_)
                    clear hK K
                    try simp [Act.put]
                    refine wpAnyE_one (i := 24) (by kernel_rfl) rfl (fun K hK => ?_)
                    go_simp
                    refine hK.out _ _ (HS.out _ HBA.out) (fun hHeld => ?_)
                    clear hK K
                    try simp [Act.put]
                    refine ⟨by kernel_rfl, ?_⟩
                    go_wp2_with fail
                    go_roundw
                    case rel => exact ⟨k + 1, by omega, by go_num, Lib.hid (hB3.out.trans (HBA.out.mono hB3.out.size))⟩
                    case measure => simp [intOf]; omega
                  · have hlei : ¬ (fs : Int) ≤ (fp : Int) := by omega
                    go_upto_region 26 with fail
                    have m1 : ∀ d os, (grow (redrawn w9 d) os).cell? ⟨rb, s, none⟩ = some (.bool true) := fun d os => cell_regrown hcrs d os
                    have m2 : ∀ d os, (grow (redrawn w9 d) os).cell? ⟨w5.heap.size, s, none⟩ = some (.int .i64 (fs : Int)) := fun d os => cell_regrown hcas d os
                    have m3 : ∀ d os, (grow (redrawn w9 d) os).cell? ⟨w5.heap.size, p, none⟩ = some (.int .i64 (fp : Int)) := fun d os => cell_regrown hcap d os
                    refine wp_region_quiet_below (by kernel_rfl) (by kernel_rfl) ?_
                    repeat (first | go_big_quiet_step (fail) | quiet_step (fail))
                    refine wpQuiet_nil ?_
                    intro _ hw'
                    obtain ⟨⟨dq, osq⟩, hw''⟩ := hw'
                    subst hw''
                    have hb3 := Lib.hid (hB3.out.trans ((below_regrown w9 dq osq).mono hB3.out.size))
                    clear m1 m2 m3 hcx hcr hcs hcrs hcas hcap
                    generalize grow (redrawn w9 dq) osq = wq at *
                    go_wp2_with fail
                    go_roundw
                    case rel => exact ⟨k + 1, by omega, by go_num, hb3⟩
                    case measure => simp [intOf]; omega
                · obtain rfl : k = K := by omega
                  go_wp2_with fail
                  go_roundw
                  case rel => exact ⟨p + 1, by omega, by go_num, Lib.hid (by rw [HAS.out]; rfl), hB3⟩
                  case measure => simp [intOf]; omega
            · simp only [hpl, decide_false] at hcr
              simp only [hpl, if_false] at HAS
              clear hpl
              go_upto_region 23 with fail
              by_cases h0 : 0 < K
              · have h0i : (0 : Int) < (K : Int) := by omega
                go_loopw [13] (fun i wr => i = .int .i64 0 ∧ w8 = wr) (fun _ _ => 0)
                case atStart => exact ⟨rfl, rfl⟩
                case round =>
                  obtain ⟨rfl, rfl⟩ := hrel
                  go_wp2_with fail
                  go_roundw
                  case rel => exact ⟨p + 1, by omega, by go_num, Lib.hid (by rw [HAS.out]; rfl), hB2⟩
                  case measure => simp [intOf]; omega
              · obtain rfl : K = 0 := by omega
                go_loopw [13] (fun i wr => i = .int .i64 0 ∧ w8 = wr) (fun _ _ => 0)
                case atStart => exact ⟨rfl, rfl⟩
                case round =>
                  obtain ⟨rfl, rfl⟩ := hrel
                  go_wp2_with fail
                  go_roundw
                  case rel => exact ⟨p + 1, by omega, by go_num, Lib.hid (by rw [HAS.out]; rfl), hB2⟩
                  case measure => simp [intOf]; omega
          · obtain rfl : p = n := by omega
            have HAM := Lib.hid (among_all HND.out HLT.out)
            rw [HAM.out, HLL.out]
            by_cases h0 : 0 < q
            · obtain ⟨b, o, rfl, hb, e1⟩ := HI7.out 0 (by rw [zs_length, HLL.out]; exact h0)
              have hc0 := (hB2.out.cell (p := ⟨b, o + 0, none⟩) hb).trans e1
              rw [Nat.add_zero] at hc0
              rw [zs_get, HHD.out (by rw [HLL.out]; exact h0)] at hc0
              have hq0 : ¬ q = 0 := by omega
              have h0i : (0 : Int) < (q : Int) := by omega
              clear e1
              go_wp2_with fail
              go_ret
              exact ⟨rfl, HB7.out.trans (hB2.out.mono HB7.out.size)⟩
            · obtain rfl : q = 0 := by omega
              go_wp2_with fail
              go_ret
              exact ⟨rfl, HB7.out.trans (hB2.out.mono HB7.out.size)⟩
  · go_wp2_with (go_at_call 10; refine (HFW.out _ HB1.out).mono ?_; rintro e w2 ⟨bf, rfl, hbf, hb2⟩; obtain rfl : bf = false := (by cases bf; rfl; exact absurd (hbf.1 rfl) hF); have HB2 := Lib.hid (HB1.out.trans (hb2.mono HB1.out.size)); clear hbf hb2)
    go_ret
    exact ⟨rfl, HB2.out⟩
end Go.Proofs.Ytcbfmplddjmiaaa
