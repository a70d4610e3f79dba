/- Instructions: Reach. -/
import Derived.Test.YtmcbedlmgffckaaDoorInsG
namespace Go.Proofs.YtmcbedlmgffckaaDoor.Bi
open Go Go.RowKit Go.Sort

theorem ok_ext' {n : Nat} {ws us : List Nat} (h : Ok n ws) (k : Ok n us) (hb : ∀ i, bitAt ws i = bitAt us i) : ws = us := h.ext k fun i _ => hb i
theorem Ok.zero0 : Ok 0 (List.replicate (wcount 0) 0) := ok_zeros (by decide)
theorem union_zero {n : Nat} {ws : List Nat} (h : Ok n ws) : joinW orN n 0 ws (List.replicate (wcount 0) 0) = ws := by
  have hu := Ok.union h Ok.zero0
  rw [Nat.max_eq_left (Nat.zero_le n)] at hu
  exact ok_ext' hu h fun i => by rw [bit_union h Ok.zero0, bitAt_zeros]; simp
/-- What gets past an instruction. -/
def reachW (n : Nat) (ws : List Nat) (i : Ins) (ids : List Int) : List Nat := if i.defn < 0 then ws else putW n (joinW minusN n n ws (ofW n ids)) i.id
theorem ok_minus_of {n : Nat} {ws : List Nat} (h : Ok n ws) (ids : List Int) : Ok n (joinW minusN n n ws (ofW n ids)) := by
  have := Ok.minus h (ok_of h.le ids)
  rwa [Nat.max_self] at this
theorem Ok.reach {n : Nat} {ws : List Nat} (h : Ok n ws) (i : Ins) (ids : List Int) : Ok n (reachW n ws i ids) := by
  unfold reachW
  split
  · exact h
  · exact (ok_minus_of h ids).put _
theorem defn_none (i : Ins) : i.defn < 0 ↔ i.defn = -1 := by
  unfold Ins.defn
  split
  · rename_i h
    have := form_dst h.1
    constructor <;> intro h <;> omega
  · simp
theorem New0_any (w : World) :
    Calls Tryd.prog 29 #[.int .i64 0] w fun e w' => ∃ g, e = .returned (.agg #[.int .i64 0, .slice (some ⟨g, 0, none⟩) 0 0]) ∧ Fresh w.heap.size w' g (List.replicate (wcount 0) 0) ∧ Below w.heap.size w w' := new_any 0 w
theorem OfA_any {n K : Nat} (hn : n ≤ 1024) (hK : wcount n = K) {a : Option Addr} {l : List Int} {T cap : Nat} {W : World} (hIs : Is W.heap.size W a l) (hT : l.length = T) (hl : T ≤ 2000) :
    Calls Tryd.prog 40 #[.int .i64 (n : Int), .slice a T cap] W fun e w' => ∃ g, e = .returned (.agg #[.int .i64 (n : Int), .slice (some ⟨g, 0, none⟩) K K]) ∧ Fresh W.heap.size w' g (ofW n l) ∧ Below W.heap.size W w' := by
  subst hT
  have h := Of_any (n : Int) a l cap W hIs hl
  rw [clamp_of_le hn, hK] at h
  exact h

set_option maxRecDepth 100000 in
set_option maxHeartbeats 16000000 in
theorem Reach_any (r : Int) (a0 : Option Addr) (len cap0 : Nat) (n : Nat) (ws : List Nat) (i : Ins) (ai : Option Addr) (ids : List Int) (T capi : Nat) (w : World) (ha : Acts w (.agg #[.int .i64 r, .slice a0 len cap0]) n ws) (hIs : Is w.heap.size w ai ids) (hTl : ids.length = T) (hTm : T ≤ 2000) (hT : KTab w) (K : Nat) (hK : ws.length = K) (js : List Nat) (hj : reachW n ws i ids = js) :
    Calls Tryd.prog 23 #[.agg #[.int .i64 r, .slice a0 len cap0], i.val, .slice ai T capi] w fun e w' => ∃ a' cap', e = .returned (.agg #[.int .i64 (n : Int), .slice a' K cap']) ∧ FreshV w.heap.size w' a' js ∧ Below w.heap.size w w' := by
  have hok := ha.ok
  have hb3 := below3 w (.cells #[.int .i64 r, .slice a0 len cap0] 38) (.cells i.cells.toArray 24) (.cells #[.int .i64 0, .slice none 0 0] 38)
  have BS := ((Box.new w (.int .i64 r) (.slice a0 len cap0) 38).alloc (.cells i.cells.toArray 24)).alloc (.cells #[.int .i64 0, .slice none 0 0] 38)
  have BI := (BoxL.new (w.alloc (.cells #[.int .i64 r, .slice a0 len cap0] 38)) i.cells 24).alloc (Nat.zero_lt_succ _) (.cells #[.int .i64 0, .slice none 0 0] 38)
  have BR := Box.new ((w.alloc (.cells #[.int .i64 r, .slice a0 len cap0] 38)).alloc (.cells i.cells.toArray 24)) (.int .i64 0) (.slice none 0 0) 38
  have hsz : (((w.alloc (.cells #[.int .i64 r, .slice a0 len cap0] 38)).alloc (.cells i.cells.toArray 24)).alloc (.cells #[.int .i64 0, .slice none 0 0] 38)).heap.size = w.heap.size + 3 := by simp
  simp only [World.size_alloc] at BI BR
  have HA := Lib.hid (ha.below hb3)
  have HIs := Lib.hid hIs
  have HT0 := Lib.hid hT
  have HD := Lib.hid (fun W (h : KTab W) => Def_any i W h _ rfl)
  have HJ : Hid ((i.defn = -1 → js = ws) ∧ (i.defn ≠ -1 → js = putW n (joinW minusN n n ws (ofW n ids)) i.id)) := by
    refine ⟨fun h => ?_, fun h => ?_⟩
    · rw [← hj]; unfold reachW; rw [if_pos ((defn_none i).2 h)]
    · rw [← hj]; unfold reachW; rw [if_neg (fun g => h ((defn_none i).1 g))]
  clear hj
  have HOK := Lib.hid hok
  have HKW : Hid (wcount n = K) := by show _ = _; rw [← hok.len]; exact hK
  generalize i.defn = d at *
  obtain ⟨id, kind, dst, a, b, c, f, n', x0, x1, x2⟩ := i
  unfold Ins.val at *
  unfold Ins.cells at *
  dsimp only at *
  generalize hE : ((w.alloc (.cells #[.int .i64 r, .slice a0 len cap0] 38)).alloc (.cells (List.toArray [.int .i64 id, .int .i64 kind, .int .i64 dst, .int .i64 a, .int .i64 b, .int .i64 c, .int .i64 f, .int .i64 n', .int .i64 x0, .int .i64 x1, .int .i64 x2]) 24)).alloc (.cells #[.int .i64 0, .slice none 0 0] 38) = W at *
  have hE' : ((w.alloc (.cells #[.int .i64 r, .slice a0 len cap0] 38)).alloc (.cells #[.int .i64 id, .int .i64 kind, .int .i64 dst, .int .i64 a, .int .i64 b, .int .i64 c, .int .i64 f, .int .i64 n', .int .i64 x0, .int .i64 x1, .int .i64 x2] 24)).alloc (.cells #[.int .i64 0, .slice none 0 0] 38) = W := hE
  have HW := Lib.hid hb3
  have HZ := Lib.hid hsz
  have HS0 := Lib.hid BS
  have HI0 := Lib.hid BI
  have HR0 := Lib.hid BR
  have HTL := Lib.hid hTl
  clear ha hok hb3 BS BI BR hsz hT hE hK hIs hTl
  go_enter Tryd.func23, Tryd.ntmps23
  go_wp2_with fail
  try rw [hE']
  clear hE'
  have hS : Hid (∀ w', Below W.heap.size W w' → w'.cell? ⟨w.heap.size, 0, none⟩ = some (.int .i64 r) ∧ w'.cell? ⟨w.heap.size, 1, none⟩ = some (.slice a0 len cap0)) := fun w' hb' => ⟨(HS0.out.below hb' HS0.out.lt).c0, (HS0.out.below hb' HS0.out.lt).c1⟩
  have HBN : Hid (Below W.heap.size W W.drew) := (Below.refl _ _).drew
  refine wp_region_late (fun w' => w'.cell? ⟨w.heap.size, 0, none⟩ = some (.int .i64 r) ∧ w'.cell? ⟨w.heap.size, 1, none⟩ = some (.slice a0 len cap0)) 3 (by kernel_rfl) (hS.out _ (Below.refl _ _).drew) (fun hHeld => ?_)
  refine wpAnyE_take (i := 0) (v := ?v0) rfl (by kernel_rfl) (fun _ _ _ h => h) hHeld (by rfl) ?y0 ?_
  case y0 => (intro w' hSw; (try dsimp only at hSw); go_simp <;> with_reducible rfl)
  refine wpAnyE_one (i := 1) (by kernel_rfl) rfl (fun K hK => ?_)
  go_simp
  go_at_call 29
  refine (New0_any _).mono ?_
  rintro e wn ⟨g0, rfl, hF0, hbn⟩
  have HA0 := Lib.hid (Acts.fresh hF0 Ok.zero0 rfl)
  clear hF0
  have hbx := HBN.out.trans (hbn.mono HBN.out.size)
  clear HBN hbn
  have HBN := Lib.hid hbx
  clear hbx
  go_wp2_with fail
  refine hK.out _ _ ?_ (fun hHeld => ?_)
  · exact hS.out _ HBN.out
  clear hK K
  refine wpAnyE_one (i := 2) (by kernel_rfl) rfl (fun K hK => ?_)
  go_simp
  go_at_call 28
  refine (Union_acts (HA.out.below HBN.out) HA0.out (Nat.max_eq_left (Nat.zero_le n)) HKW.out).mono ?_
  rintro e w1 ⟨g1, rfl, hF, hbn⟩
  rw [union_zero HOK.out] at hF
  have HF1 := Lib.hid (hF.base HBN.out.size)
  clear hF HA0
  have hbx := HBN.out.trans (hbn.mono HBN.out.size)
  clear HBN hbn
  have HBN := Lib.hid hbx
  clear hbx
  go_wp2_with fail
  refine hK.out _ _ ?_ (fun hHeld => ?_)
  · exact hS.out _ HBN.out
  clear hK K
  refine wpAnyE_tail 3 (by decide) rfl (by kernel_rfl) ?_
  simp only [List.drop_succ_cons, List.drop_zero]
  obtain ⟨s0, s1, f0, f1⟩ := (HS0.out.below HBN.out HS0.out.lt)
  have hz1 : w.heap.size + 3 ≤ w1.heap.size := by rw [← HZ.out]; exact HBN.out.size
  have hbi := HI0.out.below HBN.out (HI0.out.lt (Nat.zero_lt_succ _))
  have HBI2 := Lib.hid ((hbi.far (g := w.heap.size) (by omega) 0 (.int .i64 (n : Int))).far (g := w.heap.size) (by omega) 1 (.slice (some ⟨g1, 0, none⟩) K K))
  have HBS2 := Lib.hid ((HS0.out.below HBN.out HS0.out.lt).put (.int .i64 (n : Int)) (.slice (some ⟨g1, 0, none⟩) K K))
  have HBR2 := Lib.hid ((HR0.out.below HBN.out HR0.out.lt).other (b' := w.heap.size) (by omega) (.int .i64 (n : Int)) (.slice (some ⟨g1, 0, none⟩) K K))
  have HF2 := Lib.hid ((HZ.out ▸ HF1.out).block (W' := (w1.setCell ⟨w.heap.size, 0, none⟩ (.int .i64 (n : Int))).setCell ⟨w.heap.size, 1, none⟩ (.slice (some ⟨g1, 0, none⟩) K K)) (heap_put2 _ _ _ _ _ (by have := HF1.out.1; rw [HZ.out] at this; omega)))
  have HW2 := Lib.hid (below_put2 (HW.out.trans (HBN.out.mono HW.out.size)) (Nat.le_refl _) (.int .i64 (n : Int)) (.slice (some ⟨g1, 0, none⟩) K K))
  have HZ2 : Hid (w.heap.size + 3 ≤ ((w1.setCell ⟨w.heap.size, 0, none⟩ (.int .i64 (n : Int))).setCell ⟨w.heap.size, 1, none⟩ (.slice (some ⟨g1, 0, none⟩) K K)).heap.size) := by show _ ≤ _; rw [size_put2]; exact hz1
  clear hz1 hbi HS0 HI0 HR0 HF1 HW HA hS HBN
  have k0 := (HBI2.out 0 _ rfl).1
  have k1 := (HBI2.out 1 _ rfl).1
  have k2 := (HBI2.out 2 _ rfl).1
  have k3 := (HBI2.out 3 _ rfl).1
  have k4 := (HBI2.out 4 _ rfl).1
  have k5 := (HBI2.out 5 _ rfl).1
  have k6 := (HBI2.out 6 _ rfl).1
  have k7 := (HBI2.out 7 _ rfl).1
  have k8 := (HBI2.out 8 _ rfl).1
  have k9 := (HBI2.out 9 _ rfl).1
  have k10 := (HBI2.out 10 _ rfl).1
  by_cases hd : d = -1
  · subst hd
    have HJ1 := Lib.hid (HJ.out.1 rfl)
    clear HJ
    go_wp2_with (go_at_call 12; refine (HD.out _ (HT0.out.on HW2.out)).mono ?_; rintro e w3 ⟨rfl, hb3⟩; have HB3 := Lib.hid hb3; clear hb3 k0 k1 k2 k3 k4 k5 k6 k7 k8 k9 k10 s0 s1 f0 f1; obtain ⟨s0, s1, -, -⟩ := HBS2.out.below HB3.out HBS2.out.lt; obtain ⟨r0, r1, f0, f1⟩ := HBR2.out.below HB3.out HBR2.out.lt)
    have hz2 := HZ2.out
    have hF3 := HF2.out.below HB3.out HF2.out.lt
    have hFe : FreshV w.heap.size ((w3.setCell ⟨w.heap.size + 1 + 1, 0, none⟩ (.int .i64 (n : Int))).setCell ⟨w.heap.size + 1 + 1, 1, none⟩ (.slice (some ⟨g1, 0, none⟩) K K)) (some ⟨g1, 0, none⟩) js := by
      rw [HJ1.out]
      exact .inr ⟨g1, rfl, (hF3.block (heap_put2 _ _ _ _ _ (by have := hF3.1; omega))).base (by omega)⟩
    have hBe := below_put2 (HW2.out.trans (HB3.out.mono HW2.out.size)) (b := w.heap.size + 1 + 1) (by omega) (.int .i64 (n : Int)) (.slice (some ⟨g1, 0, none⟩) K K)
    refine bodyPost_ret (v := .agg #[.int .i64 (n : Int), .slice (some ⟨g1, 0, none⟩) K K]) (by simp [results, Tryd.results23, go_sem, r0, r1]) rfl ?_
    first
      | exact ⟨_, K, rfl, hFe, hBe⟩
      | exact ⟨_, ⟨K, rfl⟩, hFe, hBe⟩
  · have HJ2 := Lib.hid (HJ.out.2 hd)
    clear HJ
    have hd' : (d == -1) = false := by simpa using hd
    go_wp2_with (go_at_call 12; refine (HD.out _ (HT0.out.on HW2.out)).mono ?_; rintro e w3 ⟨rfl, hb3⟩; have HB3 := Lib.hid hb3; clear hb3 k0 k1 k2 k3 k4 k5 k6 k7 k8 k9 k10 s0 s1 f0 f1)
    have hS : Hid (∀ w', Below w3.heap.size w3 w' → w'.cell? ⟨w.heap.size, 0, none⟩ = some (.int .i64 (n : Int)) ∧ w'.cell? ⟨w.heap.size, 1, none⟩ = some (.slice (some ⟨g1, 0, none⟩) K K) ∧ w'.cell? ⟨w.heap.size + 1, 0, none⟩ = some (.int .i64 id)) := fun w' hb' => ⟨((HBS2.out.below HB3.out HBS2.out.lt).below hb' (Box.lt (HBS2.out.below HB3.out HBS2.out.lt))).c0, ((HBS2.out.below HB3.out HBS2.out.lt).below hb' (Box.lt (HBS2.out.below HB3.out HBS2.out.lt))).c1, (((HBI2.out.below HB3.out (HBI2.out.lt (Nat.zero_lt_succ _))).below hb' (BoxL.lt (HBI2.out.below HB3.out (HBI2.out.lt (Nat.zero_lt_succ _))) (Nat.zero_lt_succ _))) 0 _ rfl).1⟩
    have HW3 := Lib.hid (HW2.out.trans (HB3.out.mono HW2.out.size))
    have HI3 := Lib.hid ((HIs.out.below HW3.out).mono HW3.out.size)
    have HF3 := Lib.hid (HF2.out.below HB3.out HF2.out.lt)
    have HBR3 := Lib.hid (HBR2.out.below HB3.out HBR2.out.lt)
    have HZ3 : Hid (w.heap.size + 3 ≤ w3.heap.size) := Nat.le_trans HZ2.out HB3.out.size
    have HAS := Lib.hid (Acts.fresh HF3.out HOK.out HKW.out)
    have HKM : Hid ((joinW minusN n n ws (ofW n ids)).length = K) := by show _ = _; rw [(ok_minus_of HOK.out ids).len]; exact HKW.out
    have HBN : Hid (Below w3.heap.size w3 w3.drew) := (Below.refl _ _).drew
    clear HBS2 HBI2 HBR2 HF2 HW2 HZ2 HB3 HD HIs hd'
    refine wp_region_late (fun w' => w'.cell? ⟨w.heap.size, 0, none⟩ = some (.int .i64 (n : Int)) ∧ w'.cell? ⟨w.heap.size, 1, none⟩ = some (.slice (some ⟨g1, 0, none⟩) K K) ∧ w'.cell? ⟨w.heap.size + 1, 0, none⟩ = some (.int .i64 id)) 9 (by kernel_rfl) (hS.out _ (Below.refl _ _).drew) (fun hHeld => ?_)
    refine wpAnyE_take (i := 0) (v := ?vb0) rfl (by kernel_rfl) (fun _ _ _ h => h) hHeld (by rfl) ?yb0 ?_
    case yb0 => (intro w' hSw; (try dsimp only at hSw); go_simp <;> with_reducible rfl)
    refine wpAnyE_take (i := 1) (v := ?vb1) rfl (by kernel_rfl) (fun _ _ _ h => h) hHeld (by rfl) ?yb1 ?_
    case yb1 => (intro w' hSw; (try dsimp only at hSw); go_simp <;> with_reducible rfl)
    refine wpAnyE_take (i := 2) (v := ?vb2) rfl (by kernel_rfl) (fun _ _ _ h => h) hHeld (by rfl) ?yb2 ?_
    case yb2 => (intro w' hSw; (try dsimp only at hSw); go_simp <;> with_reducible rfl)
    refine wpAnyE_take (i := 3) (v := ?vb3) rfl (by kernel_rfl) (fun _ _ _ h => h) hHeld (by rfl) ?yb3 ?_
    case yb3 => (intro w' hSw; (try dsimp only at hSw); go_simp <;> with_reducible rfl)
    refine wpAnyE_take (i := 6) (v := ?vb6) rfl (by kernel_rfl) (fun _ _ _ h => h) hHeld (by rfl) ?yb6 ?_
    case yb6 => (intro w' hSw; (try dsimp only at hSw); go_simp <;> with_reducible rfl)
    refine wpAnyE_take (i := 7) (v := ?vb7) rfl (by kernel_rfl) (fun _ _ _ h => h) hHeld (by rfl) ?yb7 ?_
    case yb7 => (intro w' hSw; (try dsimp only at hSw); go_simp <;> with_reducible rfl)
    refine wpAnyE_one (i := 4) (by kernel_rfl) rfl (fun K hK => ?_)
    go_simp
    go_at_call 40
    refine (OfA_any HOK.out.le HKW.out ((HI3.out.below HBN.out).mono HBN.out.size) HTL.out hTm).mono ?_
    rintro e wn ⟨g4, rfl, hF4, hbn⟩
    have HA4 := Lib.hid (Acts.fresh hF4 (ok_of HOK.out.le ids) HKW.out)
    clear hF4
    have hbx := HBN.out.trans (hbn.mono HBN.out.size)
    clear HBN hbn
    have HBN := Lib.hid hbx
    clear hbx
    go_wp2_with fail
    refine hK.out _ _ ?_ (fun hHeld => ?_)
    · exact hS.out _ HBN.out
    clear hK K
    refine wpAnyE_one (i := 5) (by kernel_rfl) rfl (fun K hK => ?_)
    go_simp
    go_at_call 56
    refine (Minus_acts (HAS.out.below HBN.out) HA4.out (Nat.max_self n) HKW.out).mono ?_
    rintro e w5 ⟨g5, rfl, hF5, hbn⟩
    have HA5 := Lib.hid (Acts.fresh hF5 (ok_minus_of HOK.out ids) HKW.out)
    clear hF5 HA4
    have hbx := HBN.out.trans (hbn.mono HBN.out.size)
    clear HBN hbn
    have HBN := Lib.hid hbx
    clear hbx
    go_wp2_with fail
    refine hK.out _ _ ?_ (fun hHeld => ?_)
    · exact hS.out _ HBN.out
    clear hK K
    refine wpAnyE_one (i := 8) (by kernel_rfl) rfl (fun K hK => ?_)
    go_simp
    go_at_call 55
    refine (With_acts HA5.out id HKM.out).mono ?_
    rintro e w6 ⟨a6, cap6, rfl, hF6, hbn⟩
    rw [← HJ2.out] at hF6
    have HF6 := Lib.hid (hF6.base (Nat.le_trans HZ3.out HBN.out.size))
    clear hF6 HA5
    have hbx := HBN.out.trans (hbn.mono HBN.out.size)
    clear HBN hbn
    have HBN := Lib.hid hbx
    clear hbx
    go_wp2_with fail
    refine hK.out _ _ ?_ (fun hHeld => ?_)
    · exact hS.out _ HBN.out
    clear hK K
    refine wpAnyE_tail 9 (by decide) rfl (by kernel_rfl) ?_
    simp only [List.drop_succ_cons, List.drop_zero]
    obtain ⟨r0, r1, f0, f1⟩ := (HBR3.out.below HBN.out HBR3.out.lt)
    go_wp2_with fail
    have hFe : FreshV w.heap.size ((w6.setCell ⟨w.heap.size + 1 + 1, 0, none⟩ (.int .i64 (n : Int))).setCell ⟨w.heap.size + 1 + 1, 1, none⟩ (.slice a6 K cap6)) a6 js := HF6.out.block (by omega) (fun g h1 _ => heap_put2 _ _ _ _ _ (by omega))
    have hBe := below_put2 (HW3.out.trans (HBN.out.mono HW3.out.size)) (b := w.heap.size + 1 + 1) (by omega) (.int .i64 (n : Int)) (.slice a6 K cap6)
    obtain ⟨q0, q1, -, -⟩ := (HBR3.out.below HBN.out HBR3.out.lt).put (.int .i64 (n : Int)) (.slice a6 K cap6)
    refine bodyPost_ret (v := .agg #[.int .i64 (n : Int), .slice a6 K cap6]) (by simp [results, Tryd.results23, go_sem, r0, r1]) rfl ?_
    first
      | exact ⟨_, cap6, rfl, hFe, hBe⟩
      | exact ⟨_, ⟨cap6, rfl⟩, hFe, hBe⟩
end Go.Proofs.YtmcbedlmgffckaaDoor.Bi
