/- Instructions: Live. -/
import Derived.Test.YtmcbedlmgffckaaDoorLate
import Derived.Test.YtmcbedlmgffckaaDoorInsF2
namespace Go.Proofs.YtmcbedlmgffckaaDoor.Bi
open Go Go.RowKit Go.Sort

/-- Numbers of the call's own, from the block n0 on. -/
def OwnI (n0 : Nat) (W : World) (a : Option Addr) (l : List Int) : Prop := l = [] ∨ ∃ g, a = some ⟨g, 0, none⟩ ∧ n0 ≤ g ∧ g < W.heap.size ∧ ∀ j, j < l.length → W.cell? ⟨g, j, none⟩ = some (.int .i64 (l[j]?.getD 0))
theorem ownI_of {n0 : Nat} {W : World} {u : Value} {l : List Int} {T : Nat} (h : W.ownsRow n0 3 1 u T (l.map (Value.int .i64))) : ∃ a cap, u = .slice a T cap ∧ l.length = T ∧ OwnI n0 W a l := by
  obtain ⟨hlen, ⟨rfl, h0⟩ | ⟨g, cap, cur, rfl, hb, hc, hle, hle2, hsz, htk⟩⟩ := h
  · subst h0
    have : l = [] := by simpa using hlen
    subst this
    exact ⟨none, 0, rfl, rfl, .inl rfl⟩
  · have hl : l.length = T := by simpa using hlen
    refine ⟨_, cap, rfl, hl, .inr ⟨g, rfl, hb, (Array.getElem?_eq_some_iff.1 hc).1, fun j hj => ?_⟩⟩
    have ht : cur[j]? = (l.map (Value.int .i64))[j]? := by rw [← htk, List.getElem?_take_of_lt (by omega), Array.getElem?_toList]
    rw [cell_of_row _ _ j cur 3 (0, 0) hc, ht]
    simp [hj]
theorem OwnI.is {n0 : Nat} {W : World} {a : Option Addr} {l : List Int} (h : OwnI n0 W a l) : Is W.heap.size W a l := by
  rcases h with rfl | ⟨g, rfl, -, hlt, hc⟩
  · exact fun j hj => absurd hj (Nat.not_lt_zero _)
  · exact fun j hj => ⟨g, 0, rfl, hlt, by rw [Nat.zero_add]; exact hc j hj⟩
theorem OwnI.block {n0 n1 : Nat} {W W' : World} {a : Option Addr} {l : List Int} (h : OwnI n0 W a l) (hn : n1 ≤ n0) (hs : W.heap.size ≤ W'.heap.size) (hb : ∀ g, n0 ≤ g → g < W.heap.size → W'.heap[g]? = W.heap[g]?) : OwnI n1 W' a l :=
  h.imp id fun ⟨g, e, h1, h2, hc⟩ => ⟨g, e, Nat.le_trans hn h1, Nat.lt_of_lt_of_le h2 hs, fun j hj => (World.cell?_of_block (w := W) (hb g h1 h2)).trans (hc j hj)⟩
theorem FreshV.block {n0 n1 : Nat} {W W' : World} {a : Option Addr} {ws : List Nat} (h : FreshV n0 W a ws) (hn : n1 ≤ n0) (hb : ∀ g, n0 ≤ g → g < W.heap.size → W'.heap[g]? = W.heap[g]?) : FreshV n1 W' a ws :=
  h.imp id fun ⟨g, e, hF⟩ => ⟨g, e, (hF.block (hb g hF.1 hF.lt)).base hn⟩
theorem FreshV.acts {n0 : Nat} {W : World} {a : Option Addr} {ws : List Nat} {n K cap : Nat} (h : FreshV n0 W a ws) (hok : Ok n ws) (hK : ws.length = K) : Acts W (.agg #[.int .i64 (n : Int), .slice a K cap]) n ws := by
  subst hK; exact Acts.of_sv ⟨a, cap, rfl, h.wd⟩ hok
theorem With_acts {v : Value} {n : Nat} {ws : List Nat} {W : World} (ha : Acts W v n ws) (i : Int) {K : Nat} (hK : ws.length = K) :
    Calls Tryd.prog 55 #[v, .int .i64 i] W fun e w' => ∃ a' cap', e = .returned (.agg #[.int .i64 (n : Int), .slice a' K cap']) ∧ FreshV W.heap.size w' a' (putW n ws i) ∧ Below W.heap.size W w' := by
  obtain ⟨r, rs, hv, a1, a2, rfl, rfl⟩ := ha
  subst hK
  exact With_any v r rs i W hv a1 a2
theorem Without_acts {v : Value} {n : Nat} {ws : List Nat} {W : World} (ha : Acts W v n ws) (i : Int) {K : Nat} (hK : ws.length = K) :
    Calls Tryd.prog 62 #[v, .int .i64 i] W fun e w' => ∃ a' cap', e = .returned (.agg #[.int .i64 (n : Int), .slice a' K cap']) ∧ FreshV W.heap.size w' a' (dropW n ws i) ∧ Below W.heap.size W w' := by
  obtain ⟨r, rs, hv, a1, a2, rfl, rfl⟩ := ha
  subst hK
  exact Without_any v r rs i W hv a1 a2
/-- What is live ahead of an instruction. -/
def liveW (n : Nat) (ws : List Nat) (i : Ins) : List Nat := i.uses.foldl (putW n) (dropW n ws i.defn)
theorem Ok.live {n : Nat} {ws : List Nat} (h : Ok n ws) (i : Ins) : Ok n (liveW n ws i) := ok_foldl _ _ (h.drop _)
def liveTo (n : Nat) (ws : List Nat) (l : List Int) (q : Nat) : List Nat := (l.take q).foldl (putW n) ws
theorem liveTo_succ (n : Nat) (ws : List Nat) (l : List Int) (q : Nat) (h : q < l.length) (x : Int) (hx : l[q]?.getD 0 = x) : liveTo n ws l (q + 1) = putW n (liveTo n ws l q) x := by
  unfold liveTo
  rw [List.take_succ_eq_append_getElem h, List.foldl_append]
  rw [List.getElem?_eq_getElem h] at hx
  simp at hx
  simp [hx]
theorem liveTo_ok {n : Nat} {ws : List Nat} (h : Ok n ws) (l : List Int) (q : Nat) : Ok n (liveTo n ws l q) := ok_foldl _ _ h
theorem liveTo_all {n : Nat} {ws : List Nat} {l : List Int} {m : Nat} (h : l.length = m) : liveTo n ws l m = l.foldl (putW n) ws := by unfold liveTo; rw [List.take_of_length_le (by omega)]
theorem uses_le (i : Ins) : i.uses.length ≤ 5 := by
  unfold Ins.uses
  split
  · have h1 : ∀ (m l : List Int), (m.foldl addL l).length ≤ l.length + m.length := by
      intro m
      induction m with
      | nil => intro l; simp
      | cons x r ih => intro l; have := ih (addL l x); have := addL_length l x; simp only [List.foldl_cons, List.length_cons]; omega
    have h2 := h1 (i.args.take i.n.toNat) (addIf (Go.Proofs.YtmcbedlmgffckaaDoor.hasB i.kind) (addIf (Go.Proofs.YtmcbedlmgffckaaDoor.hasA i.kind) [] i.a) i.b)
    have h3 : (i.args.take i.n.toNat).length ≤ 3 := by rw [List.length_take]; exact Nat.le_trans (Nat.min_le_right _ _) (by simp [Ins.args])
    have h4 : ∀ (p : Bool) (l : List Int) (x : Int), (addIf p l x).length ≤ l.length + 1 := by intro p l x; unfold addIf; split; exact addL_length l x; omega
    have h5 := h4 (Go.Proofs.YtmcbedlmgffckaaDoor.hasB i.kind) (addIf (Go.Proofs.YtmcbedlmgffckaaDoor.hasA i.kind) [] i.a) i.b
    have h6 := h4 (Go.Proofs.YtmcbedlmgffckaaDoor.hasA i.kind) [] i.a
    simp at h6
    omega
  · simp

set_option maxRecDepth 100000 in
set_option maxHeartbeats 16000000 in
theorem Live_any (r : Int) (a0 : Option Addr) (len cap0 : Nat) (n : Nat) (ws : List Nat) (i : Ins) (w : World) (ha : Acts w (.agg #[.int .i64 r, .slice a0 len cap0]) n ws) (hT : KTab w) (K : Nat) (hK : ws.length = K) (js : List Nat) (hj : liveW n ws i = js) :
    Calls Tryd.prog 26 #[.agg #[.int .i64 r, .slice a0 len cap0], i.val] w fun e w' => ∃ a' cap', e = .returned (.agg #[.int .i64 (n : Int), .slice a' K cap']) ∧ FreshV w.heap.size w' a' js ∧ Below w.heap.size w w' := by
  subst hj
  have hok := ha.ok
  have hb3 := below3 w (.cells #[.int .i64 r, .slice a0 len cap0] 38) (.cells i.cells.toArray 24) (.cells #[.int .i64 0, .slice none 0 0] 38)
  have BS := ((Box.new w (.int .i64 r) (.slice a0 len cap0) 38).alloc (.cells i.cells.toArray 24)).alloc (.cells #[.int .i64 0, .slice none 0 0] 38)
  have BI := (BoxL.new (w.alloc (.cells #[.int .i64 r, .slice a0 len cap0] 38)) i.cells 24).alloc (Nat.zero_lt_succ _) (.cells #[.int .i64 0, .slice none 0 0] 38)
  have BR := Box.new ((w.alloc (.cells #[.int .i64 r, .slice a0 len cap0] 38)).alloc (.cells i.cells.toArray 24)) (.int .i64 0) (.slice none 0 0) 38
  have hsz : (((w.alloc (.cells #[.int .i64 r, .slice a0 len cap0] 38)).alloc (.cells i.cells.toArray 24)).alloc (.cells #[.int .i64 0, .slice none 0 0] 38)).heap.size = w.heap.size + 3 := by simp
  simp only [World.size_alloc] at BI BR
  have HA := Lib.hid (ha.below hb3)
  have HT := Lib.hid (hT.on hb3)
  have HT0 := Lib.hid hT
  have HD := Lib.hid (fun W (h : KTab W) => Def_any i W h _ rfl)
  have HU := Lib.hid (fun W (h : KTab W) => Uses_any i W h)
  have HUL := Lib.hid (uses_le i)
  unfold liveW
  generalize i.defn = d at *
  generalize i.uses = us at *
  obtain ⟨ds, hds⟩ : ∃ ds, dropW n ws d = ds := ⟨_, rfl⟩
  rw [hds]
  have HDS := Lib.hid hds
  clear hds
  obtain ⟨id, kind, dst, a, b, c, f, n', x0, x1, x2⟩ := i
  unfold Ins.val at *
  unfold Ins.cells at *
  dsimp only at *
  obtain ⟨m, hm⟩ : ∃ m, us.length = m := ⟨_, rfl⟩
  rw [hm] at HU HUL
  have HM := Lib.hid hm
  have HOK := Lib.hid hok
  have HK := Lib.hid hK
  generalize hE : ((w.alloc (.cells #[.int .i64 r, .slice a0 len cap0] 38)).alloc (.cells (List.toArray [.int .i64 id, .int .i64 kind, .int .i64 dst, .int .i64 a, .int .i64 b, .int .i64 c, .int .i64 f, .int .i64 n', .int .i64 x0, .int .i64 x1, .int .i64 x2]) 24)).alloc (.cells #[.int .i64 0, .slice none 0 0] 38) = W at *
  have hE' : ((w.alloc (.cells #[.int .i64 r, .slice a0 len cap0] 38)).alloc (.cells #[.int .i64 id, .int .i64 kind, .int .i64 dst, .int .i64 a, .int .i64 b, .int .i64 c, .int .i64 f, .int .i64 n', .int .i64 x0, .int .i64 x1, .int .i64 x2] 24)).alloc (.cells #[.int .i64 0, .slice none 0 0] 38) = W := hE
  have HW := Lib.hid hb3
  have HZ := Lib.hid hsz
  have HS0 := Lib.hid BS
  have HI0 := Lib.hid BI
  have HR0 := Lib.hid BR
  clear ha hok hb3 BS BI BR hsz hT hE hm hK
  go_enter Tryd.func26, Tryd.ntmps26
  go_wp2_with fail
  try rw [hE']
  clear hE'
  have hS : Hid (∀ w', Below W.heap.size W w' → w'.cell? ⟨w.heap.size, 0, none⟩ = some (.int .i64 r) ∧ w'.cell? ⟨w.heap.size, 1, none⟩ = some (.slice a0 len cap0) ∧ w'.cell? ⟨w.heap.size + 1, 0, none⟩ = some (.int .i64 id) ∧ w'.cell? ⟨w.heap.size + 1, 1, none⟩ = some (.int .i64 kind) ∧ w'.cell? ⟨w.heap.size + 1, 2, none⟩ = some (.int .i64 dst) ∧ w'.cell? ⟨w.heap.size + 1, 3, none⟩ = some (.int .i64 a) ∧ w'.cell? ⟨w.heap.size + 1, 4, none⟩ = some (.int .i64 b) ∧ w'.cell? ⟨w.heap.size + 1, 5, none⟩ = some (.int .i64 c) ∧ w'.cell? ⟨w.heap.size + 1, 6, none⟩ = some (.int .i64 f) ∧ w'.cell? ⟨w.heap.size + 1, 7, none⟩ = some (.int .i64 n') ∧ w'.cell? ⟨w.heap.size + 1, 8, none⟩ = some (.int .i64 x0) ∧ w'.cell? ⟨w.heap.size + 1, 9, none⟩ = some (.int .i64 x1) ∧ w'.cell? ⟨w.heap.size + 1, 10, none⟩ = some (.int .i64 x2)) := fun w' hb' => ⟨(HS0.out.below hb' HS0.out.lt).c0, (HS0.out.below hb' HS0.out.lt).c1, ((HI0.out.below hb' (HI0.out.lt (Nat.zero_lt_succ _))) 0 _ rfl).1, ((HI0.out.below hb' (HI0.out.lt (Nat.zero_lt_succ _))) 1 _ rfl).1, ((HI0.out.below hb' (HI0.out.lt (Nat.zero_lt_succ _))) 2 _ rfl).1, ((HI0.out.below hb' (HI0.out.lt (Nat.zero_lt_succ _))) 3 _ rfl).1, ((HI0.out.below hb' (HI0.out.lt (Nat.zero_lt_succ _))) 4 _ rfl).1, ((HI0.out.below hb' (HI0.out.lt (Nat.zero_lt_succ _))) 5 _ rfl).1, ((HI0.out.below hb' (HI0.out.lt (Nat.zero_lt_succ _))) 6 _ rfl).1, ((HI0.out.below hb' (HI0.out.lt (Nat.zero_lt_succ _))) 7 _ rfl).1, ((HI0.out.below hb' (HI0.out.lt (Nat.zero_lt_succ _))) 8 _ rfl).1, ((HI0.out.below hb' (HI0.out.lt (Nat.zero_lt_succ _))) 9 _ rfl).1, ((HI0.out.below hb' (HI0.out.lt (Nat.zero_lt_succ _))) 10 _ rfl).1⟩
  have HBN : Hid (Below W.heap.size W W.drew) := (Below.refl _ _).drew
  refine wp_region_late (fun w' => w'.cell? ⟨w.heap.size, 0, none⟩ = some (.int .i64 r) ∧ w'.cell? ⟨w.heap.size, 1, none⟩ = some (.slice a0 len cap0) ∧ w'.cell? ⟨w.heap.size + 1, 0, none⟩ = some (.int .i64 id) ∧ w'.cell? ⟨w.heap.size + 1, 1, none⟩ = some (.int .i64 kind) ∧ w'.cell? ⟨w.heap.size + 1, 2, none⟩ = some (.int .i64 dst) ∧ w'.cell? ⟨w.heap.size + 1, 3, none⟩ = some (.int .i64 a) ∧ w'.cell? ⟨w.heap.size + 1, 4, none⟩ = some (.int .i64 b) ∧ w'.cell? ⟨w.heap.size + 1, 5, none⟩ = some (.int .i64 c) ∧ w'.cell? ⟨w.heap.size + 1, 6, none⟩ = some (.int .i64 f) ∧ w'.cell? ⟨w.heap.size + 1, 7, none⟩ = some (.int .i64 n') ∧ w'.cell? ⟨w.heap.size + 1, 8, none⟩ = some (.int .i64 x0) ∧ w'.cell? ⟨w.heap.size + 1, 9, none⟩ = some (.int .i64 x1) ∧ w'.cell? ⟨w.heap.size + 1, 10, none⟩ = some (.int .i64 x2)) 4 (by kernel_rfl) (hS.out _ (Below.refl _ _).drew) (fun hHeld => ?_)
  refine wpAnyE_take (i := 0) (v := ?v0) rfl (by kernel_rfl) (fun _ _ _ h => h) hHeld (by rfl) ?y0 ?_
  case y0 => (intro w' hSw; (try dsimp only at hSw); go_simp <;> with_reducible rfl)
  refine wpAnyE_take (i := 1) (v := ?v1) rfl (by kernel_rfl) (fun _ _ _ h => h) hHeld (by rfl) ?y1 ?_
  case y1 => (intro w' hSw; (try dsimp only at hSw); go_simp <;> with_reducible rfl)
  refine wpAnyE_one (i := 2) (by kernel_rfl) rfl (fun K hK => ?_)
  go_simp
  go_at_call 12
  refine (HD.out _ (HT.out.on HBN.out)).mono ?_
  rintro e wn ⟨rfl, hbn⟩
  have hbx := HBN.out.trans (hbn.mono HBN.out.size)
  clear HBN hbn
  have HBN := Lib.hid hbx
  clear hbx
  go_wp2_with fail
  refine hK.out _ _ ?_ (fun hHeld => ?_)
  · exact hS.out _ HBN.out
  clear hK K
  refine wpAnyE_one (i := 3) (by kernel_rfl) rfl (fun K hK => ?_)
  go_simp
  go_at_call 62
  refine (Without_acts (HA.out.below HBN.out) d HK.out).mono ?_
  rintro e w1 ⟨a1, cap1, rfl, hF, hbn⟩
  rw [HDS.out] at hF
  have HF1 := Lib.hid (hF.base HBN.out.size)
  clear hF
  have hbx := HBN.out.trans (hbn.mono HBN.out.size)
  clear HBN hbn
  have HBN := Lib.hid hbx
  clear hbx
  go_wp2_with fail
  refine hK.out _ _ ?_ (fun hHeld => ?_)
  · exact hS.out _ HBN.out
  clear hK K
  refine wpAnyE_tail 4 (by decide) rfl (by kernel_rfl) ?_
  simp only [List.drop_succ_cons, List.drop_zero]
  obtain ⟨s0, s1, f0, f1⟩ := (HS0.out.below HBN.out HS0.out.lt)
  have hX := HBN.out
  have hz1 : w.heap.size + 3 ≤ w1.heap.size := by rw [← HZ.out]; exact HBN.out.size
  have hbi := HI0.out.below HBN.out (HI0.out.lt (Nat.zero_lt_succ _))
  have HBI2 := Lib.hid ((hbi.far (g := w.heap.size) (by omega) 0 (.int .i64 (n : Int))).far (g := w.heap.size) (by omega) 1 (.slice a1 K cap1))
  have HBS2 := Lib.hid ((HS0.out.below HBN.out HS0.out.lt).put (.int .i64 (n : Int)) (.slice a1 K cap1))
  have HBR2 := Lib.hid ((HR0.out.below HBN.out HR0.out.lt).other (b' := w.heap.size) (by omega) (.int .i64 (n : Int)) (.slice a1 K cap1))
  have HF2 := Lib.hid ((HZ.out ▸ HF1.out).block (Nat.le_refl _) (W' := (w1.setCell ⟨w.heap.size, 0, none⟩ (.int .i64 (n : Int))).setCell ⟨w.heap.size, 1, none⟩ (.slice a1 K cap1)) (fun g h1 _ => heap_put2 _ _ _ _ _ (by omega)))
  have HW2 := Lib.hid (below_put2 (HW.out.trans (HBN.out.mono HW.out.size)) (Nat.le_refl _) (.int .i64 (n : Int)) (.slice a1 K cap1))
  have HZ2 : Hid (w.heap.size + 3 ≤ ((w1.setCell ⟨w.heap.size, 0, none⟩ (.int .i64 (n : Int))).setCell ⟨w.heap.size, 1, none⟩ (.slice a1 K cap1)).heap.size) := by show _ ≤ _; rw [size_put2]; exact hz1
  clear hX hz1 hbi HS0 HI0 HR0 HF1 HW HA HT hS HBN HD
  go_wp2_with fail
  generalize (w1.setCell ⟨w.heap.size, 0, none⟩ (.int .i64 (n : Int))).setCell ⟨w.heap.size, 1, none⟩ (.slice a1 K cap1) = W2 at *
  clear s0 s1 f0 f1
  have k0 := (HBI2.out 0 _ rfl).1
  have k1 := (HBI2.out 1 _ rfl).1
  have k2 := (HBI2.out 2 _ rfl).1
  have k3 := (HBI2.out 3 _ rfl).1
  have k4 := (HBI2.out 4 _ rfl).1
  have k5 := (HBI2.out 5 _ rfl).1
  have k6 := (HBI2.out 6 _ rfl).1
  have k7 := (HBI2.out 7 _ rfl).1
  have k8 := (HBI2.out 8 _ rfl).1
  have k9 := (HBI2.out 9 _ rfl).1
  have k10 := (HBI2.out 10 _ rfl).1
  go_wp2_with (go_at_call 15; refine (HU.out _ (HT0.out.on HW2.out)).mono ?_; rintro e w3 ⟨u, rfl, hou, hb3⟩; obtain ⟨a3, cap3, rfl, hl3, hO3⟩ := ownI_of hou; have HO3 := Lib.hid hO3; have HL3 := Lib.hid hl3; have HB3 := Lib.hid hb3; clear hou hO3 hb3 hl3)
  clear k0 k1 k2 k3 k4 k5 k6 k7 k8 k9 k10
  have HSZ3 : Hid (W2.heap.size ≤ w3.heap.size) := HB3.out.size
  have HBS3 := Lib.hid (HBS2.out.below HB3.out HBS2.out.lt)
  have HBR3 := Lib.hid (HBR2.out.below HB3.out HBR2.out.lt)
  have HF3 := Lib.hid (HF2.out.below HB3.out)
  have HW3 := Lib.hid (HW2.out.trans (HB3.out.mono HW2.out.size))
  have HOKD := Lib.hid (HDS.out ▸ HOK.out.drop d)
  have HKD : Hid (ds.length = K) := by show _ = _; rw [← HDS.out, dropW_length]; exact HK.out
  have hml := HUL.out
  clear HBI2 HBS2 HBR2 HF2 HW2 HB3 HU HOK HK
  go_loopw [14] (fun i wr => ∃ (q : Nat) (a4 : Option Addr) (cap4 : Nat), q ≤ m ∧ i = .int .i64 q ∧ Hid (Box wr w.heap.size (.int .i64 (n : Int)) (.slice a4 K cap4)) ∧ Hid (FreshV (w.heap.size + 3) wr a4 (liveTo n ds us q)) ∧ Hid (Box wr (w.heap.size + 1 + 1) (.int .i64 0) (.slice none 0 0)) ∧ Hid (Below w.heap.size w wr) ∧ Hid (w3.heap.size ≤ wr.heap.size) ∧ Hid (∀ g, W2.heap.size ≤ g → g < w3.heap.size → wr.heap[g]? = w3.heap[g]?)) (fun i _ => m - (intOf i).toNat)
  case atStart => exact ⟨0, a1, cap1, Nat.zero_le _, rfl, HBS3, HF3, HBR3, HW3, Lib.hid (Nat.le_refl _), Lib.hid (fun _ _ _ => rfl)⟩
  case round =>
    clear HBS3 HF3 HBR3 HW3
    obtain ⟨q, a4, cap4, hq, rfl, hS4, hF4, hR4, hB4, hz4, hu4⟩ := hrel
    by_cases hlt : q < m
    · obtain ⟨gb, go, rfl, hbl, hcell⟩ := (HO3.out.block (W' := wr) (Nat.le_refl _) hz4.out hu4.out).is q (by rw [HM.out]; exact hlt)
      obtain ⟨x, hx⟩ : ∃ x, us[q]?.getD 0 = x := ⟨_, rfl⟩
      have HKS := Lib.hid (liveTo_succ n ds us q (by rw [HM.out]; exact hlt) x hx)
      rw [hx] at hcell
      have hqi : (q : Int) < (m : Int) := by omega
      obtain ⟨s0, s1, f0, f1⟩ := hS4.out
      have HLK : Hid ((liveTo n ds us q).length = K) := by show _ = _; rw [(liveTo_ok HOKD.out us q).len, ← HOKD.out.len]; exact HKD.out
      have HAC := Lib.hid (hF4.out.acts (cap := cap4) (liveTo_ok HOKD.out us q) HLK.out)
      clear hx hbl
      go_wp2_with (go_at_call 55; refine (With_acts HAC.out x HLK.out).mono ?_; rintro e w5 ⟨a5, cap5, rfl, hF5, hb5⟩; have HF5 := Lib.hid hF5; have HB5 := Lib.hid hb5; clear hF5 hb5 s0 s1 f0 f1; obtain ⟨s0, s1, f0, f1⟩ := hS4.out.below HB5.out hS4.out.lt)
      go_roundw
      case rel =>
        have hzz : w.heap.size + 3 ≤ wr.heap.size := Nat.le_trans HZ2.out (Nat.le_trans HSZ3.out hz4.out)
        have h5z := HB5.out.size
        refine ⟨q + 1, a5, cap5, by omega, by go_num, Lib.hid ((hS4.out.below HB5.out hS4.out.lt).put _ _), ?_, Lib.hid ((hR4.out.below HB5.out hR4.out.lt).other (by omega) _ _), Lib.hid (below_put2 (hB4.out.trans (HB5.out.mono hB4.out.size)) (Nat.le_refl _) _ _), ?_, ?_⟩
        · show FreshV _ _ _ _
          rw [HKS.out]
          exact (HF5.out.base hzz).block (Nat.le_refl _) (fun g h1 _ => heap_put2 _ _ _ _ _ (by omega))
        · show _ ≤ _
          rw [size_put2]; exact Nat.le_trans hz4.out h5z
        · intro g h1 h2
          have hz2 := HZ2.out
          rw [heap_put2 _ _ _ _ _ (by omega), HB5.out.block g (Nat.lt_of_lt_of_le h2 hz4.out)]
          exact hu4.out g h1 h2
      case measure => simp [intOf]; omega
    · obtain rfl : q = m := by omega
      have hqi : ¬ ((q : Int) < (q : Int)) := by omega
      obtain ⟨s0, s1, -, -⟩ := hS4.out
      obtain ⟨r0, r1, f0, f1⟩ := hR4.out
      go_wp2_with fail
      have hzz : w.heap.size + 3 ≤ wr.heap.size := Nat.le_trans HZ2.out (Nat.le_trans HSZ3.out hz4.out)
      have hFe := hF4.out.block (n1 := w.heap.size) (W' := (wr.setCell ⟨w.heap.size + 1 + 1, 0, none⟩ (.int .i64 (n : Int))).setCell ⟨w.heap.size + 1 + 1, 1, none⟩ (.slice a4 K cap4)) (by omega) (fun g h1 _ => heap_put2 _ _ _ _ _ (by omega))
      rw [liveTo_all HM.out] at hFe
      have hBe := below_put2 hB4.out (b := w.heap.size + 1 + 1) (by omega) (.int .i64 (n : Int)) (.slice a4 K cap4)
      refine bodyPost_ret (v := .agg #[.int .i64 (n : Int), .slice a4 K cap4]) (by simp [results, Tryd.results26, go_sem, r0, r1]) rfl ?_
      first
        | exact ⟨a4, cap4, rfl, hFe, hBe⟩
        | exact ⟨a4, ⟨cap4, rfl⟩, hFe, hBe⟩
        | exact ⟨⟨a4, cap4, rfl, hFe⟩, hBe⟩
end Go.Proofs.YtmcbedlmgffckaaDoor.Bi
