/- EditRoom: its walk. -/
import Derived.Test.YtbddjneinfkmpaaGreatDoorEinP
import Derived.Test.YtbddjneinfkmpaaGreatDoorPuA
namespace Go.Proofs.YtbddjneinfkmpaaGreatDoor
open Go Go.RowKit Go.Sort

theorem sub_len : ∀ (n : Nat) (m : List Int), (∀ k : Nat, k < n → (k : Int) ∈ m) → n ≤ m.length := by
  intro n
  induction n with
  | zero => intro m _; exact Nat.zero_le _
  | succ n ih =>
    intro m h
    have hn := h n (Nat.lt_succ_self n)
    have h1 := ih (m.erase (n : Int)) (fun k hk => (List.mem_erase_of_ne (by omega)).2 (h k (by omega)))
    rw [List.length_erase_of_mem hn] at h1
    have := List.length_pos_of_mem hn
    omega
theorem nodup_len : ∀ (n : Nat) (m : List Int), m.Nodup → (∀ x ∈ m, 0 ≤ x ∧ x < (n : Int)) → m.length ≤ n := by
  intro n
  induction n with
  | zero =>
    intro m _ h
    cases m with
    | nil => simp
    | cons x m => have := h x (by simp); omega
  | succ n ih =>
    intro m hm h
    by_cases hn : (n : Int) ∈ m
    · have h1 := ih (m.erase (n : Int)) (hm.erase _) (fun x hx => by
        have h2 := h x (List.mem_of_mem_erase hx)
        have h3 : x ≠ (n : Int) := fun e => by
          subst e
          exact absurd hx (hm.not_mem_erase)
        omega)
      rw [List.length_erase_of_mem hn] at h1
      omega
    · have h1 := ih m hm (fun x hx => by
        have h2 := h x hx
        have h3 : x ≠ (n : Int) := fun e => hn (e ▸ hx)
        omega)
      omega
theorem ins_form {p : Pg} (h : p.sane) : ∀ i ∈ p.ins, i.form := by
  intro i hi
  unfold Pg.ins at hi
  obtain ⟨f, hf, hi⟩ := List.mem_flatMap.1 hi
  obtain ⟨b, hb, hi⟩ := List.mem_flatMap.1 hi
  obtain ⟨k, hk, rfl⟩ := mem_fdAt hf
  obtain ⟨j, hj, rfl⟩ := mem_blkAt hb
  obtain ⟨q, hq, rfl⟩ := mem_insAt hi
  exact (((h.2.1 k hk).2 j hj).2.2.2 q hq).1
theorem idB_room {p : Pg} (h : p.sane) : idB p = decide ((p.ins.length : Int) < 96) := by
  have hr : ∀ x ∈ p.ins.map Ins.id, 0 ≤ x ∧ x < ((96 : Nat) : Int) := fun x hx => by
    obtain ⟨i, hi, rfl⟩ := List.mem_map.1 hx
    have := ins_form h i hi
    exact ⟨this.2.2.1, by have := this.2.2.2.1; omega⟩
  rw [Bool.eq_iff_iff, idB_iff, decide_eq_true_eq]
  constructor
  · rintro ⟨-, k, hk, hn⟩
    have h1 := nodup_len 96 ((k : Int) :: p.ins.map Ins.id) (List.nodup_cons.2 ⟨hn, h.2.2⟩) (fun x hx => by
      rcases List.mem_cons.1 hx with rfl | hx
      · omega
      · exact hr x hx)
    simp at h1
    omega
  · intro hlt
    refine ⟨h, Classical.byContradiction fun hno => ?_⟩
    have h1 := sub_len 96 (p.ins.map Ins.id) (fun k hk => Classical.byContradiction fun h2 => hno ⟨k, hk, h2⟩)
    simp at h1
    omega
theorem live_room {l : List Blk} (hl : l.length ≤ 12) : (∃ k : Nat, k < 12 ∧ ¬ liveAt l (k : Int)) ↔ nLive l < 12 := by
  constructor
  · rintro ⟨k, hk, hn⟩
    have h1 := nLive_le l
    rcases Nat.lt_or_ge l.length 12 with h2 | h2
    · omega
    · have hkl : k < l.length := by omega
      have h3 : nLive l ≠ l.length := fun h => by
        unfold nLive at h
        rw [List.length_filter_eq_length_iff] at h
        refine hn ⟨by omega, by omega, ?_⟩
        have e : blkAt l ((k : Int)).toNat = l[k] := by simp [blkAt, hkl]
        rw [e]
        exact h _ (List.getElem_mem hkl)
      omega
  · intro h
    refine Classical.byContradiction fun hno => ?_
    have hall : ∀ k : Nat, k < 12 → liveAt l (k : Int) := fun k hk => Classical.byContradiction fun h2 => hno ⟨k, hk, h2⟩
    have h1 := (hall 11 (by omega)).2.1
    have h2 : nLive l = l.length := by
      unfold nLive
      rw [List.length_filter_eq_length_iff]
      intro x hx
      obtain ⟨k, hk, rfl⟩ := mem_blkAt hx
      have := (hall k (by omega)).2.2
      simpa using this
    omega
theorem roomA {p : Pg} (hs : p.sane) : decide (chk p ⟨0, 0, 1, 2, 0, 0, ⟨0, 0, 0, 0, 0, 0, 0, 0, 0, 0, 0⟩⟩ = 0) = decide ((p.funs.length : Int) < 6) := by
  have h1 : chk p ⟨0, 0, 1, 2, 0, 0, ⟨0, 0, 0, 0, 0, 0, 0, 0, 0, 0, 0⟩⟩ = unl (decide ((p.funs.length : Int) < 6)) 8 := by
    unfold chk opE addFunE
    rw [(saneB_iff p).2 hs]
    by_cases h : (p.funs.length : Int) < 6 <;> simp [firstE, unl, isOpB, inB, h]
  rw [h1, decide_eq_decide, unl_zero (by decide), decide_eq_true_eq]
theorem roomB_ok {p : Pg} (hs : p.sane) (f : Int) (hf : funB p f = true) : decide (chk p ⟨1, f, 0, 0, 0, 0, ⟨0, 0, 0, 0, 0, 0, 0, 0, 0, 0, 0⟩⟩ = 0) = decide ((nLive (funR p f).blocks : Int) < 12) := by
  have h1 : chk p ⟨1, f, 0, 0, 0, 0, ⟨0, 0, 0, 0, 0, 0, 0, 0, 0, 0, 0⟩⟩ = unl (roomB p f) 8 := by
    unfold chk opE inFunE
    rw [(saneB_iff p).2 hs]
    cases roomB p f <;> simp [firstE, unl, isOpB, hf]
  have hf2 := (funB_iff hs f).1 hf
  obtain ⟨n, rfl⟩ := Int.eq_ofNat_of_zero_le hf2.1
  have hn : n < p.funs.length := by omega
  have h12 : (funR p (n : Int)).blocks.length ≤ 12 := by rw [(funR_in hs hn).2]; exact (hs.2.1 n hn).1.2.2.2.2.2.1
  rw [h1, decide_eq_decide, unl_zero (by decide), roomB_iff]
  unfold roomP
  rw [live_room h12]
  constructor
  · rintro ⟨-, h⟩; omega
  · intro h; exact ⟨hf, by omega⟩
theorem roomB_no {p : Pg} (hs : p.sane) (f : Int) (hf : funB p f = false) : chk p ⟨1, f, 0, 0, 0, 0, ⟨0, 0, 0, 0, 0, 0, 0, 0, 0, 0, 0⟩⟩ = 1 := by
  unfold chk opE inFunE
  rw [(saneB_iff p).2 hs]
  simp [firstE, unl, isOpB, hf]
theorem roomC {p : Pg} (hs : p.sane) (f b : Int) : decide (chk p ⟨6, f, b, 0, 0, 0, ⟨0, 6, 0, 0, 0, 0, 0, 0, 0, 0, 0⟩⟩ = 0) = (blkB p f b && decide (0 < (funR p f).vr) && decide (((blkR p f b).code.length : Int) < 16) && decide ((p.ins.length : Int) < 96)) := by
  rw [chk_insert hs]
  unfold insG2 insG1 insG0
  have hv : Ins.vars ⟨0, 6, 0, 0, 0, 0, 0, 0, 0, 0, 0⟩ = [0] := by decide +kernel
  have hfm : decide (Ins.form ⟨0, 6, 0, 0, 0, 0, 0, 0, 0, 0, 0⟩) = true := by decide +kernel
  rw [hv, hfm, idB_room hs]
  cases hb : blkB p f b with
  | false => simp
  | true =>
    rw [blk_fun' hb]
    simp only [List.mem_cons, List.not_mem_nil, or_false, forall_eq]
    by_cases h1 : 0 < (funR p f).vr <;> by_cases h2 : ((blkR p f b).code.length : Int) < 16 <;> by_cases h3 : (p.ins.length : Int) < 96 <;> simp [h1, h2, h3] <;> omega

set_option maxRecDepth 100000 in
set_option maxHeartbeats 16000000 in
theorem roomN (p : Pg) (f b : Int) (w : World) (h : Rd w p) (hN : NTab w) (hfew : ¬ p.few) :
    Calls Tryz.prog 5 #[p.val, .int .i64 f, .int .i64 b] w fun x w' => x = .returned (.bool true) ∧ Below w.heap.size w w' := by
  have HAW := Lib.hid (fun wr (h : Rd wr p) (hN : NTab wr) => awake7_any wr h.2.1 h.2.2 hN)
  have HFE := Lib.hid (fun wr (h : Rd wr p) => Few_any p wr h.1 false (by simp [hfew]))
  have HRD0 := Lib.hid h
  have HN0 := Lib.hid hN
  clear h hN hfew
  unfold Pg.val at HFE
  unfold Pg.val
  try dsimp only at *
  obtain ⟨PL, hPL⟩ : ∃ PL, p.funs.length = PL := ⟨_, rfl⟩
  simp only [hPL] at HFE ⊢
  clear hPL
  have HBb := Lib.hid (below1 w (.cells #[.slice p.pa PL p.pc] 24))
  have hx0 := BoxL.new w [.slice p.pa PL p.pc] 24
  have HX0 := Lib.hid (show BoxL (w.alloc (.cells #[.slice p.pa PL p.pc] 24)) (w.heap.size) [.slice p.pa PL p.pc] from hx0)
  clear hx0
  have HRW := Lib.hid (HRD0.out.on HBb.out)
  have HNW := Lib.hid (HN0.out.on HBb.out)
  generalize hW : (w.alloc (.cells #[.slice p.pa PL p.pc] 24)) = W at HBb HX0 HRW HNW
  obtain ⟨g, hg⟩ : ∃ g, w.heap.size = g := ⟨_, rfl⟩
  have HGL := Lib.hid HBb.out.size
  rw [hg] at HBb HGL HX0 ⊢
  have HL0 := Lib.hid (HX0.out.lt (Nat.zero_lt_succ _))
  have HC : Hid (∀ wr, Below W.heap.size W wr → wr.cell? ⟨g, 0, none⟩ = some (.slice p.pa PL p.pc)) := Lib.hid fun wr hb => ((HX0.out.below hb HL0.out) 0 _ rfl).1
  have HBN : Hid (Below W.heap.size W W) := Lib.hid (Below.refl _ _)
  have k0 := HC.out _ HBN.out
  go_enter Tryz.func5, Tryz.ntmps5
  go_wp2_with (first
    | (go_at_call 38; refine (HAW.out _ (HRW.out.on HBN.out) (HNW.out.on HBN.out)).mono ?_; rintro e wa ⟨rfl, hbn⟩; have hbx := HBN.out.trans (hbn.mono HBN.out.size); clear HBN hbn k0; have HBN := Lib.hid hbx; clear hbx; have k0 := HC.out _ HBN.out)
    | (go_at_call 14; refine (HFE.out _ (HRW.out.on HBN.out)).mono ?_; rintro e wb ⟨rfl, hbn⟩; have hbx := HBN.out.trans (hbn.mono HBN.out.size); clear HBN hbn k0; have HBN := Lib.hid hbx; clear hbx; have k0 := HC.out _ HBN.out))
  go_ret
  exact ⟨rfl, HBb.out.trans (HBN.out.mono HGL.out)⟩

set_option maxRecDepth 100000 in
set_option maxHeartbeats 16000000 in
theorem roomS (p : Pg) (f b : Int) (w : World) (h : Rd w p) (hN : NTab w) (hfew : p.few) (hs : ¬ p.sane) :
    Calls Tryz.prog 5 #[p.val, .int .i64 f, .int .i64 b] w fun x w' => x = .returned (.bool true) ∧ Below w.heap.size w w' := by
  have HAW := Lib.hid (fun wr (h : Rd wr p) (hN : NTab wr) => awake7_any wr h.2.1 h.2.2 hN)
  have HFE := Lib.hid (fun wr (h : Rd wr p) => Few_any p wr h.1 true (by simp [hfew]))
  have HSA := Lib.hid (fun wr (h : Rd wr p) => Sane_any p wr h.1 h.2.1 h.2.2 hfew false (by simp [hs]))
  have HRD0 := Lib.hid h
  have HN0 := Lib.hid hN
  clear h hN hfew hs
  unfold Pg.val at HFE HSA
  unfold Pg.val
  try dsimp only at *
  obtain ⟨PL, hPL⟩ : ∃ PL, p.funs.length = PL := ⟨_, rfl⟩
  simp only [hPL] at HFE HSA ⊢
  clear hPL
  have HBb := Lib.hid (below1 w (.cells #[.slice p.pa PL p.pc] 24))
  have hx0 := BoxL.new w [.slice p.pa PL p.pc] 24
  have HX0 := Lib.hid (show BoxL (w.alloc (.cells #[.slice p.pa PL p.pc] 24)) (w.heap.size) [.slice p.pa PL p.pc] from hx0)
  clear hx0
  have HRW := Lib.hid (HRD0.out.on HBb.out)
  have HNW := Lib.hid (HN0.out.on HBb.out)
  generalize hW : (w.alloc (.cells #[.slice p.pa PL p.pc] 24)) = W at HBb HX0 HRW HNW
  obtain ⟨g, hg⟩ : ∃ g, w.heap.size = g := ⟨_, rfl⟩
  have HGL := Lib.hid HBb.out.size
  rw [hg] at HBb HGL HX0 ⊢
  have HL0 := Lib.hid (HX0.out.lt (Nat.zero_lt_succ _))
  have HC : Hid (∀ wr, Below W.heap.size W wr → wr.cell? ⟨g, 0, none⟩ = some (.slice p.pa PL p.pc)) := Lib.hid fun wr hb => ((HX0.out.below hb HL0.out) 0 _ rfl).1
  have HBN : Hid (Below W.heap.size W W) := Lib.hid (Below.refl _ _)
  have k0 := HC.out _ HBN.out
  go_enter Tryz.func5, Tryz.ntmps5
  go_wp2_with (first
    | (go_at_call 38; refine (HAW.out _ (HRW.out.on HBN.out) (HNW.out.on HBN.out)).mono ?_; rintro e wa ⟨rfl, hbn⟩; have hbx := HBN.out.trans (hbn.mono HBN.out.size); clear HBN hbn k0; have HBN := Lib.hid hbx; clear hbx; have k0 := HC.out _ HBN.out)
    | (go_at_call 14; refine (HFE.out _ (HRW.out.on HBN.out)).mono ?_; rintro e wb ⟨rfl, hbn⟩; have hbx := HBN.out.trans (hbn.mono HBN.out.size); clear HBN hbn k0; have HBN := Lib.hid hbx; clear hbx; have k0 := HC.out _ HBN.out)
    | (go_at_call 23; refine (HSA.out _ (HRW.out.on HBN.out)).mono ?_; rintro e wc ⟨rfl, hbn⟩; have hbx := HBN.out.trans (hbn.mono HBN.out.size); clear HBN hbn k0; have HBN := Lib.hid hbx; clear hbx; have k0 := HC.out _ HBN.out))
  go_ret
  exact ⟨rfl, HBb.out.trans (HBN.out.mono HGL.out)⟩

set_option maxRecDepth 100000 in
set_option maxHeartbeats 16000000 in
theorem roomY (p : Pg) (f b : Int) (w : World) (h : Rd w p) (hN : NTab w) (hfew : p.few) (hs : p.sane) :
    Calls Tryz.prog 5 #[p.val, .int .i64 f, .int .i64 b] w fun x w' => x = .returned (.bool true) ∧ Below w.heap.size w w' := by
  have HAW := Lib.hid (fun wr (h : Rd wr p) (hN : NTab wr) => awake7_any wr h.2.1 h.2.2 hN)
  have HFE := Lib.hid (fun wr (h : Rd wr p) => Few_any p wr h.1 true (by simp [hfew]))
  have HSA := Lib.hid (fun wr (h : Rd wr p) => Sane_any p wr h.1 h.2.1 h.2.2 hfew true (by simp [hs]))
  obtain ⟨x, hx⟩ : ∃ x, funR p f = x := ⟨_, rfl⟩
  obtain ⟨rf, hrf⟩ : ∃ rf, funB p f = rf := ⟨_, rfl⟩
  obtain ⟨y, hy⟩ : ∃ y, blkR p f b = y := ⟨_, rfl⟩
  obtain ⟨rb, hrb⟩ : ∃ rb, blkB p f b = rb := ⟨_, rfl⟩
  obtain ⟨rA, hrA⟩ : ∃ r, chk p ⟨0, 0, 1, 2, 0, 0, ⟨0, 0, 0, 0, 0, 0, 0, 0, 0, 0, 0⟩⟩ = r := ⟨_, rfl⟩
  obtain ⟨rB, hrB⟩ : ∃ r, chk p ⟨1, f, 0, 0, 0, 0, ⟨0, 0, 0, 0, 0, 0, 0, 0, 0, 0, 0⟩⟩ = r := ⟨_, rfl⟩
  obtain ⟨rC, hrC⟩ : ∃ r, chk p ⟨6, f, b, 0, 0, 0, ⟨0, 6, 0, 0, 0, 0, 0, 0, 0, 0, 0⟩⟩ = r := ⟨_, rfl⟩
  obtain ⟨NB, hNB⟩ : ∃ n, nLive p.blks = n := ⟨_, rfl⟩
  obtain ⟨NI, hNI⟩ : ∃ n, p.ins.length = n := ⟨_, rfl⟩
  have HFU := Lib.hid (fun wr (h : Rd wr p) => Fun_any p f wr h.1 h.2.1 h.2.2 hfew x hx rf hrf)
  have HBK := Lib.hid (fun wr (h : Rd wr p) => Block_any p f b wr h.1 h.2.1 h.2.2 hfew y hy rb hrb)
  have HC1 := Lib.hid (fun wr (h : Rd wr p) => Check_any p ⟨0, 0, 1, 2, 0, 0, ⟨0, 0, 0, 0, 0, 0, 0, 0, 0, 0, 0⟩⟩ wr h hfew rA hrA)
  have HC2 := Lib.hid (fun wr (h : Rd wr p) => Check_any p ⟨1, f, 0, 0, 0, 0, ⟨0, 0, 0, 0, 0, 0, 0, 0, 0, 0, 0⟩⟩ wr h hfew rB hrB)
  have HC3 := Lib.hid (fun wr (h : Rd wr p) => Check_any p ⟨6, f, b, 0, 0, 0, ⟨0, 6, 0, 0, 0, 0, 0, 0, 0, 0, 0⟩⟩ wr h hfew rC hrC)
  have HCO := Lib.hid (fun wr (h : Rd wr p) => Count_any p wr h.1 h.2.1 h.2.2 hfew hs)
  have hA := roomA hs
  have hB1 := roomB_ok hs f
  have hB0 := roomB_no hs f
  have hCC := roomC hs f b
  have hbf : rb = true → rf = true := fun h => by rw [← hrf]; exact blk_fun' (hrb.trans h)
  have hxis := fun wr (h : Rd wr p) => funR_is h.1 f
  have hx20 := (funR_few hfew f).1
  rw [hrA] at hA
  rw [hrB, hrf, hx] at hB1
  rw [hrB, hrf] at hB0
  rw [hrC, hrb, hx, hy, hNI] at hCC
  rw [hx] at hxis hx20
  simp only [hNB, hNI] at HCO
  have hfl := hfew.1
  have hNI6 := ins_le hfew
  rw [hNI] at hNI6
  clear hrA hrB hrC hx hrf hy hrb hNB hNI
  obtain ⟨ar, vr, ba, bc, bl⟩ := x
  obtain ⟨lv, ca, cc, code, sa, sc, succ⟩ := y
  unfold Fd.val at HFU
  unfold Blk.val at HBK
  unfold Ed.val at HC1 HC2 HC3
  have HXI := Lib.hid hxis
  clear hxis
  dsimp only at *
  obtain ⟨BL, hBL⟩ : ∃ BL, bl.length = BL := ⟨_, rfl⟩
  obtain ⟨CL, hCL⟩ : ∃ CL, code.length = CL := ⟨_, rfl⟩
  obtain ⟨SL, hSL⟩ : ∃ SL, succ.length = SL := ⟨_, rfl⟩
  have HBLL := Lib.hid hBL
  simp only [hBL, hCL, hSL] at HFU HBK hB1 hCC hx20
  clear hBL hCL hSL
  have HRD0 := Lib.hid h
  have HN0 := Lib.hid hN
  clear h hN hfew hs
  unfold Pg.val at HFE HSA HFU HBK HC1 HC2 HC3 HCO
  unfold Pg.val
  try dsimp only at *
  obtain ⟨PL, hPL⟩ : ∃ PL, p.funs.length = PL := ⟨_, rfl⟩
  simp only [hPL] at HFE HSA HFU HBK HC1 HC2 HC3 HCO hA hfl ⊢
  clear hPL
  have HA := Lib.hid hA
  have HB1 := Lib.hid hB1
  have HB0 := Lib.hid hB0
  have HCC := Lib.hid hCC
  have HBF := Lib.hid hbf
  clear hA hB1 hB0 hCC hbf
  have HBb := Lib.hid (below1 w (.cells #[.slice p.pa PL p.pc] 24))
  have hx0 := BoxL.new w [.slice p.pa PL p.pc] 24
  have HX0 := Lib.hid (show BoxL (w.alloc (.cells #[.slice p.pa PL p.pc] 24)) (w.heap.size) [.slice p.pa PL p.pc] from hx0)
  clear hx0
  have HRW := Lib.hid (HRD0.out.on HBb.out)
  have HNW := Lib.hid (HN0.out.on HBb.out)
  generalize hW : (w.alloc (.cells #[.slice p.pa PL p.pc] 24)) = W at HBb HX0 HRW HNW
  obtain ⟨g, hg⟩ : ∃ g, w.heap.size = g := ⟨_, rfl⟩
  have HGL := Lib.hid HBb.out.size
  rw [hg] at HBb HGL HX0 ⊢
  have HL0 := Lib.hid (HX0.out.lt (Nat.zero_lt_succ _))
  have HC : Hid (∀ wr, Below W.heap.size W wr → wr.cell? ⟨g, 0, none⟩ = some (.slice p.pa PL p.pc)) := Lib.hid fun wr hb => ((HX0.out.below hb HL0.out) 0 _ rfl).1
  have HBN : Hid (Below W.heap.size W W) := Lib.hid (Below.refl _ _)
  have k0 := HC.out _ HBN.out
  have t1 : True := trivial
  go_enter Tryz.func5, Tryz.ntmps5
  go_upto_region 7 with (first
    | (go_at_call 38; refine (HAW.out _ (HRW.out.on HBN.out) (HNW.out.on HBN.out)).mono ?_; rintro e wa ⟨rfl, hbn⟩; have hbx := HBN.out.trans (hbn.mono HBN.out.size); clear HBN hbn k0; have HBN := Lib.hid hbx; clear hbx; have k0 := HC.out _ HBN.out)
    | (go_at_call 14; refine (HFE.out _ (HRW.out.on HBN.out)).mono ?_; rintro e wb ⟨rfl, hbn⟩; have hbx := HBN.out.trans (hbn.mono HBN.out.size); clear HBN hbn k0; have HBN := Lib.hid hbx; clear hbx; have k0 := HC.out _ HBN.out)
    | (go_at_call 23; refine (HSA.out _ (HRW.out.on HBN.out)).mono ?_; rintro e wc ⟨rfl, hbn⟩; have hbx := HBN.out.trans (hbn.mono HBN.out.size); clear HBN hbn k0; have HBN := Lib.hid hbx; clear hbx; have k0 := HC.out _ HBN.out)
    | (go_at_call 15; refine (HFU.out _ (HRW.out.on HBN.out)).mono ?_; rintro e wf ⟨rfl, hbn⟩; have hbx := (HBN.out.trans (hbn.mono HBN.out.size)).alloc (Nat.le_trans HBN.out.size hbn.size) (.cells #[.int .i64 ar, .int .i64 vr, .slice ba BL bc] 29); have HXF := Lib.hid (show BoxL (wf.alloc (.cells #[.int .i64 ar, .int .i64 vr, .slice ba BL bc] 29)) wf.heap.size [.int .i64 ar, .int .i64 vr, .slice ba BL bc] from BoxL.new wf _ _); clear hbn HBN k0; have HBN := Lib.hid hbx; clear hbx; have k0 := HC.out _ HBN.out)
    | (go_at_call 17; refine (HBK.out _ (HRW.out.on HBN.out)).mono ?_; rintro e wk ⟨rfl, hbn⟩; have hbx := (HBN.out.trans (hbn.mono HBN.out.size)).alloc (Nat.le_trans HBN.out.size hbn.size) (.cells #[.bool lv, .slice ca CL cc, .slice sa SL sc] 35); have HXG := Lib.hid ((HXF.out.below hbn (HXF.out.lt (Nat.zero_lt_succ _))).alloc (Nat.zero_lt_succ _) (.cells #[.bool lv, .slice ca CL cc, .slice sa SL sc] 35)); have HXB := Lib.hid (show BoxL (wk.alloc (.cells #[.bool lv, .slice ca CL cc, .slice sa SL sc] 35)) wk.heap.size [.bool lv, .slice ca CL cc, .slice sa SL sc] from BoxL.new wk _ _); clear hbn HBN HXF k0; have HBN := Lib.hid hbx; clear hbx; have k0 := HC.out _ HBN.out)
    | (have _t := t1; go_at_call 39; refine (HC1.out _ (HRW.out.on HBN.out)).mono ?_; clear _t t1; rintro e wn ⟨rfl, hbn⟩; have hbx := HBN.out.trans (hbn.mono HBN.out.size); clear HBN hbn k0; have HBN := Lib.hid hbx; clear hbx; have k0 := HC.out _ HBN.out))
  clear k0
  generalize wk.alloc (.cells #[.bool lv, .slice ca CL cc, .slice sa SL sc] 35) = W2 at *
  obtain ⟨gx, hgx⟩ : ∃ b, wf.heap.size = b := ⟨_, rfl⟩
  obtain ⟨gy, hgy⟩ : ∃ b, wk.heap.size = b := ⟨_, rfl⟩
  rw [hgx] at HXG ⊢
  rw [hgy] at HXB ⊢
  clear hgx hgy
  have HLX := Lib.hid (HXG.out.lt (Nat.zero_lt_succ _))
  have HLY := Lib.hid (HXB.out.lt (Nat.zero_lt_succ _))
  have HF1 := Lib.hid (HBb.out.trans (HBN.out.mono HGL.out))
  have HG2 := Lib.hid (Nat.le_trans HGL.out HBN.out.size)
  have HRD2 := Lib.hid (HRW.out.on HBN.out)
  have HXI2 := Lib.hid (HXI.out _ HRD2.out)
  have HD : Hid (∀ wr, Below W2.heap.size W2 wr → wr.cell? ⟨g, 0, none⟩ = some (.slice p.pa PL p.pc) ∧ wr.cell? ⟨gx, 1, none⟩ = some (.int .i64 vr) ∧ wr.cell? ⟨gx, 2, none⟩ = some (.slice ba BL bc) ∧ wr.cell? ⟨gy, 1, none⟩ = some (.slice ca CL cc)) := Lib.hid fun wr hb => ⟨((HX0.out.below (HBN.out.trans (hb.mono HBN.out.size)) HL0.out) 0 _ rfl).1, ((HXG.out.below hb HLX.out) 1 _ rfl).1, ((HXG.out.below hb HLX.out) 2 _ rfl).1, ((HXB.out.below hb HLY.out) 1 _ rfl).1⟩
  have HBM : Hid (Below W2.heap.size W2 W2) := Lib.hid (Below.refl _ _)
  clear HBN HC HXI
  obtain ⟨m0, m1, m2, m3⟩ := HD.out _ HBM.out
  have t2 : True := trivial
  have t3 : True := trivial
  go_upto_region 9 with (first
    | (have _t := t2; go_at_call 39; refine (HC2.out _ (HRD2.out.on HBM.out)).mono ?_; clear _t t2; rintro e wn ⟨rfl, hbn⟩; have hbx := HBM.out.trans (hbn.mono HBM.out.size); clear HBM hbn m0 m1 m2 m3; have HBM := Lib.hid hbx; clear hbx; obtain ⟨m0, m1, m2, m3⟩ := HD.out _ HBM.out)
    | (have _t := t3; go_at_call 39; refine (HC3.out _ (HRD2.out.on HBM.out)).mono ?_; clear _t t3; rintro e wl ⟨rfl, hbn⟩; have hbx := HBM.out.trans (hbn.mono HBM.out.size); clear HBM hbn m0 m1 m2 m3; have HBM := Lib.hid hbx; clear hbx; obtain ⟨m0, m1, m2, m3⟩ := HD.out _ HBM.out))
  clear m0 m1 m2 m3
  go_wp2_with fail
  go_loop [15, 16] (fun c k => ∃ q : Nat, q ≤ BL ∧ k = .int .i64 q ∧ c = .int .i64 (nLive (bl.take q) : Nat)) (fun _ k => BL - (intOf k).toNat)
  case atStart => exact ⟨0, Nat.zero_le _, rfl, by simp [nLive]⟩
  case round =>
    obtain ⟨q, hq, rfl, rfl⟩ := hrel
    obtain ⟨m0, m1, m2, m3⟩ := HD.out _ HBM.out
    obtain ⟨lq, hlq⟩ : ∃ n, nLive (bl.take q) = n := ⟨_, rfl⟩
    have HLQ := Lib.hid hlq
    rw [hlq]
    have hlq20 : lq ≤ 20 := by rw [← hlq]; exact Nat.le_trans (nLive_le _) (by rw [List.length_take, HBLL.out]; omega)
    clear hlq
    by_cases hlt : q < BL
    · obtain ⟨bb, oo, rfl, hbl, hcell, -⟩ := (BlksIs.below HXI2.out HBM.out) q (by rw [HBLL.out]; exact hlt)
      have hst : nLive (bl.take (q + 1)) = lq + if (blkAt bl q).live then 1 else 0 := by
        have hq2 : q < bl.length := by rw [HBLL.out]; exact hlt
        rw [List.take_succ_eq_append_getElem hq2, nLive_snoc, HLQ.out]
        have e : blkAt bl q = bl[q] := by simp [blkAt, hq2]
        rw [e]
      obtain ⟨lv2, hlv2⟩ : ∃ l, (blkAt bl q).live = l := ⟨_, rfl⟩
      rw [hlv2] at hcell hst
      have HST := Lib.hid hst
      clear hst hlv2 hbl
      have hqi : (q : Int) < (BL : Int) := by omega
      cases lv2 with
      | false =>
        go_wp2_with fail
        refine ⟨⟨q + 1, by omega, by go_num, by rw [HST.out]; simp⟩, by simp [intOf]; omega⟩
      | true =>
        go_wp2_with fail
        refine ⟨⟨q + 1, by omega, by go_num, by rw [HST.out]; simp⟩, by simp [intOf]; omega⟩
    · obtain rfl : q = BL := by omega
      have hqi : ¬ ((q : Int) < (q : Int)) := by omega
      have HLQ2 : Hid (nLive bl = lq) := Lib.hid (by rw [← HLQ.out, List.take_of_length_le (by rw [HBLL.out]; exact Nat.le_refl _)])
      have HB1' := Lib.hid (fun h => by have := HB1.out h; rwa [HLQ2.out] at this)
      clear HLQ HB1
      go_upto_region 16 with (go_at_call 21; refine (HCO.out _ (HRD2.out.on HBM.out)).mono ?_; rintro e wz ⟨rfl, hbn⟩; have hbx := HBM.out.trans (hbn.mono HBM.out.size); clear HBM hbn m0 m1 m2 m3; have HBM := Lib.hid hbx; clear hbx; obtain ⟨m0, m1, m2, m3⟩ := HD.out _ HBM.out)
      have ha1 : (rA == 0) = decide ((PL : Int) < 6) := HA.out
      by_cases hp : (PL : Int) < 6
      · have hp3 : PL < 6 := by omega
        rw [decide_eq_true hp] at ha1
        cases rf with
        | false =>
          have hb1 := HB0.out rfl
          subst hb1
          have hrb : rb = false := by cases rb with | false => rfl | true => exact (HBF.out rfl).symm
          subst hrb
          have hc0 : (rC == 0) = false := by have h := HCC.out; simp only [Bool.false_and] at h; exact h
          clear HA HB0 HB1' HCC HBF
          go_wp2_with fail
          go_ret
          exact ⟨by first | rfl | exact ret_bool (by simp), HF1.out.trans (HBM.out.mono HG2.out)⟩
        | true =>
          have hb1 : (rB == 0) = decide ((lq : Int) < 12) := HB1'.out rfl
          by_cases hl : (lq : Int) < 12
          · have hl3 : lq < 12 := by omega
            rw [decide_eq_true hl] at hb1
            cases rb with
            | false =>
              have hc0 : (rC == 0) = false := by have h := HCC.out; simp only [Bool.false_and] at h; exact h
              clear HA HB0 HB1' HCC HBF
              go_wp2_with fail
              go_ret
              exact ⟨by first | rfl | exact ret_bool (by simp), HF1.out.trans (HBM.out.mono HG2.out)⟩
            | true =>
              by_cases hv : 0 < vr
              rotate_left
              · have hv2 : vr ≤ 0 := by omega
                have hc0 : (rC == 0) = false := by have h := HCC.out; simp only [decide_eq_false hv, Bool.and_false, Bool.false_and] at h; exact h
                clear HA HB0 HB1' HCC HBF
                go_wp2_with fail
                go_ret
                exact ⟨by first | rfl | exact ret_bool (by simp), HF1.out.trans (HBM.out.mono HG2.out)⟩
              by_cases hc : (CL : Int) < 16
              rotate_left
              · have hc2 : (16 : Int) ≤ (CL : Int) := by omega
                have hc3 : ¬ CL < 16 := by omega
                have hc0 : (rC == 0) = false := by have h := HCC.out; simp only [decide_eq_false hc, Bool.and_false, Bool.false_and] at h; exact h
                clear HA HB0 HB1' HCC HBF
                go_wp2_with fail
                go_ret
                exact ⟨by first | rfl | exact ret_bool (by simp), HF1.out.trans (HBM.out.mono HG2.out)⟩
              have hc3 : CL < 16 := by omega
              by_cases hn : (NI : Int) < 96
              rotate_left
              · have hn2 : (96 : Int) ≤ (NI : Int) := by omega
                have hn3 : ¬ NI < 96 := by omega
                have hc0 : (rC == 0) = false := by have h := HCC.out; simp only [decide_eq_false hn, Bool.and_false] at h; exact h
                clear HA HB0 HB1' HCC HBF
                go_wp2_with fail
                go_ret
                exact ⟨by first | rfl | exact ret_bool (by simp), HF1.out.trans (HBM.out.mono HG2.out)⟩
              have hn3 : NI < 96 := by omega
              have hc0 : (rC == 0) = true := by have h := HCC.out; simp only [decide_eq_true hv, decide_eq_true hc, decide_eq_true hn, Bool.and_true] at h; exact h
              clear HA HB0 HB1' HCC HBF
              go_wp2_with fail
              go_ret
              exact ⟨by first | rfl | exact ret_bool (by simp), HF1.out.trans (HBM.out.mono HG2.out)⟩
          · have hl2 : (12 : Int) ≤ (lq : Int) := by omega
            have hl3 : ¬ lq < 12 := by omega
            rw [decide_eq_false hl] at hb1
            cases rb with
            | false =>
              have hc0 : (rC == 0) = false := by have h := HCC.out; simp only [Bool.false_and] at h; exact h
              clear HA HB0 HB1' HCC HBF
              go_wp2_with fail
              go_ret
              exact ⟨by first | rfl | exact ret_bool (by simp), HF1.out.trans (HBM.out.mono HG2.out)⟩
            | true =>
              by_cases hv : 0 < vr
              rotate_left
              · have hv2 : vr ≤ 0 := by omega
                have hc0 : (rC == 0) = false := by have h := HCC.out; simp only [decide_eq_false hv, Bool.and_false, Bool.false_and] at h; exact h
                clear HA HB0 HB1' HCC HBF
                go_wp2_with fail
                go_ret
                exact ⟨by first | rfl | exact ret_bool (by simp), HF1.out.trans (HBM.out.mono HG2.out)⟩
              by_cases hc : (CL : Int) < 16
              rotate_left
              · have hc2 : (16 : Int) ≤ (CL : Int) := by omega
                have hc3 : ¬ CL < 16 := by omega
                have hc0 : (rC == 0) = false := by have h := HCC.out; simp only [decide_eq_false hc, Bool.and_false, Bool.false_and] at h; exact h
                clear HA HB0 HB1' HCC HBF
                go_wp2_with fail
                go_ret
                exact ⟨by first | rfl | exact ret_bool (by simp), HF1.out.trans (HBM.out.mono HG2.out)⟩
              have hc3 : CL < 16 := by omega
              by_cases hn : (NI : Int) < 96
              rotate_left
              · have hn2 : (96 : Int) ≤ (NI : Int) := by omega
                have hn3 : ¬ NI < 96 := by omega
                have hc0 : (rC == 0) = false := by have h := HCC.out; simp only [decide_eq_false hn, Bool.and_false] at h; exact h
                clear HA HB0 HB1' HCC HBF
                go_wp2_with fail
                go_ret
                exact ⟨by first | rfl | exact ret_bool (by simp), HF1.out.trans (HBM.out.mono HG2.out)⟩
              have hn3 : NI < 96 := by omega
              have hc0 : (rC == 0) = true := by have h := HCC.out; simp only [decide_eq_true hv, decide_eq_true hc, decide_eq_true hn, Bool.and_true] at h; exact h
              clear HA HB0 HB1' HCC HBF
              go_wp2_with fail
              go_ret
              exact ⟨by first | rfl | exact ret_bool (by simp), HF1.out.trans (HBM.out.mono HG2.out)⟩
      · have hp2 : (6 : Int) ≤ (PL : Int) := by omega
        have hp3 : ¬ PL < 6 := by omega
        rw [decide_eq_false hp] at ha1
        cases rf with
        | false =>
          have hb1 := HB0.out rfl
          subst hb1
          have hrb : rb = false := by cases rb with | false => rfl | true => exact (HBF.out rfl).symm
          subst hrb
          have hc0 : (rC == 0) = false := by have h := HCC.out; simp only [Bool.false_and] at h; exact h
          clear HA HB0 HB1' HCC HBF
          go_wp2_with fail
          go_ret
          exact ⟨by first | rfl | exact ret_bool (by simp), HF1.out.trans (HBM.out.mono HG2.out)⟩
        | true =>
          have hb1 : (rB == 0) = decide ((lq : Int) < 12) := HB1'.out rfl
          by_cases hl : (lq : Int) < 12
          · have hl3 : lq < 12 := by omega
            rw [decide_eq_true hl] at hb1
            cases rb with
            | false =>
              have hc0 : (rC == 0) = false := by have h := HCC.out; simp only [Bool.false_and] at h; exact h
              clear HA HB0 HB1' HCC HBF
              go_wp2_with fail
              go_ret
              exact ⟨by first | rfl | exact ret_bool (by simp), HF1.out.trans (HBM.out.mono HG2.out)⟩
            | true =>
              by_cases hv : 0 < vr
              rotate_left
              · have hv2 : vr ≤ 0 := by omega
                have hc0 : (rC == 0) = false := by have h := HCC.out; simp only [decide_eq_false hv, Bool.and_false, Bool.false_and] at h; exact h
                clear HA HB0 HB1' HCC HBF
                go_wp2_with fail
                go_ret
                exact ⟨by first | rfl | exact ret_bool (by simp), HF1.out.trans (HBM.out.mono HG2.out)⟩
              by_cases hc : (CL : Int) < 16
              rotate_left
              · have hc2 : (16 : Int) ≤ (CL : Int) := by omega
                have hc3 : ¬ CL < 16 := by omega
                have hc0 : (rC == 0) = false := by have h := HCC.out; simp only [decide_eq_false hc, Bool.and_false, Bool.false_and] at h; exact h
                clear HA HB0 HB1' HCC HBF
                go_wp2_with fail
                go_ret
                exact ⟨by first | rfl | exact ret_bool (by simp), HF1.out.trans (HBM.out.mono HG2.out)⟩
              have hc3 : CL < 16 := by omega
              by_cases hn : (NI : Int) < 96
              rotate_left
              · have hn2 : (96 : Int) ≤ (NI : Int) := by omega
                have hn3 : ¬ NI < 96 := by omega
                have hc0 : (rC == 0) = false := by have h := HCC.out; simp only [decide_eq_false hn, Bool.and_false] at h; exact h
                clear HA HB0 HB1' HCC HBF
                go_wp2_with fail
                go_ret
                exact ⟨by first | rfl | exact ret_bool (by simp), HF1.out.trans (HBM.out.mono HG2.out)⟩
              have hn3 : NI < 96 := by omega
              have hc0 : (rC == 0) = true := by have h := HCC.out; simp only [decide_eq_true hv, decide_eq_true hc, decide_eq_true hn, Bool.and_true] at h; exact h
              clear HA HB0 HB1' HCC HBF
              go_wp2_with fail
              go_ret
              exact ⟨by first | rfl | exact ret_bool (by simp), HF1.out.trans (HBM.out.mono HG2.out)⟩
          · have hl2 : (12 : Int) ≤ (lq : Int) := by omega
            have hl3 : ¬ lq < 12 := by omega
            rw [decide_eq_false hl] at hb1
            cases rb with
            | false =>
              have hc0 : (rC == 0) = false := by have h := HCC.out; simp only [Bool.false_and] at h; exact h
              clear HA HB0 HB1' HCC HBF
              go_wp2_with fail
              go_ret
              exact ⟨by first | rfl | exact ret_bool (by simp), HF1.out.trans (HBM.out.mono HG2.out)⟩
            | true =>
              by_cases hv : 0 < vr
              rotate_left
              · have hv2 : vr ≤ 0 := by omega
                have hc0 : (rC == 0) = false := by have h := HCC.out; simp only [decide_eq_false hv, Bool.and_false, Bool.false_and] at h; exact h
                clear HA HB0 HB1' HCC HBF
                go_wp2_with fail
                go_ret
                exact ⟨by first | rfl | exact ret_bool (by simp), HF1.out.trans (HBM.out.mono HG2.out)⟩
              by_cases hc : (CL : Int) < 16
              rotate_left
              · have hc2 : (16 : Int) ≤ (CL : Int) := by omega
                have hc3 : ¬ CL < 16 := by omega
                have hc0 : (rC == 0) = false := by have h := HCC.out; simp only [decide_eq_false hc, Bool.and_false, Bool.false_and] at h; exact h
                clear HA HB0 HB1' HCC HBF
                go_wp2_with fail
                go_ret
                exact ⟨by first | rfl | exact ret_bool (by simp), HF1.out.trans (HBM.out.mono HG2.out)⟩
              have hc3 : CL < 16 := by omega
              by_cases hn : (NI : Int) < 96
              rotate_left
              · have hn2 : (96 : Int) ≤ (NI : Int) := by omega
                have hn3 : ¬ NI < 96 := by omega
                have hc0 : (rC == 0) = false := by have h := HCC.out; simp only [decide_eq_false hn, Bool.and_false] at h; exact h
                clear HA HB0 HB1' HCC HBF
                go_wp2_with fail
                go_ret
                exact ⟨by first | rfl | exact ret_bool (by simp), HF1.out.trans (HBM.out.mono HG2.out)⟩
              have hn3 : NI < 96 := by omega
              have hc0 : (rC == 0) = true := by have h := HCC.out; simp only [decide_eq_true hv, decide_eq_true hc, decide_eq_true hn, Bool.and_true] at h; exact h
              clear HA HB0 HB1' HCC HBF
              go_wp2_with fail
              go_ret
              exact ⟨by first | rfl | exact ret_bool (by simp), HF1.out.trans (HBM.out.mono HG2.out)⟩

theorem editRoom_any (p : Pg) (f b : Int) (w : World) (h : Rd w p) (hN : NTab w) :
    Calls Tryz.prog 5 #[p.val, .int .i64 f, .int .i64 b] w fun x w' => x = .returned (.bool true) ∧ Below w.heap.size w w' := by
  by_cases hfew : p.few
  · by_cases hs : p.sane
    · exact roomY p f b w h hN hfew hs
    · exact roomS p f b w h hN hfew hs
  · exact roomN p f b w h hN hfew
end Go.Proofs.YtbddjneinfkmpaaGreatDoor
