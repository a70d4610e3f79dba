/- ProgUses: its loops. -/
import Derived.Test.YtdhdpfloaelngaaDoorPuD
import Derived.Test.YtdhdpfloaelngaaDoorPeN
namespace Go.Proofs.YtdhdpfloaelngaaDoor
open Go Go.RowKit Go.Sort

theorem owns_slice {W : World} {n0 : Nat} {e : TypeId} {z : Nat} {u : Value} {T : Nat} {xs : List Value} (h : W.ownsRow n0 e z u T xs) : ∃ a cap, u = .slice a T cap := by
  obtain ⟨-, ⟨rfl, h0⟩ | ⟨g, cap, cur, rfl, -⟩⟩ := h
  · subst h0; exact ⟨_, _, rfl⟩
  · exact ⟨_, _, rfl⟩
theorem fd_cells {W : World} {p : Pg} {g b o q : Nat} (h : Here W p g) (hpa : p.pa = some ⟨b, o, none⟩) (hq : q < p.funs.length) :
    W.cell? ⟨b, o + q * 3 + 1, none⟩ = some (.int .i64 (fdAt p.funs q).vr) ∧ W.cell? ⟨b, o + q * 3 + 2, none⟩ = some (.slice (fdAt p.funs q).ba (fdAt p.funs q).blocks.length (fdAt p.funs q).bc) ∧ BlksIs W.heap.size W (fdAt p.funs q).ba (fdAt p.funs q).blocks := by
  obtain ⟨b', o', e, -, -, h1, h2, h3⟩ := h.1 q hq
  rw [hpa] at e
  cases e
  exact ⟨h1, h2, h3⟩
theorem blk_cells {W : World} {B : Nat} {l : List Blk} {b o m : Nat} (h : BlksIs B W (some ⟨b, o, none⟩) l) (hm : m < l.length) :
    W.cell? ⟨b, o + m * 3 + 1, none⟩ = some (.slice (blkAt l m).ca (blkAt l m).code.length (blkAt l m).cc) := by
  obtain ⟨b', o', e, -, -, h1, -⟩ := h m hm
  cases e
  exact h1
theorem blks_ins_le : ∀ (l : List Blk), (∀ x ∈ l, x.code.length ≤ 30) → (l.flatMap Blk.ins).length ≤ 30 * l.length
  | [], _ => by simp
  | x :: l, h => by
    have h1 := blks_ins_le l (fun y hy => h y (List.mem_cons_of_mem _ hy))
    have h2 := h x (by simp)
    simp only [List.flatMap_cons, List.length_append, List.length_cons, Blk.ins] at *
    omega
theorem insL_len (x : Int) : ∀ l : List Int, (insL x l).length ≤ l.length + 1
  | [] => by simp [insL]
  | y :: l => by
    have := insL_len x l
    unfold insL
    split
    · simp
    · split
      · simp
      · simp only [List.length_cons]; omega
theorem sortL_len : ∀ l : List Int, (sortL l).length ≤ l.length
  | [] => by simp [sortL]
  | x :: l => by
    have h1 := sortL_len l
    have h2 := insL_len x (sortL l)
    show (insL x (sortL l)).length ≤ _
    simp only [List.length_cons]
    omega
theorem vars_le6 (i : Ins) : i.vars.length ≤ 6 := by
  have h1 := Bi.uses_le i
  unfold Ins.vars
  refine Nat.le_trans (sortL_len _) ?_
  split
  · unfold addL
    split
    · omega
    · rw [List.length_append]; simp; omega
  · omega
theorem at_in {p : Pg} (hs : p.sane) {q m k : Nat} (hq : q < p.funs.length) (hm : m < (fdAt p.funs q).blocks.length) (hk : k < (blkAt (fdAt p.funs q).blocks m).code.length) :
    atB p (q : Int) (m : Int) (k : Int) = true ∧ atR p (q : Int) (m : Int) (k : Int) = insAt (blkAt (fdAt p.funs q).blocks m).code k ∧ insOk p (fdAt p.funs q) (insAt (blkAt (fdAt p.funs q).blocks m).code k) := by
  obtain ⟨-, hx⟩ := funR_in hs hq
  have hb := (hs.2.1 q hq).2 m hm
  have hlv : (blkAt (fdAt p.funs q).blocks m).live = true := by
    cases hl : (blkAt (fdAt p.funs q).blocks m).live with
    | true => rfl
    | false => have := (hb.1 hl).1; omega
  have hrb : blkB p (q : Int) (m : Int) = true := by
    rw [blkB_iff, hx]
    exact ⟨by omega, by omega, by simpa using hlv⟩
  have hye : blkR p (q : Int) (m : Int) = blkAt (fdAt p.funs q).blocks m := by
    unfold blkR
    rw [hrb, hx]
    simp
  have ha : atB p (q : Int) (m : Int) (k : Int) = true := by
    unfold atB
    rw [hye]
    simpa using hk
  refine ⟨ha, ?_, hb.2.2.2 k hk⟩
  unfold atR
  rw [ha, hye]
  simp

set_option maxRecDepth 100000 in
set_option maxHeartbeats 16000000 in
theorem progUses_ok (p : Pg) (w : World) (hp : PgIs w.heap.size w p) (hT : KTab w) (hE : ETab w) (hfew : p.few) (hs : p.sane) :
    Calls Tryd.prog 5 #[p.val] w fun e w' => e = .returned (.bool true) ∧ Below w.heap.size w w' := by
  have HH := Lib.hid (Here.new w p hp hT hE)
  have HB1 := Lib.hid (below1 w (.cells #[.slice p.pa p.funs.length p.pc] 24))
  have HA := Lib.hid (fun W (h : Here W p w.heap.size) => awake_any W h.2.1 h.2.2.1)
  have HFE := Lib.hid (fun W (h : Here W p w.heap.size) => Few_any p W h.1 true (by simp [hfew]))
  have HSA := Lib.hid (fun W (h : Here W p w.heap.size) => Sane_any p W h.1 h.2.1 h.2.2.1 hfew true (by simp [hs]))
  have HCA := Lib.hid (fun W (h : Here W p w.heap.size) (f : Int) => Calls_any p f W h.1 h.2.1 h.2.2.1 hfew hs)
  have HDF := Lib.hid (fun W (h : Here W p w.heap.size) (f v : Int) (hv : 0 ≤ v) => Defs_any p f v W h.1 h.2.1 h.2.2.1 hfew hs hv)
  have HAT := Lib.hid (fun W (h : Here W p w.heap.size) (q m k : Nat) hq hm hk => At_any p (q : Int) (m : Int) (k : Int) W h.1 h.2.1 h.2.2.1 hfew _ (at_in hs (q := q) (m := m) (k := k) hq hm hk).2.1 _ (at_in hs hq hm hk).1)
  have HCO := Lib.hid (fun W (h : Here W p w.heap.size) => Count_any p W h.1 h.2.1 h.2.2.1 hfew hs)
  have HIN := Lib.hid (fun W (h : Here W p w.heap.size) => Instrs_any p W h.1 hfew)
  have HBX := Lib.hid (fun W (h : Here W p w.heap.size) => h.bx)
  have HPI := Lib.hid (fun W (h : Here W p w.heap.size) => h.1)
  have HFC := Lib.hid (fun W (h : Here W p w.heap.size) b o q => fd_cells (b := b) (o := o) (q := q) h)
  have HSN := Lib.hid hs
  have HFW := Lib.hid hfew
  have HAL := Lib.hid (ats_le hfew)
  have hi96 := ins96 hs
  have hlen := hs.1
  clear hp hT hE hfew hs
  unfold Pg.val at *
  obtain ⟨PL, hPL⟩ : ∃ PL, p.funs.length = PL := ⟨_, rfl⟩
  obtain ⟨pa, hpa⟩ : ∃ pa, p.pa = pa := ⟨_, rfl⟩
  obtain ⟨IL, hIL⟩ : ∃ IL, p.ins.length = IL := ⟨_, rfl⟩
  simp only [hPL, hpa] at HB1 HH HA HFE HSA HCA HDF HAT HCO HIN HBX HFC hlen ⊢
  simp only [hIL] at HCO HIN hi96
  have HPA := Lib.hid hpa
  have HPL := Lib.hid hPL
  have HIL := Lib.hid hIL
  clear hPL hpa hIL
  generalize hE : w.alloc (.cells #[.slice pa PL p.pc] 24) = W at HB1 HH
  obtain ⟨g, hg⟩ : ∃ g, w.heap.size = g := ⟨_, rfl⟩
  have HGL := Lib.hid HB1.out.size
  rw [hg] at HB1 HH HA HFE HSA HCA HDF HAT HCO HIN HBX HPI HFC HGL ⊢
  have k0 := HBX.out _ HH.out
  have HH0 := HH
  have HB0 := HB1
  have HG0 := HGL
  clear HH HB1 HGL
  go_enter Tryd.func5, Tryd.ntmps5
  go_wp2_with (first | (go_at_call 7; refine (HA.out _ HH0.out).mono ?_; rintro e wa ⟨rfl, hba⟩; have hbx := hba; have HHa := Lib.hid (HH0.out.on hbx); have HBa := Lib.hid (HB0.out.trans (hbx.mono HG0.out)); have HGa := Lib.hid (Nat.le_trans HG0.out hbx.size); clear hba hbx HH0 HB0 HG0 k0; have k0 := HBX.out _ HHa.out) | (go_at_call 8; refine (HFE.out _ HHa.out).mono ?_; rintro e wb ⟨rfl, hbb⟩; have hbx := hbb; have HHb := Lib.hid (HHa.out.on hbx); have HBb := Lib.hid (HBa.out.trans (hbx.mono HGa.out)); have HGb := Lib.hid (Nat.le_trans HGa.out hbx.size); clear hbb hbx HHa HBa HGa k0; have k0 := HBX.out _ HHb.out) | (go_at_call 9; refine (HSA.out _ HHb.out).mono ?_; rintro e wc ⟨rfl, hbc⟩; have hbx := hbc; have HHc := Lib.hid (HHb.out.on hbx); have HBc := Lib.hid (HBb.out.trans (hbx.mono HGb.out)); have HGc := Lib.hid (Nat.le_trans HGb.out hbx.size); clear hbc hbx HHb HBb HGb k0; have k0 := HBX.out _ HHc.out))
  clear k0 HA HFE HSA
  go_loopw [4, 5, 6] (fun c s i wr => ∃ q : Nat, q ≤ PL ∧ i = .int .i64 q ∧ c = .int .i64 ((cnt7 ((p.funs.take q).flatMap Fd.ins) : Nat) : Int) ∧ s = .int .i64 ((sumTo (fun f => (callsL (f : Int) p.ats).length) q : Nat) : Int) ∧ Hid (Here wr p g) ∧ Hid (Below g w wr) ∧ Hid (g ≤ wr.heap.size)) (fun _ _ i _ => PL - (intOf i).toNat)
  case atStart => exact ⟨0, Nat.zero_le _, rfl, rfl, rfl, HHc, HBc, HGc⟩
  case round =>
    obtain ⟨q, hq, rfl, rfl, rfl, HHr, HBr, HGr⟩ := hrel
    have k0 := HBX.out _ HHr.out
    have hsum : sumTo (fun f => (callsL ((f : Nat) : Int) p.ats).length) q ≤ 60000 := Nat.le_trans (sumTo_le (c := 6000) q (fun k _ => Nat.le_trans (callsL_le _ _) HAL.out)) (by omega)
    by_cases hlt : q < PL
    rotate_left
    · obtain rfl : q = PL := by omega
      have hqi : ¬ ((q : Int) < (q : Int)) := by omega
      have h1 := calls_sum HSN.out
      rw [HPL.out] at h1
      have h2 := take_all_fd p
      rw [HPL.out] at h2
      rw [h2]
      rw [h1] at hsum ⊢
      clear h1 h2
      obtain ⟨n7, hn7⟩ : ∃ n, cnt7 p.ins = n := ⟨_, rfl⟩
      rw [hn7] at hsum ⊢
      clear hn7
      have hi96i : (IL : Int) ≤ 96 := by omega
      go_wp2_with (first | (go_at_call 21; refine (HCO.out _ HHr.out).mono ?_; rintro e ws ⟨rfl, hbs⟩; have hbx := hbs; have HHs := Lib.hid (HHr.out.on hbx); have HBs := Lib.hid (HBr.out.trans (hbx.mono HGr.out)); have HGs := Lib.hid (Nat.le_trans HGr.out hbx.size); clear hbs hbx HHr HBr HGr k0; have k0 := HBX.out _ HHs.out) | (go_at_call 14; refine (HIN.out _ HHs.out).mono ?_; rintro e wt ⟨u, rfl, hu, hbt⟩; obtain ⟨av, cv, rfl⟩ := owns_slice hu; clear hu; have hbx := hbt; have HHt := Lib.hid (HHs.out.on hbx); have HBt := Lib.hid (HBs.out.trans (hbx.mono HGs.out)); have HGt := Lib.hid (Nat.le_trans HGs.out hbx.size); clear hbt hbx HHs HBs HGs k0; have k0 := HBX.out _ HHt.out))
      go_ret
      exact ⟨by simp, HBt.out⟩
    have hqi : (q : Int) < (PL : Int) := by omega
    have hqf : q < p.funs.length := by rw [HPL.out]; exact hlt
    obtain ⟨b, o, hbo, -⟩ := HPI.out _ HHr.out q hqf
    have hpao := hbo
    rw [HPA.out] at hbo
    subst hbo
    have hok := HSN.out.2.1 q hqf
    have hfb := HFW.out.f q
    have hdsum := defs_sum HSN.out hqf
    have hFC := fun W h => HFC.out W h b o q rfl hlt
    have hAT := fun W h m k => HAT.out W h q m k hlt
    have htk := take_fd hqf
    have hin := fun m k hm hk => (at_in HSN.out (q := q) (m := m) (k := k) hqf hm hk).2.2
    obtain ⟨x, hx⟩ : ∃ x, fdAt p.funs q = x := ⟨_, rfl⟩
    simp only [hx] at hok hfb hdsum hFC hAT htk hin
    clear hx
    obtain ⟨ar, vr, ba, bc, bl⟩ := x
    unfold fdOk headOk at hok
    dsimp only at hok hfb hdsum hFC hAT htk hin
    obtain ⟨V, hV⟩ := Int.eq_ofNat_of_zero_le (show 0 ≤ vr by omega)
    subst hV
    have hV6 : V ≤ 6 := by omega
    have hb12 : bl.length ≤ 12 := by omega
    rw [Int.toNat_natCast] at hdsum
    obtain ⟨BL, hBL⟩ : ∃ BL, bl.length = BL := ⟨_, rfl⟩
    obtain ⟨CN, hCN⟩ : ∃ CN, (callsL (q : Int) p.ats).length = CN := ⟨_, rfl⟩
    have HCQ := Lib.hid (fun W h => HCA.out W h (q : Int))
    simp only [hCN] at HCQ
    simp only [hBL] at hFC hb12
    have hcn : CN ≤ 6000 := by rw [← hCN]; exact Nat.le_trans (callsL_le _ _) HAL.out
    have HCN := Lib.hid hCN
    have HBL := Lib.hid hBL
    have HFQ := Lib.hid hFC
    have HAQ := Lib.hid hAT
    have HDS := Lib.hid hdsum
    have HTK := Lib.hid htk
    have HIN2 := Lib.hid hin
    have HFB := Lib.hid hfb
    clear hFC hAT hdsum htk hin hfb hok hCN hBL hpao
    obtain ⟨s1, hs1⟩ : ∃ s, sumTo (fun f => (callsL ((f : Nat) : Int) p.ats).length) q = s := ⟨_, rfl⟩
    have hc7 : cnt7 ((p.funs.take q).flatMap Fd.ins) ≤ 6000 := by
      have h1 : p.ins = (p.funs.take q).flatMap Fd.ins ++ (p.funs.drop q).flatMap Fd.ins := by rw [← List.flatMap_append, List.take_append_drop]; rfl
      have h2 := congrArg cnt7 h1
      rw [cnt7_app] at h2
      have h3 := cnt7_le p.ins
      rw [HIL.out] at h3
      omega
    obtain ⟨c1, hc1⟩ : ∃ s, cnt7 ((p.funs.take q).flatMap Fd.ins) = s := ⟨_, rfl⟩
    rw [hs1] at hsum ⊢
    rw [hc1] at hc7 ⊢
    have HS1 := Lib.hid hs1
    have HC1 := Lib.hid hc1
    clear hs1 hc1
    go_wp2_with (go_at_call 16; refine (HCQ.out _ HHr.out).mono ?_; rintro e wd ⟨u, rfl, hu, hbd⟩; obtain ⟨av, cv, rfl⟩ := owns_slice hu; clear hu; have hbx := hbd; have HHd := Lib.hid (HHr.out.on hbx); have HBd := Lib.hid (HBr.out.trans (hbx.mono HGr.out)); have HGd := Lib.hid (Nat.le_trans HGr.out hbx.size); have f1 := (HFQ.out _ HHd.out).1; clear hbd hbx HHr HBr HGr k0; have k0 := HBX.out _ HHd.out)
    clear k0
    go_loopw [7, 8] (fun s i wi => ∃ r : Nat, r ≤ V ∧ i = .int .i64 r ∧ s = .int .i64 ((sumTo (fun v => (defsL (q : Int) (v : Int) p.ats).length) r : Nat) : Int) ∧ Hid (Here wi p g) ∧ Hid (Below g w wi) ∧ Hid (g ≤ wi.heap.size)) (fun _ i _ => V - (intOf i).toNat)
    case atStart => exact ⟨0, Nat.zero_le _, rfl, rfl, HHd, HBd, HGd⟩
    case round =>
      obtain ⟨r, hr, rfl, rfl, HHi, HBi, HGi⟩ := hrel
      have k0 := HBX.out _ HHi.out
      obtain ⟨f1, f2, -⟩ := HFQ.out _ HHi.out
      have hds : sumTo (fun v => (defsL (q : Int) ((v : Nat) : Int) p.ats).length) r ≤ 36000 := Nat.le_trans (sumTo_le (c := 6000) r (fun k _ => Nat.le_trans (defsL_le _ _ _) HAL.out)) (by omega)
      by_cases hrt : r < V
      · have hri : (r : Int) < (V : Int) := by omega
        obtain ⟨DN, hDN⟩ : ∃ DN, (defsL (q : Int) (r : Int) p.ats).length = DN := ⟨_, rfl⟩
        have HDQ := Lib.hid (fun W h => HDF.out W h (q : Int) (r : Int) (by omega))
        simp only [hDN] at HDQ
        have hdn : DN ≤ 6000 := by rw [← hDN]; exact Nat.le_trans (defsL_le _ _ _) HAL.out
        have HDN := Lib.hid hDN
        clear hDN
        obtain ⟨d1, hd1⟩ : ∃ s, sumTo (fun v => (defsL (q : Int) ((v : Nat) : Int) p.ats).length) r = s := ⟨_, rfl⟩
        rw [hd1] at hds ⊢
        have HD1 := Lib.hid hd1
        clear hd1
        go_wp2_with (go_at_call 17; refine (HDQ.out _ HHi.out).mono ?_; rintro e wj ⟨u, rfl, hu, hbj⟩; obtain ⟨av, cv, rfl⟩ := owns_slice hu; clear hu; have hbx := hbj; have HHj := Lib.hid (HHi.out.on hbx); have HBj := Lib.hid (HBi.out.trans (hbx.mono HGi.out)); have HGj := Lib.hid (Nat.le_trans HGi.out hbx.size); clear hbj hbx HHi HBi HGi k0 f1 f2; have k0 := HBX.out _ HHj.out)
        go_roundw
        case rel =>
          refine ⟨r + 1, by omega, by go_num, ?_, HHj, HBj, HGj⟩
          show _ = Value.int .i64 ((sumTo (fun v => (defsL (q : Int) (v : Int) p.ats).length) r + (defsL (q : Int) (r : Int) p.ats).length : Nat) : Int)
          rw [HD1.out, HDN.out]
          simp
        case measure => simp [intOf]; omega
      obtain rfl : r = V := by omega
      have hri : ¬ ((r : Int) < (r : Int)) := by omega
      rw [HDS.out] at hds ⊢
      obtain ⟨D, hD⟩ : ∃ s, cntD (Fd.mk ar (r : Int) ba bc bl).ins = s := ⟨_, rfl⟩
      rw [hD] at hds ⊢
      have HD := Lib.hid hD
      clear hD
      go_wp2_with fail
      clear k0 f1 f2
      go_loopw [4, 7, 9] (fun c s i w3 => ∃ m : Nat, m ≤ BL ∧ i = .int .i64 m ∧ c = .int .i64 ((c1 + cnt7 ((bl.take m).flatMap Blk.ins) : Nat) : Int) ∧ s = .int .i64 ((D : Int) - ((cntD ((bl.take m).flatMap Blk.ins) : Nat) : Int)) ∧ Hid (Here w3 p g) ∧ Hid (Below g w w3) ∧ Hid (g ≤ w3.heap.size)) (fun _ _ i _ => BL - (intOf i).toNat)
      case atStart => exact ⟨0, Nat.zero_le _, rfl, by simp [cnt7], by simp [cntD], HHi, HBi, HGi⟩
      case round =>
        obtain ⟨m, hm, rfl, rfl, rfl, HHk, HBk, HGk⟩ := hrel
        have k0 := HBX.out _ HHk.out
        obtain ⟨f1, f2, f3⟩ := HFQ.out _ HHk.out
        by_cases hmt : m < BL
        rotate_left
        · obtain rfl : m = BL := by omega
          have hmi : ¬ ((m : Int) < (m : Int)) := by omega
          have e1 : (bl.take m).flatMap Blk.ins = (Fd.mk ar (r : Int) ba bc bl).ins := by rw [List.take_of_length_le (by rw [HBL.out]; exact Nat.le_refl _)]; rfl
          rw [e1, HD.out, Int.sub_self]
          obtain ⟨c2, hc2⟩ : ∃ n, c1 + cnt7 (Fd.mk ar (r : Int) ba bc bl).ins = n := ⟨_, rfl⟩
          rw [hc2]
          have HC2 := Lib.hid hc2
          clear hc2 e1 f3
          go_wp2_with fail
          go_roundw
          case rel =>
            refine ⟨q + 1, by omega, by go_num, ?_, ?_, HHk, HBk, HGk⟩
            · rw [HTK.out, cnt7_app, HC1.out, HC2.out]
            · show _ = Value.int .i64 ((sumTo (fun f => (callsL (f : Int) p.ats).length) q + (callsL (q : Int) p.ats).length : Nat) : Int)
              rw [HS1.out, HCN.out]
              simp
          case measure => simp [intOf]; omega
        have hmi : (m : Int) < (BL : Int) := by omega
        have hml : m < bl.length := by rw [HBL.out]; exact hmt
        obtain ⟨b2, o2, hb2, -⟩ := f3 m hml
        subst hb2
        have hbk30 : ∀ x ∈ bl.take m, x.code.length ≤ 30 := fun x hx => by
          obtain ⟨k, -, rfl⟩ := mem_blkAt (List.mem_of_mem_take hx)
          exact (HFB.out.b k).1
        have hle1 := blks_ins_le _ hbk30
        have hle2 : (bl.take m).length ≤ m := by rw [List.length_take]; exact Nat.min_le_left _ _
        have hc3 := cnt7_le ((bl.take m).flatMap Blk.ins)
        have hd3 := cntD_le ((bl.take m).flatMap Blk.ins)
        have hcl := (HFB.out.b m).1
        have htb := take_blk hml
        have hAT := fun W h k => HAQ.out W h m k hml
        have hin := fun k => HIN2.out m k hml
        have hbc := fun W (h : Here W p g) => blk_cells (HFQ.out W h).2.2 hml
        dsimp only at hcl
        obtain ⟨y, hy⟩ : ∃ y, blkAt bl m = y := ⟨_, rfl⟩
        simp only [hy] at hcl htb hAT hin hbc
        clear hy
        obtain ⟨lv, ca, cc, code, sa, sc, succ⟩ := y
        dsimp only at hcl htb hAT hin hbc
        obtain ⟨CL, hCL⟩ : ∃ CL, code.length = CL := ⟨_, rfl⟩
        simp only [hCL] at hcl hbc
        obtain ⟨n3, hn3⟩ : ∃ n, cnt7 ((bl.take m).flatMap Blk.ins) = n := ⟨_, rfl⟩
        obtain ⟨d3, hdd3⟩ : ∃ n, cntD ((bl.take m).flatMap Blk.ins) = n := ⟨_, rfl⟩
        rw [hn3] at hc3 ⊢
        rw [hdd3] at hd3 ⊢
        have hn360 : n3 ≤ 360 := by omega
        have hd360 : d3 ≤ 360 := by omega
        have HCL := Lib.hid hCL
        have HN3 := Lib.hid hn3
        have HD3 := Lib.hid hdd3
        have HTB := Lib.hid htb
        have HATm := Lib.hid hAT
        have HINm := Lib.hid hin
        have HBC := Lib.hid hbc
        clear hCL hn3 hdd3 htb hAT hin hbc hbk30 hle1 hle2 hc3 hd3 f3
        go_wp2_with fail
        clear k0 f1 f2
        go_loopw [4, 7, 10] (fun c s i w4 => ∃ k : Nat, k ≤ CL ∧ i = .int .i64 k ∧ c = .int .i64 ((c1 + n3 + cnt7 (code.take k) : Nat) : Int) ∧ s = .int .i64 ((D : Int) - ((d3 + cntD (code.take k) : Nat) : Int)) ∧ Hid (Here w4 p g) ∧ Hid (Below g w w4) ∧ Hid (g ≤ w4.heap.size)) (fun _ _ i _ => CL - (intOf i).toNat)
        case atStart => exact ⟨0, Nat.zero_le _, rfl, by simp [cnt7], by simp [cntD], HHk, HBk, HGk⟩
        case round =>
          obtain ⟨k, hk, rfl, rfl, rfl, HHm, HBm, HGm⟩ := hrel
          have k0 := HBX.out _ HHm.out
          obtain ⟨f1, f2, -⟩ := HFQ.out _ HHm.out
          have f4 := HBC.out _ HHm.out
          have h7 := cnt7_le (code.take k)
          have hD7 := cntD_le (code.take k)
          have htl : (code.take k).length ≤ k := by rw [List.length_take]; exact Nat.min_le_left _ _
          by_cases hkt : k < CL
          rotate_left
          · obtain rfl : k = CL := by omega
            have hki : ¬ ((k : Int) < (k : Int)) := by omega
            have e1 : code.take k = code := List.take_of_length_le (by rw [HCL.out]; exact Nat.le_refl _)
            rw [e1] at h7 hD7 ⊢
            obtain ⟨n4, hn4⟩ : ∃ n, cnt7 code = n := ⟨_, rfl⟩
            obtain ⟨d4, hd4⟩ : ∃ n, cntD code = n := ⟨_, rfl⟩
            rw [hn4] at h7 ⊢
            rw [hd4] at hD7 ⊢
            have HN4 := Lib.hid hn4
            have HD4 := Lib.hid hd4
            clear hn4 hd4 e1 htl
            go_wp2_with fail
            go_roundw
            case rel =>
              refine ⟨m + 1, by omega, by go_num, ?_, ?_, HHm, HBm, HGm⟩
              · rw [HTB.out, cnt7_app, HN3.out, HN4.out, Nat.add_assoc]
              · rw [HTB.out, cntD_app, HD3.out, HD4.out]
            case measure => simp [intOf]; omega
          have hki : (k : Int) < (CL : Int) := by omega
          have hkl : k < code.length := by rw [HCL.out]; exact hkt
          have hc7s := cnt7_step hkl
          have hcDs := cntD_step hkl
          have hio := (HINm.out k hkl).2.1
          have hat := fun W h => HATm.out W h k hkl
          obtain ⟨i, hi⟩ : ∃ i, insAt code k = i := ⟨_, rfl⟩
          simp only [hi] at hc7s hcDs hio hat
          clear hi
          obtain ⟨vs, hvs⟩ : ∃ vs, i.vars = vs := ⟨_, rfl⟩
          obtain ⟨d, hd⟩ : ∃ d, i.defn = d := ⟨_, rfl⟩
          obtain ⟨LV, hLV⟩ : ∃ n, vs.length = n := ⟨_, rfl⟩
          have HVA := Lib.hid (fun W (h : Here W p g) => Bi.Vars_any i W h.2.1 vs hvs)
          have HDE := Lib.hid (fun W (h : Here W p g) => Def_any i W h.2.1 d hd)
          simp only [hLV] at HVA
          rw [hvs] at hio
          rw [hd] at hcDs
          have HL5 : Hid (LV ≤ 6) := Lib.hid (by rw [← hLV, ← hvs]; exact vars_le6 i)
          have HLV := Lib.hid hLV
          have HIO := Lib.hid hio
          have HAK := Lib.hid hat
          have HC7 := Lib.hid hc7s
          have HCD := Lib.hid hcDs
          clear hvs hd hLV hio hat hc7s hcDs
          obtain ⟨id, kind, dst, a, bb, c, ff, nn, x0, x1, x2⟩ := i
          unfold Ins.val at HVA HDE HAK
          dsimp only at HVA HDE HAK HC7 HIO
          obtain ⟨n4, hn4⟩ : ∃ n, cnt7 (code.take k) = n := ⟨_, rfl⟩
          obtain ⟨d4, hd4⟩ : ∃ n, cntD (code.take k) = n := ⟨_, rfl⟩
          rw [hn4] at h7 ⊢
          rw [hd4] at hD7 ⊢
          simp only [hn4] at HC7
          simp only [hd4] at HCD
          have hn30 : n4 ≤ 30 := by omega
          have hd30 : d4 ≤ 30 := by omega
          clear hn4 hd4 h7 hD7 htl
          go_wp2_with (first | (go_at_call 18; refine (HAK.out _ HHm.out).mono ?_; rintro e wl ⟨rfl, hbl⟩; have hbx := hbl.alloc hbl.size (.cells #[.int .i64 id, .int .i64 kind, .int .i64 dst, .int .i64 a, .int .i64 bb, .int .i64 c, .int .i64 ff, .int .i64 nn, .int .i64 x0, .int .i64 x1, .int .i64 x2] 45); have HHl := Lib.hid (HHm.out.on hbx); have HBl := Lib.hid (HBm.out.trans (hbx.mono HGm.out)); have HGl := Lib.hid (Nat.le_trans HGm.out hbx.size); have HXl := Lib.hid (show BoxL (wl.alloc (.cells #[.int .i64 id, .int .i64 kind, .int .i64 dst, .int .i64 a, .int .i64 bb, .int .i64 c, .int .i64 ff, .int .i64 nn, .int .i64 x0, .int .i64 x1, .int .i64 x2] 45)) wl.heap.size [.int .i64 id, .int .i64 kind, .int .i64 dst, .int .i64 a, .int .i64 bb, .int .i64 c, .int .i64 ff, .int .i64 nn, .int .i64 x0, .int .i64 x1, .int .i64 x2] from BoxL.new wl _ 45); have y0 := (HXl.out 0 _ rfl).1; have y1 := (HXl.out 1 _ rfl).1; have y2 := (HXl.out 2 _ rfl).1; have y3 := (HXl.out 3 _ rfl).1; have y4 := (HXl.out 4 _ rfl).1; have y5 := (HXl.out 5 _ rfl).1; have y6 := (HXl.out 6 _ rfl).1; have y7 := (HXl.out 7 _ rfl).1; have y8 := (HXl.out 8 _ rfl).1; have y9 := (HXl.out 9 _ rfl).1; have y10 := (HXl.out 10 _ rfl).1; clear hbl hbx HHm HBm HGm k0 f1 f2 f4; have k0 := HBX.out _ HHl.out) | (go_at_call 19; refine (HVA.out _ HHl.out).mono ?_; rintro e wv ⟨u, rfl, hu, hbv⟩; obtain ⟨av, cv, rfl, -, hIv⟩ := is_of_ints hu; clear hu; have HIV := Lib.hid hIv; clear hIv; have hbx := hbv; have HHv := Lib.hid (HHl.out.on hbx); have HBv := Lib.hid (HBl.out.trans (hbx.mono HGl.out)); have HGv := Lib.hid (Nat.le_trans HGl.out hbx.size); have HXv := Lib.hid (HXl.out.below hbx (HXl.out.lt (Nat.zero_lt_succ _))); clear hbv hbx HHl HBl HGl HXl k0 y0 y1 y2 y3 y4 y5 y6 y7 y8 y9 y10; have k0 := HBX.out _ HHv.out))
          have g1 := (HFQ.out _ HHv.out).1
          rcases Nat.eq_zero_or_pos LV with h0 | h0
          · subst h0
            go_quiet (fail)
            have hq := below_drewN (Below.refl wv.heap.size wv) nq
            have HHq := Lib.hid (HHv.out.on hq)
            have HBq := Lib.hid (HBv.out.trans (hq.mono HGv.out))
            have HGq := Lib.hid (Nat.le_trans HGv.out hq.size)
            have HXq := Lib.hid (HXv.out.below hq (HXv.out.lt (Nat.zero_lt_succ _)))
            clear hq k0 g1 HHv HBv HGv HXv HIV
            generalize wv.drewN nq = wq at HHq HBq HGq HXq ⊢
            have y0 := (HXq.out 0 _ rfl).1
            have y1 := (HXq.out 1 _ rfl).1
            have y2 := (HXq.out 2 _ rfl).1
            have y3 := (HXq.out 3 _ rfl).1
            have y4 := (HXq.out 4 _ rfl).1
            have y5 := (HXq.out 5 _ rfl).1
            have y6 := (HXq.out 6 _ rfl).1
            have y7 := (HXq.out 7 _ rfl).1
            have y8 := (HXq.out 8 _ rfl).1
            have y9 := (HXq.out 9 _ rfl).1
            have y10 := (HXq.out 10 _ rfl).1
            by_cases hk7 : kind = 7
            · have hkb : (kind == 7) = true := by simpa using hk7
              have HK7 := Lib.hid hk7
              clear hk7
              by_cases hd0 : 0 ≤ d
              · have HD0 := Lib.hid hd0
                go_wp2_with (go_at_call 20; refine (HDE.out _ HHq.out).mono ?_; rintro e wz ⟨rfl, hbz⟩; have hbx := hbz; have HHz := Lib.hid (HHq.out.on hbx); have HBz := Lib.hid (HBq.out.trans (hbx.mono HGq.out)); have HGz := Lib.hid (Nat.le_trans HGq.out hbx.size); clear hbz hbx HHq HBq HGq HXq y0 y1 y2 y3 y4 y5 y6 y7 y8 y9 y10)
                go_roundw
                case rel =>
                  refine ⟨k + 1, by omega, by go_num, ?_, ?_, HHz, HBz, HGz⟩
                  · rw [HC7.out, if_pos HK7.out]; first | rfl | (simp only [Value.int.injEq, true_and]; omega) | (simp; omega)
                  · rw [HCD.out, if_pos HD0.out]; first | rfl | (simp only [Value.int.injEq, true_and]; omega) | (simp; omega)
                case measure => simp [intOf]; omega
              · have HD0 := Lib.hid hd0
                go_wp2_with (go_at_call 20; refine (HDE.out _ HHq.out).mono ?_; rintro e wz ⟨rfl, hbz⟩; have hbx := hbz; have HHz := Lib.hid (HHq.out.on hbx); have HBz := Lib.hid (HBq.out.trans (hbx.mono HGq.out)); have HGz := Lib.hid (Nat.le_trans HGq.out hbx.size); clear hbz hbx HHq HBq HGq HXq y0 y1 y2 y3 y4 y5 y6 y7 y8 y9 y10)
                go_roundw
                case rel =>
                  refine ⟨k + 1, by omega, by go_num, ?_, ?_, HHz, HBz, HGz⟩
                  · rw [HC7.out, if_pos HK7.out]; first | rfl | (simp only [Value.int.injEq, true_and]; omega) | (simp; omega)
                  · rw [HCD.out, if_neg (by have := HD0.out; omega)]; first | rfl | (simp only [Value.int.injEq, true_and]; omega) | (simp; omega)
                case measure => simp [intOf]; omega
            · have hkb : (kind == 7) = false := by simpa using hk7
              have HK7 := Lib.hid hk7
              clear hk7
              by_cases hd0 : 0 ≤ d
              · have HD0 := Lib.hid hd0
                go_wp2_with (go_at_call 20; refine (HDE.out _ HHq.out).mono ?_; rintro e wz ⟨rfl, hbz⟩; have hbx := hbz; have HHz := Lib.hid (HHq.out.on hbx); have HBz := Lib.hid (HBq.out.trans (hbx.mono HGq.out)); have HGz := Lib.hid (Nat.le_trans HGq.out hbx.size); clear hbz hbx HHq HBq HGq HXq y0 y1 y2 y3 y4 y5 y6 y7 y8 y9 y10)
                go_roundw
                case rel =>
                  refine ⟨k + 1, by omega, by go_num, ?_, ?_, HHz, HBz, HGz⟩
                  · rw [HC7.out, if_neg HK7.out]; first | rfl | (simp only [Value.int.injEq, true_and]; omega) | (simp; omega)
                  · rw [HCD.out, if_pos HD0.out]; first | rfl | (simp only [Value.int.injEq, true_and]; omega) | (simp; omega)
                case measure => simp [intOf]; omega
              · have HD0 := Lib.hid hd0
                go_wp2_with (go_at_call 20; refine (HDE.out _ HHq.out).mono ?_; rintro e wz ⟨rfl, hbz⟩; have hbx := hbz; have HHz := Lib.hid (HHq.out.on hbx); have HBz := Lib.hid (HBq.out.trans (hbx.mono HGq.out)); have HGz := Lib.hid (Nat.le_trans HGq.out hbx.size); clear hbz hbx HHq HBq HGq HXq y0 y1 y2 y3 y4 y5 y6 y7 y8 y9 y10)
                go_roundw
                case rel =>
                  refine ⟨k + 1, by omega, by go_num, ?_, ?_, HHz, HBz, HGz⟩
                  · rw [HC7.out, if_neg HK7.out]; first | rfl | (simp only [Value.int.injEq, true_and]; omega) | (simp; omega)
                  · rw [HCD.out, if_neg (by have := HD0.out; omega)]; first | rfl | (simp only [Value.int.injEq, true_and]; omega) | (simp; omega)
                case measure => simp [intOf]; omega
          · obtain ⟨t, rfl⟩ : ∃ t, LV = t + 1 := ⟨LV - 1, by omega⟩
            have htv : t < vs.length := by rw [HLV.out]; omega
            obtain ⟨bv, ov, hav, -, hcv⟩ := HIV.out t htv
            subst hav
            have hz : vs[t]?.getD 0 < (r : Int) := HIO.out _ (by rw [List.getElem?_eq_getElem htv]; exact List.getElem_mem htv)
            obtain ⟨z, hze⟩ : ∃ z, vs[t]?.getD 0 = z := ⟨_, rfl⟩
            rw [hze] at hcv hz
            have hlv5 : t < 100 := by have := HL5.out; omega
            have hzn : ¬ ((r : Int) ≤ z) := by omega
            have hzd : decide ((r : Int) ≤ z) = false := decide_eq_false hzn
            have ht0 : (0 : Int) < ((t + 1 : Nat) : Int) := by omega
            clear htv hze h0
            go_quiet (fail)
            clear hcv
            have hq := below_drewN (Below.refl wv.heap.size wv) nq
            have HHq := Lib.hid (HHv.out.on hq)
            have HBq := Lib.hid (HBv.out.trans (hq.mono HGv.out))
            have HGq := Lib.hid (Nat.le_trans HGv.out hq.size)
            have HXq := Lib.hid (HXv.out.below hq (HXv.out.lt (Nat.zero_lt_succ _)))
            clear hq k0 g1 HHv HBv HGv HXv HIV
            generalize wv.drewN nq = wq at HHq HBq HGq HXq ⊢
            have y0 := (HXq.out 0 _ rfl).1
            have y1 := (HXq.out 1 _ rfl).1
            have y2 := (HXq.out 2 _ rfl).1
            have y3 := (HXq.out 3 _ rfl).1
            have y4 := (HXq.out 4 _ rfl).1
            have y5 := (HXq.out 5 _ rfl).1
            have y6 := (HXq.out 6 _ rfl).1
            have y7 := (HXq.out 7 _ rfl).1
            have y8 := (HXq.out 8 _ rfl).1
            have y9 := (HXq.out 9 _ rfl).1
            have y10 := (HXq.out 10 _ rfl).1
            by_cases hk7 : kind = 7
            · have hkb : (kind == 7) = true := by simpa using hk7
              have HK7 := Lib.hid hk7
              clear hk7
              by_cases hd0 : 0 ≤ d
              · have HD0 := Lib.hid hd0
                go_wp2_with (go_at_call 20; refine (HDE.out _ HHq.out).mono ?_; rintro e wz ⟨rfl, hbz⟩; have hbx := hbz; have HHz := Lib.hid (HHq.out.on hbx); have HBz := Lib.hid (HBq.out.trans (hbx.mono HGq.out)); have HGz := Lib.hid (Nat.le_trans HGq.out hbx.size); clear hbz hbx HHq HBq HGq HXq y0 y1 y2 y3 y4 y5 y6 y7 y8 y9 y10)
                go_roundw
                case rel =>
                  refine ⟨k + 1, by omega, by go_num, ?_, ?_, HHz, HBz, HGz⟩
                  · rw [HC7.out, if_pos HK7.out]; first | rfl | (simp only [Value.int.injEq, true_and]; omega) | (simp; omega)
                  · rw [HCD.out, if_pos HD0.out]; first | rfl | (simp only [Value.int.injEq, true_and]; omega) | (simp; omega)
                case measure => simp [intOf]; omega
              · have HD0 := Lib.hid hd0
                go_wp2_with (go_at_call 20; refine (HDE.out _ HHq.out).mono ?_; rintro e wz ⟨rfl, hbz⟩; have hbx := hbz; have HHz := Lib.hid (HHq.out.on hbx); have HBz := Lib.hid (HBq.out.trans (hbx.mono HGq.out)); have HGz := Lib.hid (Nat.le_trans HGq.out hbx.size); clear hbz hbx HHq HBq HGq HXq y0 y1 y2 y3 y4 y5 y6 y7 y8 y9 y10)
                go_roundw
                case rel =>
                  refine ⟨k + 1, by omega, by go_num, ?_, ?_, HHz, HBz, HGz⟩
                  · rw [HC7.out, if_pos HK7.out]; first | rfl | (simp only [Value.int.injEq, true_and]; omega) | (simp; omega)
                  · rw [HCD.out, if_neg (by have := HD0.out; omega)]; first | rfl | (simp only [Value.int.injEq, true_and]; omega) | (simp; omega)
                case measure => simp [intOf]; omega
            · have hkb : (kind == 7) = false := by simpa using hk7
              have HK7 := Lib.hid hk7
              clear hk7
              by_cases hd0 : 0 ≤ d
              · have HD0 := Lib.hid hd0
                go_wp2_with (go_at_call 20; refine (HDE.out _ HHq.out).mono ?_; rintro e wz ⟨rfl, hbz⟩; have hbx := hbz; have HHz := Lib.hid (HHq.out.on hbx); have HBz := Lib.hid (HBq.out.trans (hbx.mono HGq.out)); have HGz := Lib.hid (Nat.le_trans HGq.out hbx.size); clear hbz hbx HHq HBq HGq HXq y0 y1 y2 y3 y4 y5 y6 y7 y8 y9 y10)
                go_roundw
                case rel =>
                  refine ⟨k + 1, by omega, by go_num, ?_, ?_, HHz, HBz, HGz⟩
                  · rw [HC7.out, if_neg HK7.out]; first | rfl | (simp only [Value.int.injEq, true_and]; omega) | (simp; omega)
                  · rw [HCD.out, if_pos HD0.out]; first | rfl | (simp only [Value.int.injEq, true_and]; omega) | (simp; omega)
                case measure => simp [intOf]; omega
              · have HD0 := Lib.hid hd0
                go_wp2_with (go_at_call 20; refine (HDE.out _ HHq.out).mono ?_; rintro e wz ⟨rfl, hbz⟩; have hbx := hbz; have HHz := Lib.hid (HHq.out.on hbx); have HBz := Lib.hid (HBq.out.trans (hbx.mono HGq.out)); have HGz := Lib.hid (Nat.le_trans HGq.out hbx.size); clear hbz hbx HHq HBq HGq HXq y0 y1 y2 y3 y4 y5 y6 y7 y8 y9 y10)
                go_roundw
                case rel =>
                  refine ⟨k + 1, by omega, by go_num, ?_, ?_, HHz, HBz, HGz⟩
                  · rw [HC7.out, if_neg HK7.out]; first | rfl | (simp only [Value.int.injEq, true_and]; omega) | (simp; omega)
                  · rw [HCD.out, if_neg (by have := HD0.out; omega)]; first | rfl | (simp only [Value.int.injEq, true_and]; omega) | (simp; omega)
                case measure => simp [intOf]; omega
end Go.Proofs.YtdhdpfloaelngaaDoor
