/- ProgFresh: its loops. -/
import Derived.Test.YtdhdpfloaelngaaDoorPgY
import Derived.Test.YtdhdpfloaelngaaDoorPiA
namespace Go.Proofs.YtdhdpfloaelngaaDoor
open Go Go.RowKit Go.Sort

/-- Which of the Ids are among these. -/
def metCells (s : List Int) : Array Value := ((List.range 96).map fun j : Nat => Value.bool (decide ((j : Int) ∈ s))).toArray
theorem metCells_at (s : List Int) (k : Nat) (hk : k < 96) : (metCells s)[k]? = some (.bool (decide ((k : Int) ∈ s))) := by simp [metCells, hk]
theorem metCells_step (s : List Int) (k : Nat) (hk : k < 96) : (metCells s).setIfInBounds k (.bool true) = metCells (s ++ [(k : Int)]) := by
  apply Array.ext
  · simp [metCells]
  · intro j h1 h2
    have hj : j < 96 := by simpa [metCells] using h2
    by_cases hjk : j = k
    · subst hjk
      simp [metCells]
    · rw [Array.getElem_setIfInBounds_ne (by simp [metCells, hj]) (fun e => hjk e.symm)]
      have : ¬ ((j : Int) = (k : Int)) := by omega
      simp [metCells, this]

theorem mkMet (W : World) : (Instr.makeSlice 42 (.int .i64 96) (.int .i64 96)).run Tryd.prog W = .ok (.slice (some ⟨W.heap.size, 0, none⟩) 96 96) (W.alloc (.cells (metCells []) 4)) := by kernel_rfl

set_option maxRecDepth 100000 in
set_option maxHeartbeats 16000000 in
theorem progFresh_ok (p : Pg) (f : Int) (w : World) (hp : PgIs w.heap.size w p) (hT : KTab w) (hE : ETab w) (hfew : p.few) (hs : p.sane) :
    Calls Tryd.prog 4 #[p.val, .int .i64 f] w fun e w' => e = .returned (.bool true) ∧ Below w.heap.size w w' := by
  obtain ⟨x, hx⟩ : ∃ x, funR p f = x := ⟨_, rfl⟩
  obtain ⟨rf, hrf⟩ : ∃ rf, funB p f = rf := ⟨_, rfl⟩
  have HH := Lib.hid (Here.new w p hp hT hE)
  have HB1 := Lib.hid (below1 w (.cells #[.slice p.pa p.funs.length p.pc] 24))
  have HA := Lib.hid (fun W (h : Here W p w.heap.size) => awake_any W h.2.1 h.2.2.1)
  have HFE := Lib.hid (fun W (h : Here W p w.heap.size) => Few_any p W h.1 true (by simp [hfew]))
  have HSA := Lib.hid (fun W (h : Here W p w.heap.size) => Sane_any p W h.1 h.2.1 h.2.2.1 hfew true (by simp [hs]))
  have HFU := Lib.hid (fun W (h : Here W p w.heap.size) => Fun_any p f W h.1 h.2.1 h.2.2.1 hfew x hx rf hrf)
  have HNI := Lib.hid (fun W (h : Here W p w.heap.size) => NewId_any p W h.1 h.2.1 h.2.2.1 hfew)
  have HNB := Lib.hid (fun W (h : Here W p w.heap.size) => NewBlock_any p f W h.1 h.2.1 h.2.2.1 hfew)
  have HIN := Lib.hid (fun W (h : Here W p w.heap.size) => Instrs_any p W h.1 hfew)
  have HBK := Lib.hid (fun W (h : Here W p w.heap.size) b y hy r hr => Block_any p f b W h.1 h.2.1 h.2.2.1 hfew y hy r hr)
  have HBX := Lib.hid (fun W (h : Here W p w.heap.size) => h.bx)
  have HID1 : Hid (∀ z, NewIdIs p z → First 96 (fun k => ¬ ((k : Int) ∈ p.ins.map Ins.id)) z) := Lib.hid fun z h => by
    rcases h with ⟨-, h⟩ | ⟨h, -⟩
    · rcases h with ⟨h1, h2⟩ | ⟨k, h1, h2, h3, h4⟩
      · exact .inl ⟨h1, fun k hk hn => h2 k hk (List.count_eq_zero.2 hn)⟩
      · exact .inr ⟨k, h1, h2, List.count_eq_zero.1 h3, fun j hj hn => h4 j hj (List.count_eq_zero.2 hn)⟩
    · exact absurd hs h
  have HBI : Hid (∀ z, NewBlkIs p f z → (rf = true → First 12 (fun k => ¬ (blkB p f (k : Int) = true)) z) ∧ (rf = false → z = -1)) := Lib.hid fun z h => by
    unfold NewBlkIs at h
    rw [hrf] at h
    cases rf with
    | true =>
      simp only [if_true] at h
      refine ⟨fun _ => ?_, fun e => (by cases e)⟩
      rcases h with ⟨h1, h2⟩ | ⟨k, h1, h2, h3, h4⟩
      · exact .inl ⟨h1, fun k hk hn => h2 k hk (fun g => hn ((blkB_iff _ _ _).2 g))⟩
      · exact .inr ⟨k, h1, h2, fun g => h3 ((blkB_iff _ _ _).1 g), fun j hj hn => h4 j hj (fun g => hn ((blkB_iff _ _ _).2 g))⟩
    | false => exact ⟨fun e => (by cases e), fun _ => (by simpa using h)⟩
  have HIDS := Lib.hid (ids_ok hs.2.1)
  have hIL := ins_le hfew
  have HX12 : Hid (rf = true → x.blocks.length ≤ 12) := Lib.hid fun h => by
    rw [h] at hrf
    have h2 := (funB_iff hs f).1 hrf
    obtain ⟨n, rfl⟩ := Int.eq_ofNat_of_zero_le h2.1
    have hn : n < p.funs.length := by omega
    rw [← hx, (funR_in hs hn).2]
    exact (hs.2.1 n hn).1.2.2.2.2.2.1
  have HFW := Lib.hid (funR_few hfew f)
  rw [hx] at HFW
  clear hp hT hE hfew hs hrf hx
  unfold Pg.val Fd.val Blk.val at *
  obtain ⟨PL, hPL⟩ : ∃ PL, p.funs.length = PL := ⟨_, rfl⟩
  simp only [hPL] at HB1 HH HA HFE HSA HFU HNI HNB HIN HBK HBX ⊢
  clear hPL
  generalize hE : w.alloc (.cells #[.slice p.pa PL p.pc] 24) = W at HB1 HH
  obtain ⟨g, hg⟩ : ∃ g, w.heap.size = g := ⟨_, rfl⟩
  have HGL := Lib.hid HB1.out.size
  rw [hg] at HB1 HH HA HFE HSA HFU HNI HNB HIN HBK HBX HGL ⊢
  have k0 := HBX.out _ HH.out
  obtain ⟨ar, vr, ba, bc, bl⟩ := x
  dsimp only at *
  obtain ⟨BL, hBL⟩ : ∃ BL, bl.length = BL := ⟨_, rfl⟩
  have hb20 : bl.length ≤ 20 := HFW.out.1
  simp only [hBL] at HFU HX12 hb20
  clear hBL HFW
  obtain ⟨all, hall⟩ : ∃ all, p.ins = all := ⟨_, rfl⟩
  simp only [hall] at HID1 HIDS HIN hIL
  clear hall
  obtain ⟨AL, hAL⟩ : ∃ AL, all.length = AL := ⟨_, rfl⟩
  simp only [hAL] at HIN hIL
  have HAL := Lib.hid hAL
  clear hAL
  have hmk := mkMet
  have HH0 := HH
  have HB0 := HB1
  have HG0 := HGL
  clear HH HB1 HGL
  go_enter Tryd.func4, Tryd.ntmps4
  go_wp2_with (first | (go_at_call 7; refine (HA.out _ HH0.out).mono ?_; rintro e wa ⟨rfl, hba⟩; have hbx := hba; have HHa := Lib.hid (HH0.out.on hbx); have HBa := Lib.hid (HB0.out.trans (hbx.mono HG0.out)); have HGa := Lib.hid (Nat.le_trans HG0.out hbx.size); clear hba hbx HH0 HB0 HG0 k0; have k0 := HBX.out _ HHa.out) | (go_at_call 8; refine (HFE.out _ HHa.out).mono ?_; rintro e wb ⟨rfl, hbb⟩; have hbx := hbb; have HHb := Lib.hid (HHa.out.on hbx); have HBb := Lib.hid (HBa.out.trans (hbx.mono HGa.out)); have HGb := Lib.hid (Nat.le_trans HGa.out hbx.size); clear hbb hbx HHa HBa HGa k0; have k0 := HBX.out _ HHb.out) | (go_at_call 9; refine (HSA.out _ HHb.out).mono ?_; rintro e wc ⟨rfl, hbc⟩; have hbx := hbc; have HHc := Lib.hid (HHb.out.on hbx); have HBc := Lib.hid (HBb.out.trans (hbx.mono HGb.out)); have HGc := Lib.hid (Nat.le_trans HGb.out hbx.size); clear hbc hbx HHb HBb HGb k0; have k0 := HBX.out _ HHc.out) | (go_at_call 13; refine (HNI.out _ HHc.out).mono ?_; rintro e wd ⟨⟨z1, rfl, hz1⟩, hbd⟩; have hbx := hbd; have HHd := Lib.hid (HHc.out.on hbx); have HBd := Lib.hid (HBc.out.trans (hbx.mono HGc.out)); have HGd := Lib.hid (Nat.le_trans HGc.out hbx.size); have HZ1 := Lib.hid (HID1.out z1 hz1); clear hz1; clear hbd hbx HHc HBc HGc k0; have k0 := HBX.out _ HHd.out) | (go_at_call 14; refine (HIN.out _ HHd.out).mono ?_; rintro e we ⟨u, rfl, hu, hbe⟩; have hbx := hbe; have HHe := Lib.hid (HHd.out.on hbx); have HBe := Lib.hid (HBd.out.trans (hbx.mono HGd.out)); have HGe := Lib.hid (Nat.le_trans HGd.out hbx.size); obtain ⟨av, cv, rfl, -, hCI⟩ := code_of_owns hu; have HCI := Lib.hid hCI; clear hu hCI; clear hbe hbx HHd HBd HGd k0; have k0 := HBX.out _ HHe.out))
  clear HA HFE HSA HNI HIN hmk HID1 k0
  obtain ⟨gm, hgm⟩ : ∃ gm, we.heap.size = gm := ⟨_, rfl⟩
  have hbm := below1 we (.cells (metCells []) 4)
  have HRM := Lib.hid (show RowAt (we.alloc (.cells (metCells []) 4)) gm 4 (metCells []) by rw [← hgm]; exact heap_alloc_new we _)
  rw [hgm] at hbm HCI ⊢
  have HBM := Lib.hid hbm
  have HGM := Lib.hid hgm
  generalize we.alloc (.cells (metCells []) 4) = WM at HBM HRM ⊢
  clear hbm hgm
  have HGG : Hid (gm < WM.heap.size) := Lib.hid (Array.getElem?_eq_some_iff.1 HRM.out).1
  go_loopw [9] (fun i wr => ∃ q : Nat, q ≤ AL ∧ i = .int .i64 q ∧ Hid (RowAt wr gm 4 (metCells ((all.take q).map Ins.id))) ∧ Hid (Below gm we wr)) (fun i _ => AL - (intOf i).toNat)
  case atStart => exact ⟨0, Nat.zero_le _, rfl, HRM, HBM⟩
  case round =>
    obtain ⟨q, hq, rfl, hR, hB⟩ := hrel
    by_cases hlt : q < AL
    · obtain ⟨ab, ao, rfl, hab, c0, -⟩ := (HCI.out.below hB.out).at q (by rw [HAL.out]; exact hlt)
      have hql : q < all.length := by rw [HAL.out]; exact hlt
      have hid := HIDS.out (insAt all q) (by unfold insAt; rw [List.getElem?_eq_getElem hql]; exact List.getElem_mem hql)
      have htk : (all.take (q + 1)).map Ins.id = (all.take q).map Ins.id ++ [(insAt all q).id] := by
        rw [List.take_succ_eq_append_getElem hql, List.map_append]
        simp [insAt, hql]
      obtain ⟨n, hn⟩ := Int.eq_ofNat_of_zero_le hid.1
      rw [hn] at c0 hid htk
      have hn96 : n < 96 := by omega
      have hni : (n : Int) < 96 := by omega
      have HTK := Lib.hid htk
      have cc := cell_of_row wr gm n _ _ _ hR.out
      rw [metCells_at _ n hn96] at cc
      have cf := frozen_of_row wr gm n _ _ hR.out
      have hqi : (q : Int) < (AL : Int) := by omega
      clear hn hid htk hab
      go_wp2_with fail
      go_roundw
      case rel =>
        refine ⟨q + 1, by omega, by go_num, ?_, Lib.hid (hB.out.setCell (p := ⟨gm, n, none⟩) (Nat.le_refl _) _)⟩
        have h := heap_setCell_same wr gm n _ _ (.bool true) hR.out
        rw [metCells_step _ n hn96, ← HTK.out] at h
        exact h
      case measure => simp [intOf]; omega
    obtain rfl : q = AL := by omega
    have hqi : ¬ ((q : Int) < (q : Int)) := by omega
    have HR1 : Hid (RowAt wr gm 4 (metCells (all.map Ins.id))) := by
      have h := hR.out
      rw [List.take_of_length_le (by rw [HAL.out]; exact Nat.le_refl _)] at h
      exact Lib.hid h
    have HHr := Lib.hid (HHe.out.on (by rw [HGM.out]; exact hB.out))
    have HBr := Lib.hid (HBe.out.trans (hB.out.mono (by rw [← HGM.out]; exact HGe.out)))
    have HGr := Lib.hid (Nat.le_trans HGe.out (by have := hB.out.size; exact this))
    obtain ⟨W1, hW1⟩ : ∃ W1 : World, W1 = wr := ⟨_, rfl⟩
    rw [← hW1] at HR1 HHr HBr HGr
    subst hW1
    clear hR hB HCI HBM HRM HHe HBe HGe HGG HGM HIDS
    obtain ⟨ids, hids⟩ : ∃ ids, all.map Ins.id = ids := ⟨_, rfl⟩
    rw [hids] at HR1 HZ1
    clear hids
    go_wp2_with fail
    go_loop [10] (fun i => ∃ k : Nat, k ≤ 96 ∧ i = .int .i64 k) (fun i => 96 - (intOf i).toNat)
    case atStart => exact ⟨0, Nat.zero_le _, rfl⟩
    case round =>
      obtain ⟨k, hk, rfl⟩ := hrel
      by_cases hkt : k < 96
      · have hki : (k : Int) < 96 := by omega
        have cc := cell_of_row _ gm k _ _ _ HR1.out
        rw [metCells_at _ k hkt] at cc
        rcases HZ1.out with ⟨hz, h2⟩ | ⟨n, h1, hz, h3, h4⟩
        · subst hz
          have hin : (k : Int) ∈ ids := Classical.byContradiction fun h => h2 k hkt h
          rw [decide_eq_true hin] at cc
          have hne : ((k : Int) == -1) = false := beq_false_of_ne (by omega)
          clear h2 hin
          go_wp2_with fail
          exact ⟨⟨k + 1, by omega, by go_num⟩, by simp [intOf]; omega⟩
        · subst hz
          have hn0 : ¬ ((n : Int) < 0) := by omega
          rcases Nat.lt_trichotomy k n with hkn | hkn | hkn
          · have hin : (k : Int) ∈ ids := Classical.byContradiction fun h => h4 k hkn h
            rw [decide_eq_true hin] at cc
            have hkn1 : (k : Int) < (n : Int) := by omega
            have hne : ((k : Int) == (n : Int)) = false := beq_false_of_ne (by omega)
            clear h3 h4 hin
            go_wp2_with fail
            exact ⟨⟨k + 1, by omega, by go_num⟩, by simp [intOf]; omega⟩
          · subst hkn
            rw [decide_eq_false h3] at cc
            have hkn1 : ¬ ((k : Int) < (k : Int)) := by omega
            clear h3 h4
            go_wp2_with fail
            exact ⟨⟨k + 1, by omega, by go_num⟩, by simp [intOf]; omega⟩
          · have hkn1 : ¬ ((k : Int) < (n : Int)) := by omega
            have hkn2 : (n : Int) ≤ (k : Int) := by omega
            have hne : ((k : Int) == (n : Int)) = false := beq_false_of_ne (by omega)
            clear h3 h4
            go_wp2_with fail
            exact ⟨⟨k + 1, by omega, by go_num⟩, by simp [intOf]; omega⟩
      · obtain rfl : k = 96 := by omega
        have hz96 : z1 < 96 := by
          rcases HZ1.out with ⟨hz, -⟩ | ⟨n, h1, hz, -, -⟩ <;> omega
        have k0 := HBX.out _ HHr.out
        clear HZ1 HR1
        cases rf with
        | false =>
          go_wp2_with (first | (go_at_call 15; refine (HNB.out _ HHr.out).mono ?_; rintro e ws ⟨⟨z2, rfl, hz2⟩, hbs⟩; have HZ2 := Lib.hid (HBI.out z2 hz2); clear hz2; have HHs := Lib.hid (HHr.out.on hbs); have HBs := Lib.hid (HBr.out.trans (hbs.mono HGr.out)); have HGs := Lib.hid (Nat.le_trans HGr.out hbs.size); clear hbs k0 HHr HBr HGr; have k0 := HBX.out _ HHs.out; have hzz := HZ2.out.2 rfl; subst hzz) | (go_at_call 10; refine (HFU.out _ HHs.out).mono ?_; rintro e wt ⟨rfl, hbt⟩; have hbx := hbt.alloc hbt.size (.cells #[.int .i64 ar, .int .i64 vr, .slice ba BL bc] 29); have HHt := Lib.hid (HHs.out.on hbx); have HBt := Lib.hid (HBs.out.trans (hbx.mono HGs.out)); have HGt := Lib.hid (Nat.le_trans HGs.out hbx.size); have HXt := Lib.hid (show BoxL (wt.alloc (.cells #[.int .i64 ar, .int .i64 vr, .slice ba BL bc] 29)) wt.heap.size [.int .i64 ar, .int .i64 vr, .slice ba BL bc] from BoxL.new wt _ 29); clear hbt hbx HHs HBs HGs k0))
          go_ret
          exact ⟨rfl, HBt.out⟩
        | true =>
          go_wp2_with (first | (go_at_call 15; refine (HNB.out _ HHr.out).mono ?_; rintro e ws ⟨⟨z2, rfl, hz2⟩, hbs⟩; have HZ2 := Lib.hid (HBI.out z2 hz2); clear hz2; have HHs := Lib.hid (HHr.out.on hbs); have HBs := Lib.hid (HBr.out.trans (hbs.mono HGr.out)); have HGs := Lib.hid (Nat.le_trans HGr.out hbs.size); clear hbs k0 HHr HBr HGr; have k0 := HBX.out _ HHs.out) | (go_at_call 10; refine (HFU.out _ HHs.out).mono ?_; rintro e wt ⟨rfl, hbt⟩; have hbx := hbt.alloc hbt.size (.cells #[.int .i64 ar, .int .i64 vr, .slice ba BL bc] 29); have HHt := Lib.hid (HHs.out.on hbx); have HBt := Lib.hid (HBs.out.trans (hbx.mono HGs.out)); have HGt := Lib.hid (Nat.le_trans HGs.out hbx.size); have HXt := Lib.hid (show BoxL (wt.alloc (.cells #[.int .i64 ar, .int .i64 vr, .slice ba BL bc] 29)) wt.heap.size [.int .i64 ar, .int .i64 vr, .slice ba BL bc] from BoxL.new wt _ 29); clear hbt hbx HHs HBs HGs k0))
          have HZ := Lib.hid (HZ2.out.1 (by simp))
          have hx12 : (BL : Int) ≤ 12 := by have := HX12.out (by simp); omega
          clear HZ2 HFU HNB HBI HX12
          generalize wt.alloc (.cells #[.int .i64 ar, .int .i64 vr, .slice ba BL bc] 29) = WT at HHt HBt HGt HXt ⊢
          generalize wt.heap.size = gx at HXt ⊢
          go_loopw [14] (fun i wr => ∃ k : Nat, k ≤ 12 ∧ i = .int .i64 k ∧ Hid (Below WT.heap.size WT wr)) (fun i _ => 12 - (intOf i).toNat)
          case atStart => exact ⟨0, Nat.zero_le _, rfl, Below.refl _ _⟩
          case round =>
            obtain ⟨k, hk, rfl, hB⟩ := hrel
            by_cases hkt : k < 12
            · have hki : (k : Int) < 12 := by omega
              obtain ⟨r, hr⟩ : ∃ r, blkB p f (k : Int) = r := ⟨_, rfl⟩
              obtain ⟨y, hy⟩ : ∃ y, blkR p f (k : Int) = y := ⟨_, rfl⟩
              have HBQ := Lib.hid (fun W h => HBK.out W h (k : Int) y hy r hr)
              clear hy
              obtain ⟨lv, ca, cc, code, sa, sc, succ⟩ := y
              dsimp only at HBQ
              obtain ⟨CL, hCL⟩ : ∃ CL, code.length = CL := ⟨_, rfl⟩
              obtain ⟨SL, hSL⟩ : ∃ SL, succ.length = SL := ⟨_, rfl⟩
              simp only [hCL, hSL] at HBQ
              clear hCL hSL
              have k0 := HBX.out _ (HHt.out.on hB.out)
              rcases HZ.out with ⟨hz, h2⟩ | ⟨n, h1, hz, h3, h4⟩
              · subst hz
                have hin : r = true := by rw [← hr]; exact Classical.byContradiction fun h => h2 k hkt h
                subst hin
                have hne : ((k : Int) == -1) = false := beq_false_of_ne (by omega)
                clear h2 hr
                go_wp2_with (go_at_call 12; refine (HBQ.out _ (HHt.out.on hB.out)).mono ?_; rintro e wn ⟨rfl, hbn⟩; have HBN := Lib.hid ((hB.out.trans (hbn.mono hB.out.size)).alloc (Nat.le_trans hB.out.size hbn.size) (.cells #[.bool lv, .slice ca CL cc, .slice sa SL sc] 36)); clear hbn k0)
                go_roundw
                case rel => exact ⟨k + 1, by omega, by go_num, HBN⟩
                case measure => simp [intOf]; omega
              · subst hz
                have hn0 : ¬ ((n : Int) < 0) := by omega
                rcases Nat.lt_trichotomy k n with hkn | hkn | hkn
                · have hin : r = true := by rw [← hr]; exact Classical.byContradiction fun h => h4 k hkn h
                  subst hin
                  have hkn1 : (k : Int) < (n : Int) := by omega
                  have hne : ((k : Int) == (n : Int)) = false := beq_false_of_ne (by omega)
                  clear h3 h4 hr
                  go_wp2_with (go_at_call 12; refine (HBQ.out _ (HHt.out.on hB.out)).mono ?_; rintro e wn ⟨rfl, hbn⟩; have HBN := Lib.hid ((hB.out.trans (hbn.mono hB.out.size)).alloc (Nat.le_trans hB.out.size hbn.size) (.cells #[.bool lv, .slice ca CL cc, .slice sa SL sc] 36)); clear hbn k0)
                  go_roundw
                  case rel => exact ⟨k + 1, by omega, by go_num, HBN⟩
                  case measure => simp [intOf]; omega
                · subst hkn
                  have hin : r = false := by cases r with
                    | false => rfl
                    | true => exact absurd hr h3
                  subst hin
                  have hkn1 : ¬ ((k : Int) < (k : Int)) := by omega
                  clear h3 h4 hr
                  go_wp2_with (go_at_call 12; refine (HBQ.out _ (HHt.out.on hB.out)).mono ?_; rintro e wn ⟨rfl, hbn⟩; have HBN := Lib.hid ((hB.out.trans (hbn.mono hB.out.size)).alloc (Nat.le_trans hB.out.size hbn.size) (.cells #[.bool lv, .slice ca CL cc, .slice sa SL sc] 36)); clear hbn k0)
                  go_roundw
                  case rel => exact ⟨k + 1, by omega, by go_num, HBN⟩
                  case measure => simp [intOf]; omega
                · have hkn1 : ¬ ((k : Int) < (n : Int)) := by omega
                  have hkn2 : (n : Int) ≤ (k : Int) := by omega
                  have hne : ((k : Int) == (n : Int)) = false := beq_false_of_ne (by omega)
                  clear h3 h4 hr
                  go_wp2_with (go_at_call 12; refine (HBQ.out _ (HHt.out.on hB.out)).mono ?_; rintro e wn ⟨rfl, hbn⟩; have HBN := Lib.hid ((hB.out.trans (hbn.mono hB.out.size)).alloc (Nat.le_trans hB.out.size hbn.size) (.cells #[.bool lv, .slice ca CL cc, .slice sa SL sc] 36)); clear hbn k0)
                  go_roundw
                  case rel => exact ⟨k + 1, by omega, by go_num, HBN⟩
                  case measure => simp [intOf]; omega
            · obtain rfl : k = 12 := by omega
              have hz12 : z2 < 12 := by
                rcases HZ.out with ⟨hz, -⟩ | ⟨n, h1, hz, -, -⟩ <;> omega
              have x2 := ((HXt.out.below hB.out (HXt.out.lt (Nat.zero_lt_succ _))) 2 _ rfl).1
              clear HZ
              go_wp2_with fail
              go_ret
              exact ⟨rfl, HBt.out.trans (hB.out.mono HGt.out)⟩
end Go.Proofs.YtdhdpfloaelngaaDoor
