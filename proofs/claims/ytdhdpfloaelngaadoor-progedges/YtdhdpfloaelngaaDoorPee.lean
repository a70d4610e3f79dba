/- ProgEdges: its loops. -/
import Derived.Test.YtdhdpfloaelngaaDoorPeM
import Derived.Test.YtdhdpfloaelngaaDoorPeN
namespace Go.Proofs.YtdhdpfloaelngaaDoor
open Go Go.RowKit Go.Sort

/-- A block that others follow is live. -/
theorem live_of_succ {p : Pg} {f : Fd} {k : Nat} (h : fdOk p f) (hk : k < f.blocks.length) {b : Int} (hb : b ∈ (blkAt f.blocks k).succ) : (blkAt f.blocks k).live = true := by
  cases hl : (blkAt f.blocks k).live with
  | true => rfl
  | false =>
    have := ((h.2 k hk).1 hl).2
    rw [List.length_eq_zero_iff] at this
    rw [this] at hb
    cases hb

set_option maxRecDepth 100000 in
set_option maxHeartbeats 16000000 in
theorem progEdges_ok (p : Pg) (f : Int) (w : World) (hp : PgIs w.heap.size w p) (hT : KTab w) (hE : ETab w) (hfew : p.few) (hs : p.sane) (hL : 0 < p.funs.length) :
    Calls Tryd.prog 3 #[p.val, .int .i64 f] w fun e w' => e = .returned (.bool true) ∧ Below w.heap.size w w' := by
  obtain ⟨n, hn, hmod⟩ := taken f hL
  obtain ⟨hrf, hxe⟩ := funR_in hs hn
  obtain ⟨x, hx⟩ : ∃ x, funR p (n : Int) = x := ⟨_, rfl⟩
  have HXE := Lib.hid (hxe.symm.trans hx)
  have HH := Lib.hid (Here.new w p hp hT hE)
  have HB1 := Lib.hid (below1 w (.cells #[.slice p.pa p.funs.length p.pc] 24))
  have HA := Lib.hid (fun W (h : Here W p w.heap.size) => awake_any W h.2.1 h.2.2.1)
  have HFE := Lib.hid (fun W (h : Here W p w.heap.size) => Few_any p W h.1 true (by simp [hfew]))
  have HSA := Lib.hid (fun W (h : Here W p w.heap.size) => Sane_any p W h.1 h.2.1 h.2.2.1 hfew true (by simp [hs]))
  have HFU := Lib.hid (fun W (h : Here W p w.heap.size) => Fun_any p (n : Int) W h.1 h.2.1 h.2.2.1 hfew x hx _ hrf)
  have HPR := Lib.hid (fun W (h : Here W p w.heap.size) b l (hl : predsTo x.blocks b x.blocks.length = l) => Preds_any p (n : Int) b W h.1 h.2.1 h.2.2.1 hfew l (by unfold predsR; rw [hx]; exact hl))
  have HBK := Lib.hid (fun W (h : Here W p w.heap.size) (m : Nat) (hm : m < x.blocks.length) (hlv : (blkAt x.blocks m).live = true) => by
    have hrb : blkB p (n : Int) (m : Int) = true := by
      rw [blkB_iff, hx]
      exact ⟨by omega, by omega, by simpa using hlv⟩
    have hye : blkR p (n : Int) (m : Int) = blkAt x.blocks m := by
      unfold blkR
      rw [hrb, hx]
      simp
    exact Block_any p (n : Int) (m : Int) W h.1 h.2.1 h.2.2.1 hfew _ hye _ hrb)
  have HBX := Lib.hid (fun W (h : Here W p w.heap.size) => h.bx)
  have hok := hs.2.1 n hn
  rw [← hxe, hx] at hok
  have HOK := Lib.hid hok
  have HSUM := Lib.hid (edges_both (bl := x.blocks) fun k hk => (hok.2 k hk).2.2.1)
  have HFW := Lib.hid (funR_few hfew (n : Int))
  rw [hx] at HFW
  have HFD := Lib.hid (fun W (h : Here W p w.heap.size) => show BlksIs W.heap.size W x.ba x.blocks by have := funR_is h.1 (n : Int); rw [hx] at this; exact this)
  have hlen := hfew.1
  clear hp hT hE hfew hs hrf hx hxe hok HXE
  unfold Pg.val Fd.val Blk.val at *
  obtain ⟨PL, hPL⟩ : ∃ PL, p.funs.length = PL := ⟨_, rfl⟩
  simp only [hPL] at HB1 HH HA HFE HSA HFU HPR HBK HBX HFD hlen hL hn hmod ⊢
  clear hPL
  generalize hE : w.alloc (.cells #[.slice p.pa PL p.pc] 24) = W at HB1 HH
  obtain ⟨g, hg⟩ : ∃ g, w.heap.size = g := ⟨_, rfl⟩
  have HGL := Lib.hid HB1.out.size
  rw [hg] at HB1 HH HA HFE HSA HFU HPR HBK HBX HFD HGL ⊢
  have k0 := HBX.out _ HH.out
  obtain ⟨ar, vr, ba, bc, bl⟩ := x
  dsimp only at *
  obtain ⟨BL, hBL⟩ : ∃ BL, bl.length = BL := ⟨_, rfl⟩
  have hb20 : bl.length ≤ 20 := HFW.out.1
  have HFB := Lib.hid (fun k => HFW.out.b k)
  dsimp only at HFB
  simp only [hBL] at HFU HPR HBK HSUM hb20
  have HBL := Lib.hid hBL
  clear hBL HFW
  have HH0 := HH
  have HB0 := HB1
  have HG0 := HGL
  clear HH HB1 HGL
  have hLne : ¬ ((PL : Int) = 0) := by omega
  have hLb : ((PL : Int) == 0) = false := by simpa using hLne
  go_enter Tryd.func3, Tryd.ntmps3
  go_wp2_with (first | (go_at_call 7; refine (HA.out _ HH0.out).mono ?_; rintro e wa ⟨rfl, hba⟩; have hbx := hba; have HHa := Lib.hid (HH0.out.on hbx); have HBa := Lib.hid (HB0.out.trans (hbx.mono HG0.out)); have HGa := Lib.hid (Nat.le_trans HG0.out hbx.size); clear hba hbx HH0 HB0 HG0 k0; have k0 := HBX.out _ HHa.out) | (go_at_call 8; refine (HFE.out _ HHa.out).mono ?_; rintro e wb ⟨rfl, hbb⟩; have hbx := hbb; have HHb := Lib.hid (HHa.out.on hbx); have HBb := Lib.hid (HBa.out.trans (hbx.mono HGa.out)); have HGb := Lib.hid (Nat.le_trans HGa.out hbx.size); clear hbb hbx HHa HBa HGa k0; have k0 := HBX.out _ HHb.out) | (go_at_call 9; refine (HSA.out _ HHb.out).mono ?_; rintro e wc ⟨rfl, hbc⟩; have hbx := hbc; have HHc := Lib.hid (HHb.out.on hbx); have HBc := Lib.hid (HBb.out.trans (hbx.mono HGb.out)); have HGc := Lib.hid (Nat.le_trans HGb.out hbx.size); clear hbc hbx HHb HBb HGb k0; have k0 := HBX.out _ HHc.out) | (go_at_call 10; refine (HFU.out _ HHc.out).mono ?_; rintro e wd ⟨rfl, hbd⟩; have hbx := hbd.alloc hbd.size (.cells #[.int .i64 ar, .int .i64 vr, .slice ba BL bc] 29); have HHd := Lib.hid (HHc.out.on hbx); have HBd := Lib.hid (HBc.out.trans (hbx.mono HGc.out)); have HGd := Lib.hid (Nat.le_trans HGc.out hbx.size); have HX := Lib.hid (show BoxL (wd.alloc (.cells #[.int .i64 ar, .int .i64 vr, .slice ba BL bc] 29)) wd.heap.size [.int .i64 ar, .int .i64 vr, .slice ba BL bc] from BoxL.new wd _ 29); clear hbd hbx HHc HBc HGc k0; have k0 := HBX.out _ HHd.out))
  obtain ⟨gx, hgx⟩ : ∃ gx, wd.heap.size = gx := ⟨_, rfl⟩
  rw [hgx] at HX ⊢
  generalize wd.alloc (.cells #[.int .i64 ar, .int .i64 vr, .slice ba BL bc] 29) = WD at HHd HBd HGd HX k0 ⊢
  clear k0 hgx HA HFE HSA HFU
  go_loopw [9, 10, 11] (fun a c i wr => ∃ q : Nat, q ≤ BL ∧ i = .int .i64 q ∧ a = .int .i64 ((sumTo (fun k => (blkAt bl k).succ.length) q : Nat) : Int) ∧ c = .int .i64 ((sumTo (fun b => (predsTo bl (b : Int) BL).length) q : Nat) : Int) ∧ Hid (Here wr p g) ∧ Hid (BoxL wr gx [.int .i64 ar, .int .i64 vr, .slice ba BL bc]) ∧ Hid (Below g w wr) ∧ Hid (g ≤ wr.heap.size)) (fun _ _ i _ => BL - (intOf i).toNat)
  case atStart => exact ⟨0, Nat.zero_le _, rfl, rfl, rfl, HHd, HX, HBd, HGd⟩
  case round =>
    obtain ⟨q, hq, rfl, rfl, rfl, hH, hX, hB, hG⟩ := hrel
    have k0 := HBX.out _ hH.out
    have x2 := (hX.out 2 _ rfl).1
    have hfs : sumTo (fun k => (blkAt bl k).succ.length) q ≤ 600 := Nat.le_trans (sumTo_le (c := 30) q (fun k _ => (HFB.out k).2)) (by omega)
    have hps : sumTo (fun b => (predsTo bl ((b : Nat) : Int) BL).length) q ≤ 400 := Nat.le_trans (sumTo_le (c := 20) q (fun k _ => Nat.le_trans (predsTo_le _ _ _) hb20)) (by omega)
    by_cases hlt : q < BL
    rotate_left
    · obtain rfl : q = BL := by omega
      have heq := HSUM.out
      have hqi : ¬ ((q : Int) < (q : Int)) := by omega
      obtain ⟨s1, hs1⟩ : ∃ s, sumTo (fun k => (blkAt bl k).succ.length) q = s := ⟨_, rfl⟩
      rw [hs1] at heq ⊢
      rw [heq]
      clear heq hs1 hfs hps
      go_wp2_with fail
      go_ret
      exact ⟨rfl, hB.out⟩
    obtain ⟨s1, hs1⟩ : ∃ s, sumTo (fun k => (blkAt bl k).succ.length) q = s := ⟨_, rfl⟩
    obtain ⟨s2, hs2⟩ : ∃ s, sumTo (fun b => (predsTo bl ((b : Nat) : Int) BL).length) q = s := ⟨_, rfl⟩
    rw [hs1] at hfs ⊢
    rw [hs2] at hps ⊢
    have HS1 := Lib.hid hs1
    have HS2 := Lib.hid hs2
    clear hs1 hs2
    obtain ⟨b, o, rfl, -⟩ := HFD.out wr hH.out q (by rw [HBL.out]; exact hlt)
    obtain ⟨l, hl⟩ : ∃ l, predsTo bl (q : Int) BL = l := ⟨_, rfl⟩
    have HLE := Lib.hid hl
    have hl20 : l.length ≤ 20 := by rw [← hl]; exact Nat.le_trans (predsTo_le _ _ _) hb20
    have hsl := (HFB.out q).2
    have hqi : (q : Int) < (BL : Int) := by omega
    have HPQ := Lib.hid (fun W h => HPR.out W h (q : Int) l hl)
    clear hl
    obtain ⟨LP, hLP⟩ : ∃ LP, l.length = LP := ⟨_, rfl⟩
    obtain ⟨SL, hSL⟩ : ∃ SL, (blkAt bl q).succ.length = SL := ⟨_, rfl⟩
    rw [hLP] at hl20
    simp only [hLP] at HPQ
    rw [hSL] at hsl
    have HLP := Lib.hid hLP
    have HSL := Lib.hid hSL
    clear hLP hSL
    go_wp2_with (go_at_call 11; refine (HPQ.out _ hH.out).mono ?_; rintro e wp ⟨u, rfl, hu, hbp⟩; obtain ⟨av, cv, rfl, -, hIv⟩ := is_of_ints hu; have HIV := Lib.hid hIv; have HHp := Lib.hid (hH.out.on hbp); have HXp := Lib.hid (hX.out.below hbp (hX.out.lt (Nat.zero_lt_succ _))); have HBp := Lib.hid (hB.out.trans (hbp.mono hG.out)); have HGp := Lib.hid (Nat.le_trans hG.out hbp.size); clear hu hbp hIv k0 x2 hH hX hB hG; have k0 := HBX.out _ HHp.out; have x2 := (HXp.out 2 _ rfl).1; obtain ⟨_, _, e_, -, -, -, d2, -⟩ := HFD.out wp HHp.out q (by rw [HBL.out]; exact hlt); cases e_; rw [HSL.out] at d2)
    clear k0 x2 d2
    go_loopw [13] (fun i wi => ∃ r : Nat, r ≤ LP ∧ i = .int .i64 r ∧ Hid (Below wp.heap.size wp wi)) (fun i _ => LP - (intOf i).toNat)
    case atStart => exact ⟨0, Nat.zero_le _, rfl, Below.refl _ _⟩
    case round =>
      obtain ⟨r, hr, rfl, hBi⟩ := hrel
      by_cases hrt : r < LP
      rotate_left
      · obtain rfl : r = LP := by omega
        have hri : ¬ ((r : Int) < (r : Int)) := by omega
        go_wp2_with fail
        go_roundw
        case rel =>
          refine ⟨q + 1, by omega, by go_num, ?_, ?_, Lib.hid (HHp.out.on hBi.out), Lib.hid (HXp.out.below hBi.out (HXp.out.lt (Nat.zero_lt_succ _))), Lib.hid (HBp.out.trans (hBi.out.mono HGp.out)), Lib.hid (Nat.le_trans HGp.out hBi.out.size)⟩
          · show _ = Value.int .i64 ((sumTo (fun k => (blkAt bl k).succ.length) q + (blkAt bl q).succ.length : Nat) : Int)
            rw [HS1.out, HSL.out]
            simp
          · show _ = Value.int .i64 ((sumTo (fun b => (predsTo bl (b : Int) BL).length) q + (predsTo bl (q : Int) BL).length : Nat) : Int)
            rw [HS2.out, HLE.out, HLP.out]
            simp
        case measure => simp [intOf]; omega
      obtain ⟨m, hm1, hm2, hm3⟩ := predsTo_at (bl := bl) (b := (q : Int)) (q := BL) (k := r) (by rw [HLE.out, HLP.out]; exact hrt)
      rw [HLE.out] at hm1
      have hlv := live_of_succ HOK.out (k := m) (by show m < bl.length; rw [HBL.out]; exact hm2) hm3
      dsimp only at hlv
      have HBM := Lib.hid (fun W h => HBK.out W h m hm2 hlv)
      have hs30 := (HFB.out m).2
      have HSI := Lib.hid (fun W h => (show Is W.heap.size W (blkAt bl m).sa (blkAt bl m).succ by obtain ⟨-, -, -, -, -, -, -, hbk⟩ := HFD.out W h m (by rw [HBL.out]; exact hm2); exact hbk.2))
      clear hlv
      obtain ⟨bk, hbk⟩ : ∃ bk, blkAt bl m = bk := ⟨_, rfl⟩
      rw [hbk] at hm3 hs30
      simp only [hbk] at HBM HSI
      clear hbk
      obtain ⟨lv, ca, cc, code, sa, sc, succ⟩ := bk
      dsimp only at hm3 hs30 HBM HSI
      obtain ⟨CL, hCL⟩ : ∃ CL, code.length = CL := ⟨_, rfl⟩
      obtain ⟨TL, hTL⟩ : ∃ TL, succ.length = TL := ⟨_, rfl⟩
      simp only [hCL, hTL] at HBM
      rw [hTL] at hs30
      have HTL := Lib.hid hTL
      clear hCL hTL
      have HM3 := Lib.hid hm3
      clear hm3
      obtain ⟨bv, ov, rfl, hbv, hcv⟩ := (HIV.out.below hBi.out) r (by rw [HLP.out]; exact hrt)
      have HM1 := Lib.hid hm1
      rw [show l[r]?.getD 0 = (m : Int) from hm1] at hcv
      have hri : (r : Int) < (LP : Int) := by omega
      have HHW := Lib.hid (fun W' (h : Below wr.heap.size wr W') => HHp.out.on (hBi.out.trans (h.mono hBi.out.size)))
      have hS := Lib.hid (fun W' (h : Below wr.heap.size wr W') => (show W'.cell? ⟨g, 0, none⟩ = some (.slice p.pa PL p.pc) ∧ W'.cell? ⟨bv, ov + r, none⟩ = some (.int .i64 (m : Int)) from ⟨HBX.out _ (HHW.out _ h), (h.cell (p := ⟨bv, ov + r, none⟩) (block_lt_of_cell hcv)).trans hcv⟩))
      have k0 := HBX.out _ (HHp.out.on hBi.out)
      have ZB : Hid (Below wr.heap.size wr wr.drew) := Lib.hid (below_drewN (Below.refl wr.heap.size wr) 1)
      have ZC : Hid (Below wr.heap.size wr (wr.alloc (.cells #[.bool false, .slice none 0 0, .slice none 0 0] 36)).drew) := Lib.hid (below_drewN ((Below.refl wr.heap.size wr).alloc (Nat.le_refl _) _) 1)
      have ZX : Hid (BoxL (wr.alloc (.cells #[.bool false, .slice none 0 0, .slice none 0 0] 36)).drew wr.heap.size [.bool false, .slice none 0 0, .slice none 0 0]) := Lib.hid (BoxL.new wr [.bool false, .slice none 0 0, .slice none 0 0] 36).drew
      go_wp2_with fail
      go_region_held3 (fun w' => w'.cell? ⟨g, 0, none⟩ = some (.slice p.pa PL p.pc) ∧ w'.cell? ⟨bv, ov + r, none⟩ = some (.int .i64 (m : Int))) (first | exact hS.out _ HBN.out | exact hS.out _ (HBN.out.alloc HBN.out.size _) | exact hS.out _ (below_put3 HBN.out (Nat.le_refl _) _ _ _) | go_keep)
        (first
          | (go_at_call 12; refine (HBM.out _ (HHW.out _ ZB.out)).mono ?_; rintro e wn ⟨rfl, hbn⟩; have HBN := Lib.hid (ZB.out.trans (hbn.mono (Nat.le_refl _))); clear hbn)
          | (go_at_call 12; refine (HBM.out _ (HHW.out _ ZC.out)).mono ?_; rintro e wn ⟨rfl, hbn⟩; have HBN := Lib.hid (ZC.out.trans (hbn.mono ZC.out.size)); have HXN := Lib.hid (ZX.out.below hbn (ZX.out.lt (Nat.zero_lt_succ _))); clear hbn; have q0 := (HXN.out 0 _ rfl).1; have q1 := (HXN.out 1 _ rfl).1; have q2 := (HXN.out 2 _ rfl).1; have z0 := (HXN.out 0 _ rfl).2; have z1 := (HXN.out 1 _ rfl).2; have z2 := (HXN.out 2 _ rfl).2))
      · have HXY := Lib.hid (show BoxL (wn.alloc (.cells #[.bool lv, .slice ca CL cc, .slice sa TL sc] 36)) wn.heap.size [.bool lv, .slice ca CL cc, .slice sa TL sc] from BoxL.new wn _ 36)
        have HBY := Lib.hid (HBN.out.alloc HBN.out.size (.cells #[.bool lv, .slice ca CL cc, .slice sa TL sc] 36))
        generalize wn.alloc (.cells #[.bool lv, .slice ca CL cc, .slice sa TL sc] 36) = WY at HXY HBY ⊢
        generalize wn.heap.size = gy at HXY ⊢
        have HBW := Lib.hid (hBi.out.trans (HBY.out.mono hBi.out.size))
        have y2 := (HXY.out 2 _ rfl).1
        have HSY := Lib.hid (HSI.out _ (HHp.out.on HBW.out))
        have HCV := Lib.hid ((HBY.out.cell (p := ⟨bv, ov + r, none⟩) (block_lt_of_cell hcv)).trans hcv)
        clear HBN hcv k0 HBM hS HHW ZB ZC ZX HBY HSI hbv
        go_wp2_with fail
        go_loop [16, 17] (fun v i => ∃ (j : Nat) (fd : Bool), j ≤ TL ∧ i = .int .i64 j ∧ v = .bool fd ∧ Hid (fd = true ↔ (q : Int) ∈ succ.take j)) (fun _ i => TL - (intOf i).toNat)
        case atStart => exact ⟨0, false, Nat.zero_le _, rfl, rfl, Lib.hid (by simp)⟩
        case round =>
          obtain ⟨j, fd, hj, rfl, rfl, hfd⟩ := hrel
          by_cases hjt : j < TL
          · have hji : (j : Int) < (TL : Int) := by omega
            have hjl : j < succ.length := by rw [HTL.out]; exact hjt
            have htk := List.take_succ_eq_append_getElem hjl
            cases fd with
            | true =>
              go_wp2_with fail
              refine ⟨⟨j + 1, true, by omega, by go_num, rfl, Lib.hid ⟨fun _ => ?_, fun _ => rfl⟩⟩, by simp [intOf]; omega⟩
              rw [htk]
              exact List.mem_append.2 (.inl (hfd.out.1 rfl))
            | false =>
              obtain ⟨bs, os, rfl, hbs, hcs⟩ := HSY.out j hjl
              obtain ⟨z, hz⟩ : ∃ z, succ[j]?.getD 0 = z := ⟨_, rfl⟩
              rw [hz] at hcs
              have hz2 : succ[j] = z := by rw [List.getElem?_eq_getElem hjl] at hz; simpa using hz
              have HZ := Lib.hid hz2
              have HTK := Lib.hid htk
              clear hz hz2 htk hbs
              by_cases hzq : z = (q : Int)
              · subst hzq
                go_wp2_with fail
                refine ⟨⟨j + 1, true, by omega, by go_num, by simp, Lib.hid ⟨fun _ => ?_, fun _ => rfl⟩⟩, by simp [intOf]; omega⟩
                rw [HTK.out, HZ.out]
                simp
              · have hzb : (z == (q : Int)) = false := by simpa using hzq
                have HZQ := Lib.hid hzq
                clear hzq
                go_wp2_with fail
                refine ⟨⟨j + 1, false, by omega, by go_num, by simp, Lib.hid ⟨fun h => (by cases h), fun h => ?_⟩⟩, by simp [intOf]; omega⟩
                rw [HTK.out, HZ.out, List.mem_append] at h
                rcases h with h | h
                · exact hfd.out.2 h
                · simp at h
                  exact absurd h.symm HZQ.out
          · obtain rfl : j = TL := by omega
            have hft : fd = true := hfd.out.2 (by rw [List.take_of_length_le (by rw [HTL.out]; exact Nat.le_refl _)]; exact HM3.out)
            subst hft
            have hji : ¬ ((j : Int) < (j : Int)) := by omega
            have cv1 := HCV.out
            rcases Nat.eq_zero_or_pos r with hr0 | hr0
            · subst hr0
              go_wp2_with fail
              go_quiet (fail)
              go_wp2_with fail
              go_roundw
              case rel => exact ⟨1, by omega, by go_num, below_drewN HBW.out _⟩
              case measure => simp [intOf]; omega
            · obtain ⟨r', rfl⟩ : ∃ r', r = r' + 1 := ⟨r - 1, by omega⟩
              obtain ⟨_, _, e_, hbv2, hcv2⟩ := (HIV.out.below HBW.out) r' (by rw [HLP.out]; omega)
              cases e_
              obtain ⟨m', hm', -, -⟩ := predsTo_at (bl := bl) (b := (q : Int)) (q := BL) (k := r') (by rw [HLE.out, HLP.out]; omega)
              have hri2 := predsTo_rises (bl := bl) (b := (q : Int)) (q := BL) (k := r') (by rw [HLE.out, HLP.out]; omega)
              rw [HLE.out] at hm' hri2
              rw [hm', HM1.out] at hri2
              rw [show l[r']?.getD 0 = (m' : Int) from hm'] at hcv2
              have hmm : ¬ ((m : Int) ≤ (m' : Int)) := by omega
              have hr1 : (0 : Int) < ((r' + 1 : Nat) : Int) := by omega
              have hdm : decide ((m : Int) ≤ (m' : Int)) = false := decide_eq_false hmm
              clear hm' hbv2
              go_wp2_with fail
              go_quiet (fail)
              go_wp2_with fail
              go_roundw
              case rel => exact ⟨r' + 1 + 1, by omega, by go_num, below_drewN HBW.out _⟩
              case measure => simp [intOf]; omega
      · have HXY := Lib.hid (HXN.out.put3 (.bool lv) (.slice ca CL cc) (.slice sa TL sc))
        have HBY := Lib.hid (below_put3 HBN.out (Nat.le_refl wr.heap.size) (.bool lv) (.slice ca CL cc) (.slice sa TL sc))
        clear q0 q1 q2 z0 z1 z2 HXN
        generalize ((wn.setCell ⟨wr.heap.size, 0, none⟩ (.bool lv)).setCell ⟨wr.heap.size, 1, none⟩ (.slice ca CL cc)).setCell ⟨wr.heap.size, 2, none⟩ (.slice sa TL sc) = WY at HXY HBY ⊢
        obtain ⟨gy, hgy⟩ : ∃ gy, wr.heap.size = gy := ⟨_, rfl⟩
        rw [hgy] at HXY ⊢
        clear hgy
        have HBW := Lib.hid (hBi.out.trans (HBY.out.mono hBi.out.size))
        have y2 := (HXY.out 2 _ rfl).1
        have HSY := Lib.hid (HSI.out _ (HHp.out.on HBW.out))
        have HCV := Lib.hid ((HBY.out.cell (p := ⟨bv, ov + r, none⟩) (block_lt_of_cell hcv)).trans hcv)
        clear HBN hcv k0 HBM hS HHW ZB ZC ZX HBY HSI hbv
        go_wp2_with fail
        go_loop [16, 17] (fun v i => ∃ (j : Nat) (fd : Bool), j ≤ TL ∧ i = .int .i64 j ∧ v = .bool fd ∧ Hid (fd = true ↔ (q : Int) ∈ succ.take j)) (fun _ i => TL - (intOf i).toNat)
        case atStart => exact ⟨0, false, Nat.zero_le _, rfl, rfl, Lib.hid (by simp)⟩
        case round =>
          obtain ⟨j, fd, hj, rfl, rfl, hfd⟩ := hrel
          by_cases hjt : j < TL
          · have hji : (j : Int) < (TL : Int) := by omega
            have hjl : j < succ.length := by rw [HTL.out]; exact hjt
            have htk := List.take_succ_eq_append_getElem hjl
            cases fd with
            | true =>
              go_wp2_with fail
              refine ⟨⟨j + 1, true, by omega, by go_num, rfl, Lib.hid ⟨fun _ => ?_, fun _ => rfl⟩⟩, by simp [intOf]; omega⟩
              rw [htk]
              exact List.mem_append.2 (.inl (hfd.out.1 rfl))
            | false =>
              obtain ⟨bs, os, rfl, hbs, hcs⟩ := HSY.out j hjl
              obtain ⟨z, hz⟩ : ∃ z, succ[j]?.getD 0 = z := ⟨_, rfl⟩
              rw [hz] at hcs
              have hz2 : succ[j] = z := by rw [List.getElem?_eq_getElem hjl] at hz; simpa using hz
              have HZ := Lib.hid hz2
              have HTK := Lib.hid htk
              clear hz hz2 htk hbs
              by_cases hzq : z = (q : Int)
              · subst hzq
                go_wp2_with fail
                refine ⟨⟨j + 1, true, by omega, by go_num, by simp, Lib.hid ⟨fun _ => ?_, fun _ => rfl⟩⟩, by simp [intOf]; omega⟩
                rw [HTK.out, HZ.out]
                simp
              · have hzb : (z == (q : Int)) = false := by simpa using hzq
                have HZQ := Lib.hid hzq
                clear hzq
                go_wp2_with fail
                refine ⟨⟨j + 1, false, by omega, by go_num, by simp, Lib.hid ⟨fun h => (by cases h), fun h => ?_⟩⟩, by simp [intOf]; omega⟩
                rw [HTK.out, HZ.out, List.mem_append] at h
                rcases h with h | h
                · exact hfd.out.2 h
                · simp at h
                  exact absurd h.symm HZQ.out
          · obtain rfl : j = TL := by omega
            have hft : fd = true := hfd.out.2 (by rw [List.take_of_length_le (by rw [HTL.out]; exact Nat.le_refl _)]; exact HM3.out)
            subst hft
            have hji : ¬ ((j : Int) < (j : Int)) := by omega
            have cv1 := HCV.out
            rcases Nat.eq_zero_or_pos r with hr0 | hr0
            · subst hr0
              go_wp2_with fail
              go_quiet (fail)
              go_wp2_with fail
              go_roundw
              case rel => exact ⟨1, by omega, by go_num, below_drewN HBW.out _⟩
              case measure => simp [intOf]; omega
            · obtain ⟨r', rfl⟩ : ∃ r', r = r' + 1 := ⟨r - 1, by omega⟩
              obtain ⟨_, _, e_, hbv2, hcv2⟩ := (HIV.out.below HBW.out) r' (by rw [HLP.out]; omega)
              cases e_
              obtain ⟨m', hm', -, -⟩ := predsTo_at (bl := bl) (b := (q : Int)) (q := BL) (k := r') (by rw [HLE.out, HLP.out]; omega)
              have hri2 := predsTo_rises (bl := bl) (b := (q : Int)) (q := BL) (k := r') (by rw [HLE.out, HLP.out]; omega)
              rw [HLE.out] at hm' hri2
              rw [hm', HM1.out] at hri2
              rw [show l[r']?.getD 0 = (m' : Int) from hm'] at hcv2
              have hmm : ¬ ((m : Int) ≤ (m' : Int)) := by omega
              have hr1 : (0 : Int) < ((r' + 1 : Nat) : Int) := by omega
              have hdm : decide ((m : Int) ≤ (m' : Int)) = false := decide_eq_false hmm
              clear hm' hbv2
              go_wp2_with fail
              go_quiet (fail)
              go_wp2_with fail
              go_roundw
              case rel => exact ⟨r' + 1 + 1, by omega, by go_num, below_drewN HBW.out _⟩
              case measure => simp [intOf]; omega
end Go.Proofs.YtdhdpfloaelngaaDoor
