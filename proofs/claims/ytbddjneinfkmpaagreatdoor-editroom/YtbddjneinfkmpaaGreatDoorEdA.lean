/- Edits: hasEdge, checkBlocks, checkVars, checkCall, checkAddFun. -/
import Derived.Deep.RegionHeld3
import Derived.Test.YtbddjneinfkmpaaGreatDoorEdM
namespace Go.Proofs.YtbddjneinfkmpaaGreatDoor
open Go Go.RowKit Go.Sort

set_option maxRecDepth 100000 in
set_option maxHeartbeats 4000000 in
theorem hasEdge_any (p : Pg) (f b tob : Int) (w : World) (h : Rd w p) (hfew : p.few) (r : Bool) (hr : edgeB p f b tob = r) :
    Calls Tryz.prog 147 #[p.val, .int .i64 f, .int .i64 b, .int .i64 tob] w fun e w' => e = .returned (.bool r) ∧ Below w.heap.size w w' := by
  have HB1 := Lib.hid (below1 w (.cells #[.slice p.pa p.funs.length p.pc] 24))
  obtain ⟨y, hy⟩ : ∃ y, blkR p f b = y := ⟨_, rfl⟩
  obtain ⟨rb, hrb⟩ : ∃ rb, blkB p f b = rb := ⟨_, rfl⟩
  have HF := Lib.hid (Block_any p f b _ (h.1.on HB1.out) (h.2.1.on HB1.out) (h.2.2.on HB1.out) hfew y hy rb hrb)
  have HS := Lib.hid (blkR_is h.1 f b).2
  have hs30 := (blkR_few hfew f b).2
  unfold edgeB at hr
  rw [hy] at HS hs30 hr
  have HR := Lib.hid hr
  clear h hfew hy hrb hr
  unfold Pg.val Blk.val at *
  obtain ⟨lv, ca, cc, code, sa, sc, succ⟩ := y
  dsimp only at *
  obtain ⟨SL, hSL⟩ : ∃ SL, succ.length = SL := ⟨_, rfl⟩
  obtain ⟨CL, hCL⟩ : ∃ CL, code.length = CL := ⟨_, rfl⟩
  have HSL := Lib.hid hSL
  simp only [hSL, hCL] at HF hs30
  clear hSL hCL
  go_enter Tryz.func147, Tryz.ntmps147
  go_wp2_with (first | (go_at_call 17; refine HF.out.mono ?_; rintro e wa ⟨rfl, hba⟩; have HW2 := Lib.hid ((HB1.out.trans (hba.mono HB1.out.size)).alloc (Nat.le_trans HB1.out.size hba.size) (.cells #[.bool lv, .slice ca CL cc, .slice sa SL sc] 35)); clear hba) | (go_at_call 66; refine (Bi.Contains_any sa succ sc tob _ ((HS.out.below HW2.out).mono HW2.out.size) SL HSL.out (by omega) r HR.out).mono ?_; rintro e wb ⟨rfl, rfl⟩))
  go_ret
  exact ⟨rfl, HW2.out⟩

theorem blocksE_upto {p : Pg} {f : Int} {l : List Int} : (∀ k, k < l.length → blkB p f (numAt l k) = true) → blocksE p f l = 0 := fun h => by
  rw [blocksE_zero]
  intro b hb
  obtain ⟨k, hk, e⟩ := List.getElem_of_mem hb
  have := h k hk
  unfold numAt at this
  rw [List.getElem?_eq_getElem hk] at this
  rw [← e]; exact this
theorem blocksE_fell {p : Pg} {f : Int} {l : List Int} (k : Nat) (hk : k < l.length) (h : blkB p f (numAt l k) = false) : blocksE p f l = 2 := by
  induction l generalizing k with
  | nil => simp at hk
  | cons b l ih =>
    unfold blocksE
    cases k with
    | zero => have : blkB p f b = false := by simpa [numAt] using h
              simp [this]
    | succ k =>
      have := ih k (by simpa using hk) (by simpa [numAt] using h)
      rw [this]; cases blkB p f b <;> simp

set_option maxRecDepth 100000 in
set_option maxHeartbeats 4000000 in
theorem checkBlocks_any (p : Pg) (f : Int) (a : Option Addr) (l : List Int) (cap : Nat) (w : World) (h : Rd w p) (hfew : p.few) (hIs : Is w.heap.size w a l) (L : Nat) (hL : l.length = L) (hl : L ≤ 100) (r : Int) (hr : blocksE p f l = r) :
    Calls Tryz.prog 146 #[p.val, .int .i64 f, .slice a L cap] w fun e w' => e = .returned (.int .i64 r) ∧ Below w.heap.size w w' := by
  have HB1 := Lib.hid (below1 w (.cells #[.slice p.pa p.funs.length p.pc] 24))
  have HX : Hid (BoxL (w.alloc (.cells #[.slice p.pa p.funs.length p.pc] 24)) w.heap.size [.slice p.pa p.funs.length p.pc]) := Lib.hid (BoxL.new w [.slice p.pa p.funs.length p.pc] 24)
  have HBK := Lib.hid (fun W (hb : Below w.heap.size w W) b y hy rb hrb => Block_any p f b W (h.1.on hb) (h.2.1.on hb) (h.2.2.on hb) hfew y hy rb hrb)
  have HIS := Lib.hid hIs
  have HR := Lib.hid hr
  have HL := Lib.hid hL
  clear h hfew hIs hr hL
  unfold Pg.val at *
  obtain ⟨PL, hPL⟩ : ∃ PL, p.funs.length = PL := ⟨_, rfl⟩
  simp only [hPL] at HB1 HX HBK ⊢
  clear hPL
  generalize hE : w.alloc (.cells #[.slice p.pa PL p.pc] 24) = W at HB1 HX
  obtain ⟨g, hg⟩ : ∃ g, w.heap.size = g := ⟨_, rfl⟩
  have HGL := Lib.hid HB1.out.size
  rw [hg] at HB1 HX HBK HIS HGL ⊢
  have HLT := Lib.hid (HX.out.lt (Nat.zero_lt_succ _))
  go_enter Tryz.func146, Tryz.ntmps146
  go_wp2
  go_loopw [13] (fun i wr => ∃ q : Nat, q ≤ L ∧ i = .int .i64 q ∧ Hid (∀ k, k < q → blkB p f (numAt l k) = true) ∧ Hid (Below W.heap.size W wr)) (fun i _ => L - (intOf i).toNat)
  case atStart => exact ⟨0, Nat.zero_le _, rfl, Lib.hid fun k hk => absurd hk (Nat.not_lt_zero _), Lib.hid (Below.refl _ _)⟩
  case round =>
    obtain ⟨q, hq, rfl, hok, hBw⟩ := hrel
    have k0 := ((HX.out.below hBw.out HLT.out) 0 _ rfl).1
    have HBG := Lib.hid (HB1.out.trans (hBw.out.mono HGL.out))
    have HGW := Lib.hid (Nat.le_trans HGL.out hBw.out.size)
    by_cases hlt : q < L
    · obtain ⟨ab, ao, rfl, hab, c0⟩ := (HIS.out.below HBG.out) q (by rw [HL.out]; exact hlt)
      have hqi : (q : Int) < (L : Int) := by omega
      obtain ⟨b, hb⟩ : ∃ b, l[q]?.getD 0 = b := ⟨_, rfl⟩
      rw [hb] at c0
      have HBQ : Hid (numAt l q = b) := Lib.hid hb
      obtain ⟨y, hy⟩ : ∃ y, blkR p f b = y := ⟨_, rfl⟩
      obtain ⟨rb, hrb⟩ : ∃ rb, blkB p f b = rb := ⟨_, rfl⟩
      have HC := Lib.hid (HBK.out wr HBG.out b y hy rb hrb)
      have HRB := Lib.hid hrb
      clear hb hy hrb hab
      unfold Blk.val at HC
      obtain ⟨lv, ca, cc, code, sa, sc, succ⟩ := y
      dsimp only at HC
      obtain ⟨SL, hSL⟩ : ∃ SL, succ.length = SL := ⟨_, rfl⟩
      obtain ⟨CL, hCL⟩ : ∃ CL, code.length = CL := ⟨_, rfl⟩
      simp only [hSL, hCL] at HC
      clear hSL hCL
      cases rb with
      | false =>
        go_wp2_with (go_at_call 17; refine HC.out.mono ?_; rintro e wa ⟨rfl, hba⟩; have HBA := Lib.hid ((HBG.out.trans (hba.mono HGW.out)).alloc (Nat.le_trans HGW.out hba.size) (.cells #[.bool lv, .slice ca CL cc, .slice sa SL sc] 35)); clear hba)
        go_ret
        refine ⟨ret_int ?_, HBA.out⟩
        rw [← HR.out]
        exact (blocksE_fell q (by rw [HL.out]; exact hlt) (by rw [HBQ.out]; exact HRB.out)).symm
      | true =>
        go_wp2_with (go_at_call 17; refine HC.out.mono ?_; rintro e wa ⟨rfl, hba⟩; have HBA := Lib.hid ((hBw.out.trans (hba.mono hBw.out.size)).alloc (Nat.le_trans hBw.out.size hba.size) (.cells #[.bool lv, .slice ca CL cc, .slice sa SL sc] 35)); clear hba)
        go_roundw
        case rel =>
          refine ⟨q + 1, by omega, by go_num, Lib.hid fun k hk => ?_, HBA⟩
          rcases Nat.lt_succ_iff_lt_or_eq.1 hk with h | rfl
          · exact hok.out k h
          · rw [HBQ.out]; exact HRB.out
        case measure => simp [intOf]; omega
    · obtain rfl : q = L := by omega
      have hqi : ¬ ((q : Int) < (q : Int)) := by omega
      go_wp2_with fail
      go_ret
      refine ⟨ret_int ?_, HBG.out⟩
      rw [← HR.out]
      exact (blocksE_upto (fun k hk => hok.out k (by rw [← HL.out]; exact hk))).symm

set_option maxRecDepth 100000 in
set_option maxHeartbeats 4000000 in
theorem checkVars_any (x : Fd) (i : Ins) (w : World) (hT : KTab w) (r : Int) (hr : varsE x i = r) :
    Calls Tryz.prog 169 #[x.val, i.val] w fun e w' => e = .returned (.int .i64 r) ∧ Below w.heap.size w w' := by
  obtain ⟨vs, hvs⟩ : ∃ vs, i.vars = vs := ⟨_, rfl⟩
  have hvl := vars_le i
  unfold varsE at hr
  rw [hvs] at hvl hr
  have HB2 := Lib.hid (below2 w (.cells #[.int .i64 x.ar, .int .i64 x.vr, .slice x.ba x.blocks.length x.bc] 29) (.cells i.cells.toArray 40))
  have HX : Hid (BoxL ((w.alloc (.cells #[.int .i64 x.ar, .int .i64 x.vr, .slice x.ba x.blocks.length x.bc] 29)).alloc (.cells i.cells.toArray 40)) w.heap.size [.int .i64 x.ar, .int .i64 x.vr, .slice x.ba x.blocks.length x.bc]) := Lib.hid ((BoxL.new w [.int .i64 x.ar, .int .i64 x.vr, .slice x.ba x.blocks.length x.bc] 29).alloc (Nat.zero_lt_succ _) _)
  have HI0 := BoxL.new (w.alloc (.cells #[.int .i64 x.ar, .int .i64 x.vr, .slice x.ba x.blocks.length x.bc] 29)) i.cells 40
  rw [World.size_alloc] at HI0
  have HI := Lib.hid HI0
  have HV := Lib.hid (Bi.Vars_any i _ (hT.on HB2.out) vs hvs)
  have HR := Lib.hid hr
  clear hT hr hvs HI0
  obtain ⟨ar, vr, ba, bc, bl⟩ := x
  obtain ⟨id, kind, dst, a, b2, c, f2, n, x0, x1, x2⟩ := i
  unfold Fd.val Ins.val at *
  unfold Ins.cells at *
  dsimp only at *
  obtain ⟨BL, hBL⟩ : ∃ BL, bl.length = BL := ⟨_, rfl⟩
  simp only [hBL] at HB2 HX HI HV ⊢
  clear hBL
  obtain ⟨V, hV⟩ : ∃ V, vs.length = V := ⟨_, rfl⟩
  rw [hV] at HV hvl
  have HVV := Lib.hid hV
  clear hV
  generalize hE : (w.alloc (.cells #[.int .i64 ar, .int .i64 vr, .slice ba BL bc] 29)).alloc (.cells (List.toArray [.int .i64 id, .int .i64 kind, .int .i64 dst, .int .i64 a, .int .i64 b2, .int .i64 c, .int .i64 f2, .int .i64 n, .int .i64 x0, .int .i64 x1, .int .i64 x2]) 40) = W at HB2 HX HI HV
  have hE' : (w.alloc (.cells #[.int .i64 ar, .int .i64 vr, .slice ba BL bc] 29)).alloc (.cells #[.int .i64 id, .int .i64 kind, .int .i64 dst, .int .i64 a, .int .i64 b2, .int .i64 c, .int .i64 f2, .int .i64 n, .int .i64 x0, .int .i64 x1, .int .i64 x2] 40) = W := hE
  clear hE
  obtain ⟨g, hg⟩ : ∃ g, w.heap.size = g := ⟨_, rfl⟩
  have HGL := Lib.hid HB2.out.size
  rw [hg] at HB2 HX HI HGL ⊢
  have HLT := Lib.hid (HX.out.lt (Nat.zero_lt_succ _))
  have k0 := (HI.out 0 _ rfl).1
  have k1 := (HI.out 1 _ rfl).1
  have k2 := (HI.out 2 _ rfl).1
  have k3 := (HI.out 3 _ rfl).1
  have k4 := (HI.out 4 _ rfl).1
  have k5 := (HI.out 5 _ rfl).1
  have k6 := (HI.out 6 _ rfl).1
  have k7 := (HI.out 7 _ rfl).1
  have k8 := (HI.out 8 _ rfl).1
  have k9 := (HI.out 9 _ rfl).1
  have k10 := (HI.out 10 _ rfl).1
  go_enter Tryz.func169, Tryz.ntmps169
  go_wp2_with (go_at_call 174; refine HV.out.mono ?_; rintro e wb ⟨u, rfl, hou, hbb⟩; have HW3 := Lib.hid (HB2.out.trans (hbb.mono HGL.out)); obtain ⟨av, cv, rfl, hlv, hIv⟩ := is_of_ints hou; have HIV := Lib.hid hIv; have hf1 := ((HX.out.below hbb HLT.out) 1 _ rfl).1; clear hou hbb hIv k0 k1 k2 k3 k4 k5 k6 k7 k8 k9 k10)
  go_loop [10] (fun i => ∃ q : Nat, q ≤ V ∧ i = .int .i64 q ∧ Hid (∀ k, k < q → numAt vs k < vr)) (fun i => V - (intOf i).toNat)
  case atStart => exact ⟨0, Nat.zero_le _, rfl, fun k hk => absurd hk (Nat.not_lt_zero _)⟩
  case round =>
    obtain ⟨q, hq, rfl, hok⟩ := hrel
    by_cases hlt : q < V
    · obtain ⟨bb, oo, rfl, hbl, hcell⟩ := HIV.out q (by rw [HVV.out]; exact hlt)
      obtain ⟨y, hy⟩ : ∃ y, vs[q]?.getD 0 = y := ⟨_, rfl⟩
      rw [hy] at hcell
      have HYY := Lib.hid (show numAt vs q = y from hy)
      have hqi : (q : Int) < (V : Int) := by omega
      clear hy
      by_cases hxv : vr ≤ y
      · go_wp2_with fail
        go_ret
        refine ⟨ret_int ?_, HW3.out⟩
        rw [← HR.out, if_neg]
        intro h
        have := mem_numAt.1 h q (by rw [HVV.out]; exact hlt)
        rw [HYY.out] at this
        omega
      · have hxv' : y < vr := by omega
        go_wp2_with fail
        refine ⟨⟨q + 1, by omega, by go_num, fun k hk => ?_⟩, by simp [intOf]; omega⟩
        rcases Nat.lt_succ_iff_lt_or_eq.1 hk with h | rfl
        · exact hok.out k h
        · rw [HYY.out]; exact hxv'
    · obtain rfl : q = V := by omega
      have hqi : ¬ ((q : Int) < (q : Int)) := by omega
      go_wp2_with fail
      go_ret
      refine ⟨ret_int ?_, HW3.out⟩
      rw [← HR.out, if_pos]
      exact mem_numAt.2 (fun k hk => hok.out k (by rw [← HVV.out]; exact hk))

set_option maxRecDepth 100000 in
set_option maxHeartbeats 4000000 in
theorem checkAddFun_any (p : Pg) (b tob : Int) (w : World) (hfew : p.few) (r : Int) (hr : addFunE p b tob = r) :
    Calls Tryz.prog 108 #[p.val, .int .i64 b, .int .i64 tob] w fun e w' => e = .returned (.int .i64 r) ∧ Below w.heap.size w w' := by
  have HB1 := Lib.hid (below1 w (.cells #[.slice p.pa p.funs.length p.pc] 24))
  have HX : Hid (BoxL (w.alloc (.cells #[.slice p.pa p.funs.length p.pc] 24)) w.heap.size [.slice p.pa p.funs.length p.pc]) := Lib.hid (BoxL.new w [.slice p.pa p.funs.length p.pc] 24)
  have hlen := hfew.1
  unfold addFunE at hr
  have HR := Lib.hid hr
  clear hfew hr
  unfold Pg.val
  obtain ⟨PL, hPL⟩ : ∃ PL, p.funs.length = PL := ⟨_, rfl⟩
  simp only [hPL] at HB1 HX HR hlen ⊢
  clear hPL
  generalize hE : w.alloc (.cells #[.slice p.pa PL p.pc] 24) = W at HB1 HX
  obtain ⟨g, hg⟩ : ∃ g, w.heap.size = g := ⟨_, rfl⟩
  have HGL := Lib.hid HB1.out.size
  rw [hg] at HB1 HX HGL ⊢
  have HLT := Lib.hid (HX.out.lt (Nat.zero_lt_succ _))
  have HS : Hid (∀ w', Below W.heap.size W w' → w'.cell? ⟨g, 0, none⟩ = some (.slice p.pa PL p.pc)) := Lib.hid fun w' h => ((HX.out.below h HLT.out) 0 _ rfl).1
  have HBN : Hid (Below W.heap.size W W.drew) := Lib.hid (Below.refl _ _).drew
  go_enter Tryz.func108, Tryz.ntmps108
  go_wp2
  go_region_held3 (fun w' => w'.cell? ⟨g, 0, none⟩ = some (.slice p.pa PL p.pc))
    (first | exact HS.out _ HBN.out | exact HS.out _ (HBN.out.alloc HBN.out.size _))
    (first
      | (go_at_call 107; refine (within_any _ _ _ _).mono ?_; rintro e wn ⟨rfl, rfl⟩)
      | (go_at_call 75; refine (unless_any _ _ _).mono ?_; rintro e wn ⟨rfl, rfl⟩)
      | (go_at_call 74; refine (first_any [unl (inB b 0 3) 9, unl (inB tob b 6) 9, unl (decide ((PL : Int) < 6)) 8] _ 0 3 3 _ rfl (by decide) (by first | exact new_errs _ [unl (inB b 0 3) 9, unl (inB tob b 6) 9, unl (decide ((PL : Int) < 6)) 8] _ 3 rfl | exact new_errs_d _ [unl (inB b 0 3) 9, unl (inB tob b 6) 9, unl (decide ((PL : Int) < 6)) 8] _ 3 rfl) r HR.out).mono ?_; rintro e wn ⟨rfl, rfl⟩))
  all_goals
    go_wp2_with fail
    go_ret
    exact ⟨rfl, (HB1.out.trans (HBN.out.mono HGL.out)).alloc (Nat.le_trans HGL.out HBN.out.size) _⟩
end Go.Proofs.YtbddjneinfkmpaaGreatDoor
