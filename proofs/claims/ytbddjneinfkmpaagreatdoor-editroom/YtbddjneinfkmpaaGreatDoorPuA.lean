/- Programs: Count. -/
import Derived.Test.YtbddjneinfkmpaaGreatDoorPiA
import Derived.Test.YtbddjneinfkmpaaGreatDoorPgX
namespace Go.Proofs.YtbddjneinfkmpaaGreatDoor
open Go Go.RowKit Go.Sort

def Pg.blks (p : Pg) : List Blk := p.funs.flatMap Fd.blocks
def nLive (l : List Blk) : Nat := (l.filter Blk.live).length
def nIns (l : List Blk) : Nat := (l.flatMap Blk.ins).length
theorem nLive_snoc (l : List Blk) (b : Blk) : nLive (l ++ [b]) = nLive l + if b.live then 1 else 0 := by
  unfold nLive
  rw [List.filter_append, List.length_append]
  cases h : b.live <;> simp [h]
theorem nIns_snoc (l : List Blk) (b : Blk) : nIns (l ++ [b]) = nIns l + b.code.length := by simp [nIns, Blk.ins]
theorem nIns_all (p : Pg) : nIns p.blks = p.ins.length := by
  unfold nIns Pg.blks Pg.ins
  rw [List.flatMap_assoc]
  rfl
theorem nLive_le (l : List Blk) : nLive l ≤ l.length := List.length_filter_le _ _
theorem blks_le {p : Pg} (h : p.few) : p.blks.length ≤ 200 := by
  have : ∀ l : List Fd, (∀ f ∈ l, f.blocks.length ≤ 20) → (l.flatMap Fd.blocks).length ≤ 20 * l.length := by
    intro l
    induction l with
    | nil => intro _; simp
    | cons x r ih =>
      intro hl
      have h1 := ih (fun f hf => hl f (by simp [hf]))
      have h2 := hl x (by simp)
      simp only [List.flatMap_cons, List.length_append, List.length_cons]
      omega
  have h2 := this p.funs (fun f hf => by
    obtain ⟨k, hk, rfl⟩ := mem_fdAt hf
    exact (h.2 k hk).1)
  have h3 := h.1
  show (p.funs.flatMap Fd.blocks).length ≤ 200
  omega

set_option maxRecDepth 100000 in
set_option maxHeartbeats 4000000 in
theorem Count_any (p : Pg) (w : World) (hp : PgIs w.heap.size w p) (hT : KTab w) (hE : ETab w) (hfew : p.few) (hs : p.sane) :
    Calls Tryz.prog 21 #[p.val] w fun e w' => e = .returned (.tuple #[.int .i64 (p.funs.length : Nat), .int .i64 (nLive p.blks : Nat), .int .i64 (p.ins.length : Nat)]) ∧ Below w.heap.size w w' := by
  have HB1 := Lib.hid (below1 w (.cells #[.slice p.pa p.funs.length p.pc] 24))
  have HX : Hid (BoxL (w.alloc (.cells #[.slice p.pa p.funs.length p.pc] 24)) w.heap.size [.slice p.pa p.funs.length p.pc]) := Lib.hid (BoxL.new w [.slice p.pa p.funs.length p.pc] 24)
  have HS := Lib.hid (Sane_any p _ (hp.on HB1.out) (hT.on HB1.out) (hE.on HB1.out) hfew true (by simp [hs]))
  have HP := Lib.hid (hp.below HB1.out)
  have HF := Lib.hid (fun k => hfew.f k)
  have hlen := hfew.1
  have HBLE := Lib.hid (blks_le hfew)
  have HILE := Lib.hid (ins_le hfew)
  have HINS := Lib.hid (nIns_all p)
  obtain ⟨bs, hbs⟩ : ∃ bs, p.blks = bs := ⟨_, rfl⟩
  have HBS : Hid (bs = p.funs.flatMap Fd.blocks) := Lib.hid hbs.symm
  obtain ⟨NI, hNI⟩ : ∃ NI, p.ins.length = NI := ⟨_, rfl⟩
  rw [hbs] at HBLE HINS ⊢
  rw [hNI] at HINS HILE ⊢
  clear hp hT hE hfew hs hbs hNI
  unfold Pg.val at *
  obtain ⟨pa, pc, fs⟩ := p
  dsimp only at *
  obtain ⟨L, hL⟩ : ∃ L, fs.length = L := ⟨_, rfl⟩
  have HL := Lib.hid hL
  simp only [hL] at HB1 HX HP HS hlen ⊢
  clear hL
  generalize hE : w.alloc (.cells #[.slice pa L pc] 24) = W at HB1 HX HP HS
  obtain ⟨g, hg⟩ : ∃ g, w.heap.size = g := ⟨_, rfl⟩
  have HGL := Lib.hid HB1.out.size
  rw [hg] at HB1 HX HGL HP ⊢
  have HGW := Lib.hid (HX.out.lt (Nat.zero_lt_succ _))
  have p0 := (HX.out 0 _ rfl).1
  go_enter Tryz.func21, Tryz.ntmps21
  go_wp2_with (go_at_call 23; refine HS.out.mono ?_; rintro e wa ⟨rfl, hba⟩; have HXa := Lib.hid (HX.out.below hba HGW.out); have HPa := Lib.hid (HP.out.below (hba.mono HGL.out)); have HBa := Lib.hid (HB1.out.trans (hba.mono HGL.out)); have HGa := Lib.hid (Nat.lt_of_lt_of_le HGW.out hba.size); clear hba p0 HX HP HB1 HGL HGW HS; have p0 := (HXa.out 0 _ rfl).1)
  clear p0
  go_loopw [5, 6, 17] (fun a c i wr => ∃ (q : Nat) (pre : List Blk), q ≤ L ∧ i = .int .i64 q ∧ a = .int .i64 (nLive pre : Nat) ∧ c = .int .i64 (nIns pre : Nat) ∧ Hid (bs = pre ++ (fs.drop q).flatMap Fd.blocks) ∧ Hid (Below (g + 1) wa wr)) (fun _ _ i _ => L - (intOf i).toNat)
  case atStart => exact ⟨0, [], Nat.zero_le _, rfl, rfl, rfl, HBS, Below.refl _ _⟩
  case round =>
    obtain ⟨q, pre, hq, rfl, rfl, rfl, hpre, hBw⟩ := hrel
    by_cases hlt : q < L
    · obtain ⟨-, -, -, -, -, -, -, hfd⟩ := HPa.out q (by rw [HL.out]; exact hlt)
      obtain ⟨b, o, rfl, hb, c0, c1, c2, -⟩ := (HPa.out.below (hBw.out.mono (Nat.le_succ _))) q (by rw [HL.out]; exact hlt)
      dsimp only at c0 c1 c2 hfd
      have hfew := HF.out q
      have hp1 := hpre.out
      rw [List.drop_eq_getElem_cons (show q < fs.length by rw [HL.out]; exact hlt), List.flatMap_cons] at hp1
      obtain ⟨fd, hfdq⟩ : ∃ fd, fdAt fs q = fd := ⟨_, rfl⟩
      have hfdq2 : fs[q]'(by rw [HL.out]; exact hlt) = fd := by rw [← hfdq]; simp [fdAt, show q < fs.length by rw [HL.out]; exact hlt]
      rw [hfdq2] at hp1
      rw [hfdq] at c0 c1 c2 hfd hfew
      clear hfdq hfdq2 hpre hb
      obtain ⟨ar, vr, ba, bc, bl⟩ := fd
      dsimp only at c0 c1 c2 hfd hfew hp1
      obtain ⟨M, hM⟩ : ∃ M, bl.length = M := ⟨_, rfl⟩
      have hM20 : M ≤ 20 := by rw [← hM]; exact hfew.1
      rw [hM] at c2
      have HM := Lib.hid hM
      obtain ⟨rest, hrest⟩ : ∃ rest, (fs.drop (q + 1)).flatMap Fd.blocks = rest := ⟨_, rfl⟩
      rw [hrest] at hp1
      have HREST := Lib.hid hrest
      have HP1 : Hid (bs = pre ++ (bl.drop 0 ++ rest)) := Lib.hid hp1
      have HFD := Lib.hid (show BlksIs g wa ba bl from hfd)
      clear hM hfew hrest hp1 hfd
      have hqi : (q : Int) < (L : Int) := by omega
      have HBW2 := Lib.hid (hBw.out.alloc (Nat.le_trans HGa.out hBw.out.size) (.cells #[.int .i64 ar, .int .i64 vr, .slice ba M bc] 29))
      go_wp2_with fail
      clear c0 c1 c2
      go_loopw [5, 6, 24] (fun a c i wi => ∃ (r : Nat) (pre : List Blk), r ≤ M ∧ i = .int .i64 r ∧ a = .int .i64 (nLive pre : Nat) ∧ c = .int .i64 (nIns pre : Nat) ∧ Hid (bs = pre ++ (bl.drop r ++ rest)) ∧ Hid (Below (g + 1) wa wi)) (fun _ _ i _ => M - (intOf i).toNat)
      case atStart => exact ⟨0, pre, Nat.zero_le _, rfl, rfl, rfl, HP1, HBW2⟩
      case round =>
        obtain ⟨r, pre2, hr, rfl, rfl, rfl, hpre2, hBi⟩ := hrel
        by_cases hrt : r < M
        · obtain ⟨b2, o2, rfl, hb2, d0, d1, d2, -⟩ := (BlksIs.below HFD.out (hBi.out.mono (Nat.le_succ _))) r (by rw [HM.out]; exact hrt)
          have hp2 := hpre2.out
          rw [List.drop_eq_getElem_cons (show r < bl.length by rw [HM.out]; exact hrt)] at hp2
          obtain ⟨bk, hbkr⟩ : ∃ bk, blkAt bl r = bk := ⟨_, rfl⟩
          have hbk2 : bl[r]'(by rw [HM.out]; exact hrt) = bk := by rw [← hbkr]; simp [blkAt, show r < bl.length by rw [HM.out]; exact hrt]
          rw [hbk2] at hp2
          rw [hbkr] at d0 d1 d2
          clear hbkr hbk2 hpre2 hb2
          have hp3 : bs = (pre2 ++ [bk]) ++ (bl.drop (r + 1) ++ rest) := by rw [hp2]; simp
          have HP3 := Lib.hid hp3
          have hl1 : nLive (pre2 ++ [bk]) ≤ 200 := Nat.le_trans (nLive_le _) (by have := HBLE.out; rw [hp3, List.length_append] at this; omega)
          have hl2 : nIns (pre2 ++ [bk]) ≤ 6000 := by
            have h1 := HILE.out
            have h2 := HINS.out
            rw [hp3] at h2
            unfold nIns at h2 ⊢
            rw [List.flatMap_append, List.length_append] at h2
            omega
          rw [nLive_snoc] at hl1
          rw [nIns_snoc] at hl2
          have HN1 := Lib.hid (nLive_snoc pre2 bk)
          have HN2 := Lib.hid (nIns_snoc pre2 bk)
          obtain ⟨lv, ca, cc, code, sa, sc, succ⟩ := bk
          dsimp only at d0 d1 d2 hl1 hl2 HN1 HN2
          obtain ⟨C, hC⟩ : ∃ C, code.length = C := ⟨_, rfl⟩
          rw [hC] at d1 hl2 HN2
          clear hC hp2 hp3
          obtain ⟨m1, hm1⟩ : ∃ m, nLive pre2 = m := ⟨_, rfl⟩
          obtain ⟨m2, hm2⟩ : ∃ m, nIns pre2 = m := ⟨_, rfl⟩
          rw [hm1] at hl1 HN1 ⊢
          rw [hm2] at hl2 HN2 ⊢
          clear hm1 hm2
          have hri : (r : Int) < (M : Int) := by omega
          have HBI2 := Lib.hid (hBi.out.alloc (Nat.le_trans HGa.out hBi.out.size) (.cells #[.bool lv, .slice ca C cc, .slice sa succ.length sc] 35))
          cases lv with
          | true =>
            simp only [if_true] at hl1 HN1
            go_wp2_with fail
            go_roundw
            case rel => exact ⟨r + 1, _, by omega, by go_num, by rw [HN1.out]; simp, by rw [HN2.out]; simp, HP3, HBI2⟩
            case measure => simp [intOf]; omega
          | false =>
            simp only [Bool.false_eq_true, if_false] at hl1 HN1
            go_wp2_with fail
            go_roundw
            case rel => exact ⟨r + 1, _, by omega, by go_num, by rw [HN1.out]; simp, by rw [HN2.out]; simp, HP3, HBI2⟩
            case measure => simp [intOf]; omega
        · obtain rfl : r = M := by omega
          have hp := hpre2.out
          rw [List.drop_of_length_le (by rw [HM.out]; exact Nat.le_refl _)] at hp
          have HPP := Lib.hid hp
          clear hp hpre2
          go_wp2_with fail
          go_roundw
          case rel => exact ⟨q + 1, pre2, by omega, by go_num, rfl, rfl, Lib.hid (by rw [HREST.out]; simpa using HPP.out), hBi⟩
          case measure => simp [intOf]; omega
    · obtain rfl : q = L := by omega
      have hp := hpre.out
      rw [List.drop_of_length_le (by rw [HL.out]; exact Nat.le_refl _)] at hp
      have hall2 : bs = pre := by simpa using hp
      have HPP := Lib.hid hall2
      have p0 := ((HXa.out.below hBw.out (Nat.lt_succ_self _)) 0 _ rfl).1
      clear hp hpre hall2
      go_wp2_with fail
      go_ret3
      refine ⟨?_, HBa.out.trans (hBw.out.mono (Nat.le_succ _))⟩
      rw [← HINS.out, HPP.out]
      rfl
end Go.Proofs.YtbddjneinfkmpaaGreatDoor
