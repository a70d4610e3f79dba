/- The document's answer for layer 6: all instructions. -/
import Derived.Laws.AppendOwn
import Derived.Test.YtbddjneinfkmpaaGreatDoorPgT
import Derived.Test.YtbddjneinfkmpaaGreatDoorPgU2
namespace Go.Proofs.YtbddjneinfkmpaaGreatDoor
open Go Go.RowKit Go.Sort

/-- Nothing appended. -/
theorem wpList_append_zero {P : Program} {w : World} {ops : Array Oper} {rest : List Oper} {o : Oper} {a : Act} {Q : Exit → Act → World → Prop} (hgd : o.guard = none) (s x : Operand) (t : TypeId)
    (ho : o.op = .call { callee := .builtin .append, args := #[s, x], argTypes := #[t, t] }) (base : Nat) (e : TypeId) (i : TypeInfo) (size : Nat) (ht : P.underlying t = some (.slice e)) (hi : P.info? e = some i)
    (v : Value) (n : Nat) (xs : List Value) (hs : a.eval s = v) (hown : w.ownsRow base e size v n xs) (xa : Option Addr) (xc : Nat) (hx : a.eval x = .slice xa 0 xc)
    (h : wpList P ops Q rest (a.put o.dst v) w) : wpList P ops Q (o :: rest) a w := by
  refine wpList_plain hgd fun _ hK => ?_
  have hr : (Builtin.append_ #[t, t] o.type #[v, .slice xa 0 xc]).run P w = .ok v w := by
    rcases hown.2 with ⟨rfl, rfl⟩ | ⟨g, cap, cur, rfl, hbg, hg, hnc, hcm, hcs, htake⟩
    · cases xa <;> simp [Builtin.append_, run_underlying ht, sizeOf, typeInfo, hi, Builtin.lenOf, Builtin.firstCells, loadCells, loadCellsFrom]
    · cases xa <;> simp [Builtin.append_, run_underlying ht, sizeOf, typeInfo, hi, Builtin.lenOf, Builtin.firstCells, loadCells, loadCellsFrom, hnc, storeCells]
  unfold Oper.wp execOp
  simp only [ho, resolve, invoke, builtin, Sem.run_bind, Sem.run_pure, Result.andThen_ok, List.map_toArray, List.map_cons, List.map_nil, hs, hx, hr]
  exact hK _ _ h

def flat (l : List Ins) : List Value := l.flatMap Ins.cells
theorem flat_length : ∀ l : List Ins, (flat l).length = l.length * 11
  | [] => rfl
  | i :: r => by
    have := flat_length r
    unfold flat at *
    simp only [List.flatMap_cons, List.length_append, List.length_cons, this]
    simp [Ins.cells]
    omega
theorem flat_at : ∀ (l : List Ins) (i t : Nat), i < l.length → t < 11 → (flat l)[i * 11 + t]? = (insAt l i).cells[t]?
  | [], i, _, h, _ => absurd h (Nat.not_lt_zero _)
  | x :: r, 0, t, _, ht => by
    unfold flat
    rw [List.flatMap_cons, List.getElem?_append_left (by simp [Ins.cells]; omega)]
    simp [insAt]
  | x :: r, i + 1, t, h, ht => by
    unfold flat
    rw [List.flatMap_cons, List.getElem?_append_right (by simp [Ins.cells]; omega)]
    have e : (i + 1) * 11 + t - x.cells.length = i * 11 + t := by simp [Ins.cells]; omega
    rw [e]
    have := flat_at r i t (by simpa using h) ht
    unfold flat at this
    rw [this]
    simp [insAt]
theorem flat_append (l m : List Ins) : flat (l ++ m) = flat l ++ flat m := by simp [flat]
theorem flat_one (l : List Ins) : ∀ u ∈ flat l, u.oneCell' = true := by
  intro u hu
  obtain ⟨i, _, hi⟩ := List.mem_flatMap.1 hu
  simp [Ins.cells] at hi
  rcases hi with rfl | rfl | rfl | rfl | rfl | rfl | rfl | rfl | rfl | rfl | rfl <;> rfl
theorem CodeIs.src {B : Nat} {W : World} {b o : Nat} {l : List Ins} (h : CodeIs B W (some ⟨b, o, none⟩) l) : ∀ j u, (flat l)[j]? = some u → W.cell? ((⟨b, o, none⟩ : Addr).add j) = some u := by
  intro j u hj
  have hjl : j < l.length * 11 := by
    rw [← flat_length]
    exact (List.getElem?_eq_some_iff.1 hj).1
  have hi : j / 11 < l.length := by omega
  obtain ⟨b', o', e, _, hc⟩ := h (j / 11) hi
  cases e
  have h1 := hc (j % 11) (by omega)
  have h2 := flat_at l (j / 11) (j % 11) hi (by omega)
  have e2 : j / 11 * 11 + j % 11 = j := by omega
  rw [e2] at h2
  have hadd : (⟨b, o, none⟩ : Addr).add j = ⟨b, o + j, none⟩ := by unfold Addr.add; split <;> simp_all
  rw [hadd, ← hj, h2, ← h1]
  congr 2
  omega
/-- Instructions of the call's own, as a slice that is read. -/
theorem code_of_owns {n0 : Nat} {W : World} {u : Value} {l : List Ins} {T : Nat} (h : W.ownsRow n0 40 11 u T (flat l)) : ∃ a cap, u = .slice a T cap ∧ l.length = T ∧ CodeIs W.heap.size W a l := by
  have hlen := h.1
  rw [flat_length] at hlen
  have hl : l.length = T := by omega
  obtain ⟨_, ⟨rfl, h0⟩ | ⟨g, cap, cur, rfl, hb, hc, hle, _, hsz, htk⟩⟩ := id h
  · subst h0
    exact ⟨none, 0, rfl, hl, fun j hj => absurd hj (by omega)⟩
  · refine ⟨_, cap, rfl, hl, fun j hj => ⟨g, 0, rfl, (Array.getElem?_eq_some_iff.1 hc).1, fun t ht => ?_⟩⟩
    have h2 := flat_at l j t hj ht
    obtain ⟨v, hv⟩ : ∃ v, (flat l)[j * 11 + t]? = some v := ⟨_, List.getElem?_eq_getElem (by rw [flat_length]; omega)⟩
    have h3 := h.cells (g := g) rfl (j * 11 + t) v hv
    have hadd : (⟨g, 0, none⟩ : Addr).add (j * 11 + t) = ⟨g, 0 + j * 11 + t, none⟩ := by unfold Addr.add; split <;> simp_all
    rw [hadd] at h3
    rw [h3, ← hv, h2]
theorem info45 : (Tryz.prog.info? 40).map (fun i => (i.zero, i.size, i.bytes)) = some (some (.agg #[.int .i64 0, .int .i64 0, .int .i64 0, .int .i64 0, .int .i64 0, .int .i64 0, .int .i64 0, .int .i64 0, .int .i64 0, .int .i64 0, .int .i64 0]), 11, 88) := by kernel_rfl
theorem ins_le {p : Pg} (h : p.few) : p.ins.length ≤ 6000 := by
  rw [← ats_i, List.length_map]
  exact ats_le h

set_option maxRecDepth 100000 in
set_option maxHeartbeats 4000000 in
theorem Instrs_any (p : Pg) (w : World) (hp : PgIs w.heap.size w p) (hfew : p.few) :
    Calls Tryz.prog 61 #[p.val] w fun e w' => ∃ u, e = .returned u ∧ w'.ownsRow w.heap.size 40 11 u p.ins.length (flat p.ins) ∧ Below w.heap.size w w' := by
  have HB1 := Lib.hid (below1 w (.cells #[.slice p.pa p.funs.length p.pc] 24))
  have HX : Hid (BoxL (w.alloc (.cells #[.slice p.pa p.funs.length p.pc] 24)) w.heap.size [.slice p.pa p.funs.length p.pc]) := Lib.hid (BoxL.new w [.slice p.pa p.funs.length p.pc] 24)
  have HP := Lib.hid (hp.below HB1.out)
  have HF := Lib.hid (fun k => hfew.f k)
  have hlen := hfew.1
  have HIL := Lib.hid (ins_le hfew)
  obtain ⟨all, hall⟩ : ∃ all, p.ins = all := ⟨_, rfl⟩
  have HALL : Hid (all = p.funs.flatMap Fd.ins) := Lib.hid hall.symm
  rw [hall] at HIL ⊢
  clear hp hfew hall
  unfold Pg.val
  obtain ⟨pa, pc, fs⟩ := p
  dsimp only at *
  obtain ⟨L, hL⟩ : ∃ L, fs.length = L := ⟨_, rfl⟩
  have HL := Lib.hid hL
  simp only [hL] at HB1 HX HP hlen ⊢
  clear hL
  generalize hE : w.alloc (.cells #[.slice pa L pc] 24) = W at HB1 HX HP
  obtain ⟨g, hg⟩ : ∃ g, w.heap.size = g := ⟨_, rfl⟩
  have HGL := Lib.hid HB1.out.size
  rw [hg] at HB1 HX HGL HP ⊢
  have HGW := Lib.hid (HX.out.lt (Nat.zero_lt_succ _))
  obtain ⟨i0, hi, hz0, hz1, hz2⟩ := info_parts info45
  go_enter Tryz.func61, Tryz.ntmps61
  go_wp2
  go_loopw [3, 4] (fun v i wr => ∃ (q : Nat) (pre : List Ins), q ≤ L ∧ i = .int .i64 q ∧ Hid (all = pre ++ (fs.drop q).flatMap Fd.ins) ∧ Hid (wr.ownsRow (g + 1) 40 11 v pre.length (flat pre)) ∧ Hid (Below (g + 1) W wr)) (fun _ i _ => L - (intOf i).toNat)
  case atStart => exact ⟨0, [], Nat.zero_le _, rfl, HALL, World.ownsRow_nil _ _ _ _, Below.refl _ _⟩
  case round =>
    obtain ⟨q, pre, hq, rfl, hpre, hown, hBw⟩ := hrel
    have p0 := ((HX.out.below hBw.out (Nat.lt_succ_self _)) 0 _ rfl).1
    by_cases hlt : q < L
    · obtain ⟨-, -, -, -, -, -, -, hfd⟩ := HP.out q (by rw [HL.out]; exact hlt)
      obtain ⟨b, o, rfl, hb, c0, c1, c2, -⟩ := (HP.out.below (hBw.out.mono (Nat.le_succ _))) q (by rw [HL.out]; exact hlt)
      dsimp only at c2 hfd
      have hfew := HF.out q
      have hp1 := hpre.out
      rw [List.drop_eq_getElem_cons (show q < fs.length by rw [HL.out]; exact hlt), List.flatMap_cons] at hp1
      obtain ⟨fd, hfdq⟩ : ∃ fd, fdAt fs q = fd := ⟨_, rfl⟩
      have hfdq2 : fs[q]'(by rw [HL.out]; exact hlt) = fd := by rw [← hfdq]; simp [fdAt, show q < fs.length by rw [HL.out]; exact hlt]
      rw [hfdq2] at hp1
      rw [hfdq] at c2 hfd hfew
      clear hfdq hfdq2 hpre c0 c1
      obtain ⟨ar, vr, ba, bc, bl⟩ := fd
      dsimp only at c2 hfd hfew hp1
      obtain ⟨M, hM⟩ : ∃ M, bl.length = M := ⟨_, rfl⟩
      have hM20 : M ≤ 20 := by rw [← hM]; exact hfew.1
      rw [hM] at c2
      have HM := Lib.hid hM
      have HFB := Lib.hid (fun k => hfew.b k)
      dsimp only at HFB
      obtain ⟨rest, hrest⟩ : ∃ rest, (fs.drop (q + 1)).flatMap Fd.ins = rest := ⟨_, rfl⟩
      rw [hrest] at hp1
      have HREST := Lib.hid hrest
      have HP1 : Hid (all = pre ++ ((bl.drop 0).flatMap Blk.ins ++ rest)) := Lib.hid hp1
      have HFD := Lib.hid (show BlksIs g W ba bl from hfd)
      have HC2 := Lib.hid (show wr.cell? ⟨b, o + q * 3 + 2, none⟩ = some (.slice ba M bc) from c2)
      have HBB := Lib.hid (show b < g + 1 from Nat.lt_succ_of_lt hb)
      clear hM hfew hrest hp1 hfd hb
      have hqi : (q : Int) < (L : Int) := by omega
      obtain ⟨wo, rfl⟩ : ∃ wo : World, wo = wr := ⟨_, rfl⟩
      go_wp2
      clear p0 c2
      go_loopw [3, 5] (fun v i wi => ∃ (r : Nat) (pre : List Ins), r ≤ M ∧ i = .int .i64 r ∧ Hid (all = pre ++ ((bl.drop r).flatMap Blk.ins ++ rest)) ∧ Hid (wi.ownsRow (g + 1) 40 11 v pre.length (flat pre)) ∧ Hid (Below (g + 1) W wi) ∧ Hid (Below (g + 1) wo wi)) (fun _ i _ => M - (intOf i).toNat)
      case atStart => exact ⟨0, pre, Nat.zero_le _, rfl, HP1, hown, hBw, Below.refl _ _⟩
      case round =>
        obtain ⟨r, pre2, hr, rfl, hpre2, hown2, hBi, hBo⟩ := hrel
        have p0 := ((HX.out.below hBi.out (Nat.lt_succ_self _)) 0 _ rfl).1
        have c2 := (hBo.out.cell (p := ⟨b, o + q * 3 + 2, none⟩) HBB.out).trans HC2.out
        by_cases hrt : r < M
        · obtain ⟨b2, o2, rfl, hb2, d0, d1, d2, hbk⟩ := (BlksIs.below HFD.out (hBi.out.mono (Nat.le_succ _))) r (by rw [HM.out]; exact hrt)
          have hfewb := HFB.out r
          have hp2 := hpre2.out
          rw [List.drop_eq_getElem_cons (show r < bl.length by rw [HM.out]; exact hrt), List.flatMap_cons] at hp2
          obtain ⟨bk, hbkr⟩ : ∃ bk, blkAt bl r = bk := ⟨_, rfl⟩
          have hbk2 : bl[r]'(by rw [HM.out]; exact hrt) = bk := by rw [← hbkr]; simp [blkAt, show r < bl.length by rw [HM.out]; exact hrt]
          rw [hbk2] at hp2
          rw [hbkr] at d1 hbk hfewb
          clear hbkr hbk2 hpre2 d0 d2 hb2
          obtain ⟨lv, ca, cc, code, sa, sc, succ⟩ := bk
          dsimp only at d1 hbk hfewb
          have hp3 : all = (pre2 ++ code) ++ ((bl.drop (r + 1)).flatMap Blk.ins ++ rest) := by rw [hp2]; simp [Blk.ins]
          have HP3 := Lib.hid hp3
          have hle : (pre2 ++ code).length ≤ 6000 := by
            have := HIL.out
            rw [hp3, List.length_append] at this
            omega
          rw [List.length_append] at hle
          have HCD := Lib.hid hbk.1
          obtain ⟨C, hC⟩ : ∃ C, code.length = C := ⟨_, rfl⟩
          rw [hC] at d1 hle
          have HC := Lib.hid hC
          clear hC hp2 hp3 hbk hfewb
          have hri : (r : Int) < (M : Int) := by omega
          have h63 : pre2.length + C ≤ maxLen := by unfold maxLen; omega
          have hby : (pre2.length + C) * 88 ≤ 140737488355328 := by omega
          have HGS := Lib.hid (show g + 1 ≤ wr.heap.size by have := hBi.out.size; have := HGW.out; omega)
          by_cases hC0 : C = 0
          · subst hC0
            have hnil : code = [] := List.eq_nil_of_length_eq_zero HC.out
            have HNIL := Lib.hid hnil
            clear hnil
            go_wp2_with (at_builtin; refine wpList_append_zero rfl _ _ 32 rfl (g + 1) 40 i0 11 Tryz.underlying32 hi _ _ _ rfl hown2.out _ _ rfl ?_)
            go_roundw
            case rel => exact ⟨r + 1, pre2, by omega, by go_num, Lib.hid (by have := HP3.out; rw [HNIL.out, List.append_nil] at this; exact this), hown2, hBi, hBo⟩
            case measure => simp [intOf]; omega
          · obtain ⟨cb, co, hca, -⟩ := HCD.out 0 (by rw [HC.out]; omega)
            subst hca
            go_wp2_with (at_builtin; refine wpList_append_own _ rfl _ _ 32 rfl (g + 1) 40 i0 _ 11 88 Tryz.underlying32 hi hz0 hz1 hz2 rfl (by decide) _ _ _ rfl hown2.out ⟨cb, co, none⟩ C cc (flat code) rfl (by rw [flat_length, HC.out]) HCD.out.src (flat_one _) h63 hby HGS.out ?_; intro v' w4 hown' hgrow _; have HO4 := Lib.hid hown'; have HB4 := Lib.hid (owns_grown hBi.out hown2.out hgrow HGS.out); have HB5 := Lib.hid (owns_grown hBo.out hown2.out hgrow HGS.out); clear hown' hgrow)
            go_roundw
            case rel =>
              refine ⟨r + 1, pre2 ++ code, by omega, by go_num, HP3, ?_, HB4, HB5⟩
              rw [List.length_append, flat_append, HC.out]
              exact HO4
            case measure => simp [intOf]; omega
        · obtain rfl : r = M := by omega
          have hp := hpre2.out
          rw [List.drop_of_length_le (by rw [HM.out]; exact Nat.le_refl _)] at hp
          have HPP := Lib.hid hp
          clear hp hpre2
          go_wp2
          go_roundw
          case rel => exact ⟨q + 1, pre2, by omega, by go_num, Lib.hid (by rw [HREST.out]; simpa using HPP.out), hown2, hBi⟩
          case measure => simp [intOf]; omega
    · obtain rfl : q = L := by omega
      have hp := hpre.out
      rw [List.drop_of_length_le (by rw [HL.out]; exact Nat.le_refl _)] at hp
      have hall2 : all = pre := by simpa using hp
      have HPP := Lib.hid hall2
      clear hp hpre hall2
      go_wp2
      go_ret
      refine ⟨_, rfl, ?_, HB1.out.trans (hBw.out.mono (Nat.le_succ _))⟩
      rw [HPP.out]
      exact owns_base hown.out (Nat.le_succ _)
end Go.Proofs.YtbddjneinfkmpaaGreatDoor
