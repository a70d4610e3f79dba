/- InstrIs: the law's walk. -/
import Derived.Deep.RegionHeld3
import Derived.Test.YtmcbedlmgffckaaDoorInsJ
import Derived.Test.YtmcbedlmgffckaaDoorVarC
import Derived.Test.YtmcbedlmgffckaaDoorRfH
import Derived.Test.YtmcbedlmgffckaaDoorRfG
namespace Go.Proofs.YtmcbedlmgffckaaDoor.Bi
open Go Go.RowKit Go.Sort

theorem vars_le (i : Ins) : i.vars.length ≤ 6 := by
  have h := uses_le i
  unfold Ins.vars
  split
  · rw [sortL_length (addL_nodup (uses_nodup i) _)]; have := addL_length i.uses i.defn; omega
  · rw [sortL_length (uses_nodup i)]; omega
/-- Two slices of the same numbers are alike. -/
theorem Ints_same (a1 a2 : Option Addr) (l : List Int) (n c1 c2 : Nat) (w : World) (h1 : Is w.heap.size w a1 l) (h2 : Is w.heap.size w a2 l) (hn : l.length = n) (hl : n ≤ 2000) :
    Calls Tryd.prog 14 #[.slice a1 n c1, .slice a2 n c2] w fun e w' => e = .returned (.bool true) ∧ Below w.heap.size w w' := by
  subst hn
  have h := Ints_ref a1 a2 l l c1 c2 w h1 h2 hl
  rw [decide_eq_true rfl] at h
  exact h

set_option maxRecDepth 100000 in
set_option maxHeartbeats 16000000 in
theorem is_law (i : Ins) (k : Int) (w : World) (hT : KTab w) :
    Calls Tryd.prog 3 #[i.val, .int .i64 k] w fun e w' => e = .returned (.bool true) ∧ Below w.heap.size w w' := by
  obtain ⟨fm, hfm⟩ : ∃ fm, decide i.form = fm := ⟨_, rfl⟩
  obtain ⟨d, hd⟩ : ∃ d, i.defn = d := ⟨_, rfl⟩
  obtain ⟨us, hus⟩ : ∃ us, i.uses = us := ⟨_, rfl⟩
  obtain ⟨vs, hvs⟩ : ∃ vs, i.vars = vs := ⟨_, rfl⟩
  obtain ⟨nm, hnm⟩ : ∃ nm, nameB k = nm := ⟨_, rfl⟩
  have HF := Lib.hid (fun W (h : KTab W) => Form_any i W h fm hfm)
  have HF' := Lib.hid (fun W => rForm_any i W fm hfm)
  have HD := Lib.hid (fun W (h : KTab W) => Def_any i W h d hd)
  have HD' := Lib.hid (fun W => rDef_any i W d hd)
  have HU := Lib.hid (fun W (h : KTab W) => Uses_any i W h)
  have HU' := Lib.hid (fun W => rUses_any i W)
  have HV := Lib.hid (fun W (h : KTab W) => Vars_any i W h vs hvs)
  have HV' := Lib.hid (fun W => rVars_any i W vs hvs)
  have HN := Lib.hid (fun W (h : KTab W) => Name_any k W h)
  have HN' := Lib.hid (fun W => rName_any k W nm hnm)
  obtain ⟨lu, hlu⟩ : ∃ lu, us.length = lu := ⟨_, rfl⟩
  obtain ⟨lv, hlv⟩ : ∃ lv, vs.length = lv := ⟨_, rfl⟩
  have hlu5 : lu ≤ 5 := by rw [← hlu, ← hus]; exact uses_le i
  have hlv6 : lv ≤ 6 := by rw [← hlv, ← hvs]; exact vars_le i
  rw [hus, hlu] at HU HU'
  rw [hlv] at HV HV'
  rw [hnm] at HN
  have HLU := Lib.hid hlu
  have HLV := Lib.hid hlv
  have HW := Lib.hid (below1 w (.cells i.cells.toArray 24))
  have HB := Lib.hid (BoxL.new w i.cells 24)
  have HT := Lib.hid hT
  clear hT hfm hd hus hvs hnm hlu hlv
  obtain ⟨id, kind, dst, a, b, c, f, n, x0, x1, x2⟩ := i
  have hq0 : (fm == fm) = true := by simp
  have hq1 : (d == d) = true := by simp
  unfold Ins.val at *
  unfold Ins.cells at HB HW
  dsimp only at *
  generalize hE : w.alloc (.cells (List.toArray [.int .i64 id, .int .i64 kind, .int .i64 dst, .int .i64 a, .int .i64 b, .int .i64 c, .int .i64 f, .int .i64 n, .int .i64 x0, .int .i64 x1, .int .i64 x2]) 24) = W at HB HW
  have hE' : w.alloc (.cells #[.int .i64 id, .int .i64 kind, .int .i64 dst, .int .i64 a, .int .i64 b, .int .i64 c, .int .i64 f, .int .i64 n, .int .i64 x0, .int .i64 x1, .int .i64 x2] 24) = W := hE
  clear hE
  obtain ⟨g, hg⟩ : ∃ g, w.heap.size = g := ⟨_, rfl⟩
  rw [hg] at HB
  have HG := Lib.hid (HB.out.lt (Nat.zero_lt_succ _))
  go_enter Tryd.func3, Tryd.ntmps3
  go_wp2_with fail
  try rw [hE']
  clear hE'
  refine (awake5_any _ (HT.out.on HW.out)).mono ?_
  rintro e w1 ⟨rfl, hb1⟩
  have HB1 := Lib.hid (HB.out.below hb1 (HB.out.lt (Nat.zero_lt_succ _)))
  have HW1 := Lib.hid (HW.out.trans (hb1.mono HW.out.size))
  clear HB HW hb1 HG
  have HB := HB1
  have HW := HW1
  clear HB1 HW1
  go_upto_region 2 with fail
  have hS : Hid (∀ w', Below w1.heap.size w1 w' → w'.cell? ⟨g, 0, none⟩ = some (.int .i64 id) ∧ w'.cell? ⟨g, 1, none⟩ = some (.int .i64 kind) ∧ w'.cell? ⟨g, 2, none⟩ = some (.int .i64 dst) ∧ w'.cell? ⟨g, 3, none⟩ = some (.int .i64 a) ∧ w'.cell? ⟨g, 4, none⟩ = some (.int .i64 b) ∧ w'.cell? ⟨g, 5, none⟩ = some (.int .i64 c) ∧ w'.cell? ⟨g, 6, none⟩ = some (.int .i64 f) ∧ w'.cell? ⟨g, 7, none⟩ = some (.int .i64 n) ∧ w'.cell? ⟨g, 8, none⟩ = some (.int .i64 x0) ∧ w'.cell? ⟨g, 9, none⟩ = some (.int .i64 x1) ∧ w'.cell? ⟨g, 10, none⟩ = some (.int .i64 x2)) := fun w' hb' => ⟨((HB.out.below hb' (HB.out.lt (Nat.zero_lt_succ _))) 0 _ rfl).1, ((HB.out.below hb' (HB.out.lt (Nat.zero_lt_succ _))) 1 _ rfl).1, ((HB.out.below hb' (HB.out.lt (Nat.zero_lt_succ _))) 2 _ rfl).1, ((HB.out.below hb' (HB.out.lt (Nat.zero_lt_succ _))) 3 _ rfl).1, ((HB.out.below hb' (HB.out.lt (Nat.zero_lt_succ _))) 4 _ rfl).1, ((HB.out.below hb' (HB.out.lt (Nat.zero_lt_succ _))) 5 _ rfl).1, ((HB.out.below hb' (HB.out.lt (Nat.zero_lt_succ _))) 6 _ rfl).1, ((HB.out.below hb' (HB.out.lt (Nat.zero_lt_succ _))) 7 _ rfl).1, ((HB.out.below hb' (HB.out.lt (Nat.zero_lt_succ _))) 8 _ rfl).1, ((HB.out.below hb' (HB.out.lt (Nat.zero_lt_succ _))) 9 _ rfl).1, ((HB.out.below hb' (HB.out.lt (Nat.zero_lt_succ _))) 10 _ rfl).1⟩
  have HBN : Hid (Below w1.heap.size w1 w1.drew) := (Below.refl _ _).drew
  go_region_held3 (fun w' => w'.cell? ⟨g, 0, none⟩ = some (.int .i64 id) ∧ w'.cell? ⟨g, 1, none⟩ = some (.int .i64 kind) ∧ w'.cell? ⟨g, 2, none⟩ = some (.int .i64 dst) ∧ w'.cell? ⟨g, 3, none⟩ = some (.int .i64 a) ∧ w'.cell? ⟨g, 4, none⟩ = some (.int .i64 b) ∧ w'.cell? ⟨g, 5, none⟩ = some (.int .i64 c) ∧ w'.cell? ⟨g, 6, none⟩ = some (.int .i64 f) ∧ w'.cell? ⟨g, 7, none⟩ = some (.int .i64 n) ∧ w'.cell? ⟨g, 8, none⟩ = some (.int .i64 x0) ∧ w'.cell? ⟨g, 9, none⟩ = some (.int .i64 x1) ∧ w'.cell? ⟨g, 10, none⟩ = some (.int .i64 x2)) (first | exact hS.out _ HBN.out)
    (first
      | (go_at_call 10; refine (HF.out _ (HT.out.on (HW.out.trans (HBN.out.mono HW.out.size)))).mono ?_; rintro e wn ⟨rfl, hbn⟩; have hbx := HBN.out.trans (hbn.mono HBN.out.size); clear HBN; have HBN := Lib.hid hbx; clear hbx; clear hbn)
      | (go_at_call 11; refine (HF'.out _).mono ?_; rintro e wn ⟨rfl, hbn⟩; have hbx := HBN.out.trans (hbn.mono HBN.out.size); clear HBN; have HBN := Lib.hid hbx; clear hbx; clear hbn)
      | (go_at_call 12; refine (HD.out _ (HT.out.on (HW.out.trans (HBN.out.mono HW.out.size)))).mono ?_; rintro e wn ⟨rfl, hbn⟩; have hbx := HBN.out.trans (hbn.mono HBN.out.size); clear HBN; have HBN := Lib.hid hbx; clear hbx; clear hbn)
      | (go_at_call 13; refine (HD'.out _).mono ?_; rintro e wn ⟨rfl, hbn⟩; have hbx := HBN.out.trans (hbn.mono HBN.out.size); clear HBN; have HBN := Lib.hid hbx; clear hbx; clear hbn)
      | (go_at_call 15; refine (HU.out _ (HT.out.on (HW.out.trans (HBN.out.mono HW.out.size)))).mono ?_; rintro e wn ⟨u, rfl, hou, hbn⟩; have hbx := HBN.out.trans (hbn.mono HBN.out.size); clear HBN; have HBN := Lib.hid hbx; clear hbx; obtain ⟨au, cu, rfl, -, hI⟩ := is_of_ints hou; have HIu := Lib.hid hI; clear hou hI hbn)
      | (go_at_call 16; refine (HU'.out _).mono ?_; rintro e wn ⟨u, rfl, hou, hbn⟩; have hbx := HBN.out.trans (hbn.mono HBN.out.size); clear HBN; have HBN := Lib.hid hbx; clear hbx; obtain ⟨av, cv, rfl, -, hI⟩ := is_of_ints hou; have HIv := Lib.hid hI; have HIx := Lib.hid ((HIu.out.below hbn).mono hbn.size); clear HIu hou hI hbn; have HIu := HIx; clear HIx)
      | (go_at_call 14; refine (Ints_same _ _ us lu _ _ _ HIu.out HIv.out HLU.out (by omega)).mono ?_; rintro e wn ⟨rfl, hbn⟩; have hbx := HBN.out.trans (hbn.mono HBN.out.size); clear HBN; have HBN := Lib.hid hbx; clear hbx; clear hbn HIu HIv)
      | (go_at_call 17; refine (HV.out _ (HT.out.on (HW.out.trans (HBN.out.mono HW.out.size)))).mono ?_; rintro e wn ⟨u, rfl, hou, hbn⟩; have hbx := HBN.out.trans (hbn.mono HBN.out.size); clear HBN; have HBN := Lib.hid hbx; clear hbx; obtain ⟨ap, cp, rfl, -, hI⟩ := is_of_ints hou; have HIp := Lib.hid hI; clear hou hI hbn)
      | (go_at_call 18; refine (HV'.out _).mono ?_; rintro e wn ⟨u, rfl, hou, hbn⟩; have hbx := HBN.out.trans (hbn.mono HBN.out.size); clear HBN; have HBN := Lib.hid hbx; clear hbx; obtain ⟨aq, cq, rfl, -, hI⟩ := is_of_ints hou; have HIq := Lib.hid hI; have HIx := Lib.hid ((HIp.out.below hbn).mono hbn.size); clear HIp hou hI hbn; have HIp := HIx; clear HIx)
      | (go_at_call 14; refine (Ints_same _ _ vs lv _ _ _ HIp.out HIq.out HLV.out (by omega)).mono ?_; rintro e wn ⟨rfl, hbn⟩; have hbx := HBN.out.trans (hbn.mono HBN.out.size); clear HBN; have HBN := Lib.hid hbx; clear hbx; clear hbn HIp HIq)
      | (go_at_call 19; refine (HN.out _ (HT.out.on (HW.out.trans (HBN.out.mono HW.out.size)))).mono ?_; rintro e wn ⟨rfl, hbn⟩; have hbx := HBN.out.trans (hbn.mono HBN.out.size); clear HBN; have HBN := Lib.hid hbx; clear hbx; clear hbn)
      | (go_at_call 20; refine (HN'.out _).mono ?_; rintro e wn ⟨rfl, hbn⟩; have hbx := HBN.out.trans (hbn.mono HBN.out.size); clear HBN; have HBN := Lib.hid hbx; clear hbx; clear hbn))
  all_goals
    go_wp2_with fail
    go_ret
    exact ⟨rfl, HW.out.trans (HBN.out.mono HW.out.size)⟩
end Go.Proofs.YtmcbedlmgffckaaDoor.Bi
