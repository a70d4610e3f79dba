/- InstrSets: the law's walk. -/
import Derived.Deep.RegionHeld3
import Derived.Test.YtmcbedlmgffckaaDoorRfF
import Derived.Test.YtmcbedlmgffckaaDoorBiG2
import Derived.Test.YtmcbedlmgffckaaDoorNli
namespace Go.Proofs.YtmcbedlmgffckaaDoor.Bi
open Go Go.RowKit Go.Sort

theorem theirs5_any (n : Int) (a : Option Addr) (len cap : Nat) (w : World) :
    Calls Tryd.prog 22 #[.agg #[.int .i64 n, .slice a len cap]] w fun e w' => e = .returned (.agg #[.int .i64 n, .slice a len cap]) ∧ Below w.heap.size w w' := by
  go_enter Tryd.func22, Tryd.ntmps22
  go_wp2
  exact bodyPost_ret (v := .agg #[.int .i64 n, .slice a len cap]) (by simp [results, Tryd.results22, go_sem]) rfl ⟨rfl, ((Below.refl _ _).alloc (Nat.le_refl _) _).alloc (by simp) _⟩
/-- Two sets that were handed out, as far as they are. -/
def Led (W : World) (p q : Option (Option Addr × List Nat)) : Prop := (∀ a ws, p = some (a, ws) → Wd W.heap.size W a ws) ∧ (∀ a ws, q = some (a, ws) → Wd W.heap.size W a ws)
theorem Led.none (W : World) : Led W .none .none := ⟨(fun _ _ h => by cases h), (fun _ _ h => by cases h)⟩
theorem Led.below {W W' : World} {p q : Option (Option Addr × List Nat)} (h : Led W p q) (hb : Below W.heap.size W W') : Led W' p q :=
  ⟨fun a ws e => ((h.1 a ws e).below hb).mono hb.size, fun a ws e => ((h.2 a ws e).below hb).mono hb.size⟩
theorem Led.setp {W : World} {p q : Option (Option Addr × List Nat)} (h : Led W p q) {a : Option Addr} {ws : List Nat} (hw : Wd W.heap.size W a ws) : Led W (some (a, ws)) q :=
  ⟨fun a' ws' e => by cases e; exact hw, h.2⟩
theorem Led.setq {W : World} {p q : Option (Option Addr × List Nat)} (h : Led W p q) {a : Option Addr} {ws : List Nat} (hw : Wd W.heap.size W a ws) : Led W p (some (a, ws)) :=
  ⟨h.1, fun a' ws' e => by cases e; exact hw⟩
theorem EqualK {n : Int} {a1 a2 : Option Addr} {ws : List Nat} {K c1 c2 : Nat} {W : World} (hK : ws.length = K) (hl : ws.length ≤ 30) (h : Led W (some (a1, ws)) (some (a2, ws))) :
    Calls Tryd.prog 21 #[.agg #[.int .i64 n, .slice a1 K c1], .agg #[.int .i64 n, .slice a2 K c2]] W fun e w' => e = .returned (.bool true) ∧ Below W.heap.size W w' := by
  subst hK
  have e := Equal_ref n n a1 a2 ws ws c1 c2 W (h.1 _ _ rfl) (h.2 _ _ rfl) hl
  simpa using e

set_option maxRecDepth 100000 in
set_option maxHeartbeats 32000000 in
theorem sets_law (r : Int) (a0 : Option Addr) (cap0 : Nat) (rs : List Nat) (i : Ins) (ai : Option Addr) (ids : List Int) (capi : Nat) (w : World) (hIs : Is w.heap.size w ai ids) (hWd : Wd w.heap.size w a0 rs) (hWB : WB rs) (hT : KTab w) :
    Calls Tryd.prog 4 #[.agg #[.int .i64 r, .slice a0 rs.length cap0], i.val, .slice ai ids.length capi] w fun e w' => e = .returned (.bool true) ∧ Below w.heap.size w w' := by
  obtain ⟨len, hlen⟩ : ∃ len, rs.length = len := ⟨_, rfl⟩
  obtain ⟨T, hTl⟩ : ∃ T, ids.length = T := ⟨_, rfl⟩
  have HT0 := Lib.hid hT
  have hb2 := below2 w (.cells #[.int .i64 r, .slice a0 len cap0] 35) (.cells i.cells.toArray 24)
  have BS := (Box.new w (.int .i64 r) (.slice a0 len cap0) 35).alloc (.cells i.cells.toArray 24)
  have BI := BoxL.new (w.alloc (.cells #[.int .i64 r, .slice a0 len cap0] 35)) i.cells 24
  simp only [World.size_alloc] at BI
  have HRE := Lib.hid (fun r a0 len cap0 n ws T capi W ha hIs hTl hTm hT K hK => Reach_any r a0 len cap0 n ws i ai ids T capi W ha hIs hTl hTm hT K hK _ rfl)
  have HRR := Lib.hid (fun r a0 len cap0 n ws T capi W ha hIs hTl hTm K hK => rReach_any r a0 len cap0 n ws i ai ids T capi W ha hIs hTl hTm K hK _ rfl)
  have HLV := Lib.hid (fun r a0 len cap0 n ws W ha hT K hK => Live_any r a0 len cap0 n ws i W ha hT K hK _ rfl)
  have HRL := Lib.hid (fun r a0 len cap0 n ws W ha K hK => rLive_any r a0 len cap0 n ws i W ha K hK _ rfl)
  have HO1 : Hid (∀ n ws, Ok n ws → Ok n (reachW n ws i ids)) := fun n ws h => h.reach i ids
  have HO2 : Hid (∀ n ws, Ok n ws → Ok n (liveW n ws i)) := fun n ws h => h.live i
  obtain ⟨rv, hrv⟩ : ∃ rv : Nat → List Nat → List Nat, (fun n ws => reachW n ws i ids) = rv := ⟨_, rfl⟩
  have hrv' : ∀ n ws, reachW n ws i ids = rv n ws := fun n ws => congrFun (congrFun hrv n) ws
  obtain ⟨lv, hlv⟩ : ∃ lv : Nat → List Nat → List Nat, (fun n ws => liveW n ws i) = lv := ⟨_, rfl⟩
  have hlv' : ∀ n ws, liveW n ws i = lv n ws := fun n ws => congrFun (congrFun hlv n) ws
  simp only [hrv'] at HRE HRR HO1
  simp only [hlv'] at HLV HRL HO2
  clear hrv hrv' hlv hlv'
  obtain ⟨id, kind, dst, a, b, c, f, n', x0, x1, x2⟩ := i
  unfold Ins.val at *
  unfold Ins.cells at *
  dsimp only at *
  rw [hlen, hTl]
  generalize hE : (w.alloc (.cells #[.int .i64 r, .slice a0 len cap0] 35)).alloc (.cells (List.toArray [.int .i64 id, .int .i64 kind, .int .i64 dst, .int .i64 a, .int .i64 b, .int .i64 c, .int .i64 f, .int .i64 n', .int .i64 x0, .int .i64 x1, .int .i64 x2]) 24) = W at *
  have hE' : (w.alloc (.cells #[.int .i64 r, .slice a0 len cap0] 35)).alloc (.cells #[.int .i64 id, .int .i64 kind, .int .i64 dst, .int .i64 a, .int .i64 b, .int .i64 c, .int .i64 f, .int .i64 n', .int .i64 x0, .int .i64 x1, .int .i64 x2] 24) = W := hE
  have HW := Lib.hid hb2
  have HS := Lib.hid BS
  have HI := Lib.hid BI
  have HLEN := Lib.hid hlen
  have HTL := Lib.hid hTl
  have HIS := Lib.hid hIs
  have HWD := Lib.hid hWd
  clear hE hWd hT hb2 BS BI hlen hTl hIs
  go_enter Tryd.func4, Tryd.ntmps4
  go_wp2_with fail
  try rw [hE']
  clear hE'
  refine (awake5_any _ (HT0.out.on HW.out)).mono ?_
  rintro e w1 ⟨rfl, hb1⟩
  have HS1 := Lib.hid (HS.out.below hb1 HS.out.lt)
  have HI1 := Lib.hid (HI.out.below hb1 (HI.out.lt (Nat.zero_lt_succ _)))
  have HW1 := Lib.hid (HW.out.trans (hb1.mono HW.out.size))
  clear hb1 HS HI HW
  obtain ⟨s0, s1, -, -⟩ := HS1.out
  by_cases hl20 : 20 < len
  · have hl20i : (20 : Int) < (len : Int) := by omega
    go_wp2_with fail
    go_ret
    exact ⟨rfl, HW1.out⟩
  have hl20i : (len : Int) ≤ 20 := by omega
  by_cases hT100 : 100 < T
  · have hT100i : (100 : Int) < (T : Int) := by omega
    go_wp2_with fail
    go_ret
    exact ⟨rfl, HW1.out⟩
  have hT100i : (T : Int) ≤ 100 := by omega
  go_wp2_with fail
  clear s0 s1
  have HA1 := Lib.hid (Acts.raw (W := w1) (v := .agg #[.int .i64 r, .slice a0 len cap0]) (r := r) (rs := rs) ⟨a0, cap0, by rw [HLEN.out], (HWD.out.below HW1.out).mono HW1.out.size⟩ (by rw [HLEN.out]; omega) hWB)
  have HOK := Lib.hid HA1.out.ok
  generalize nrm r rs = n at *
  generalize nrmW r rs = ws at *
  obtain ⟨K, hK⟩ : ∃ K, ws.length = K := ⟨_, rfl⟩
  have HK := Lib.hid hK
  have HK1 : Hid ((rv n ws).length = K) := by show _ = _; rw [(HO1.out _ _ HOK.out).len, ← HOK.out.len]; exact hK
  have HK2 : Hid ((lv n ws).length = K) := by show _ = _; rw [(HO2.out _ _ HOK.out).len, ← HOK.out.len]; exact hK
  have HK30 : Hid (K ≤ 30) := by show _ ≤ _; rw [← hK]; have := HOK.out.len16; omega
  have F1 := Lib.hid (fun W (hb : Below w1.heap.size w1 W) => HRE.out r a0 len cap0 n ws T capi W (HA1.out.below hb) (((HIS.out.below HW1.out).mono HW1.out.size |>.below hb).mono hb.size) HTL.out (by omega) (HT0.out.on (HW1.out.trans (hb.mono HW1.out.size))) K HK.out)
  have F2 := Lib.hid (fun W (hb : Below w1.heap.size w1 W) => HRR.out r a0 len cap0 n ws T capi W (HA1.out.below hb) (((HIS.out.below HW1.out).mono HW1.out.size |>.below hb).mono hb.size) HTL.out (by omega) K HK.out)
  have F3 := Lib.hid (fun W (hb : Below w1.heap.size w1 W) => HLV.out r a0 len cap0 n ws W (HA1.out.below hb) (HT0.out.on (HW1.out.trans (hb.mono HW1.out.size))) K HK.out)
  have F4 := Lib.hid (fun W (hb : Below w1.heap.size w1 W) => HRL.out r a0 len cap0 n ws W (HA1.out.below hb) K HK.out)
  clear hK HRE HRR HLV HRL HO1 HO2 HIS HTL HWD HLEN hWB hl20 hT100 hl20i hT100i
  generalize rv n ws = js at *
  generalize lv n ws = ks at *
  have hS : Hid (∀ w', Below w1.heap.size w1 w' → w'.cell? ⟨w.heap.size, 0, none⟩ = some (.int .i64 r) ∧ w'.cell? ⟨w.heap.size, 1, none⟩ = some (.slice a0 len cap0) ∧ w'.cell? ⟨w.heap.size + 1, 0, none⟩ = some (.int .i64 id) ∧ w'.cell? ⟨w.heap.size + 1, 1, none⟩ = some (.int .i64 kind) ∧ w'.cell? ⟨w.heap.size + 1, 2, none⟩ = some (.int .i64 dst) ∧ w'.cell? ⟨w.heap.size + 1, 3, none⟩ = some (.int .i64 a) ∧ w'.cell? ⟨w.heap.size + 1, 4, none⟩ = some (.int .i64 b) ∧ w'.cell? ⟨w.heap.size + 1, 5, none⟩ = some (.int .i64 c) ∧ w'.cell? ⟨w.heap.size + 1, 6, none⟩ = some (.int .i64 f) ∧ w'.cell? ⟨w.heap.size + 1, 7, none⟩ = some (.int .i64 n') ∧ w'.cell? ⟨w.heap.size + 1, 8, none⟩ = some (.int .i64 x0) ∧ w'.cell? ⟨w.heap.size + 1, 9, none⟩ = some (.int .i64 x1) ∧ w'.cell? ⟨w.heap.size + 1, 10, none⟩ = some (.int .i64 x2)) := fun w' hb' => ⟨(HS1.out.below hb' HS1.out.lt).c0, (HS1.out.below hb' HS1.out.lt).c1, ((HI1.out.below hb' (HI1.out.lt (Nat.zero_lt_succ _))) 0 _ rfl).1, ((HI1.out.below hb' (HI1.out.lt (Nat.zero_lt_succ _))) 1 _ rfl).1, ((HI1.out.below hb' (HI1.out.lt (Nat.zero_lt_succ _))) 2 _ rfl).1, ((HI1.out.below hb' (HI1.out.lt (Nat.zero_lt_succ _))) 3 _ rfl).1, ((HI1.out.below hb' (HI1.out.lt (Nat.zero_lt_succ _))) 4 _ rfl).1, ((HI1.out.below hb' (HI1.out.lt (Nat.zero_lt_succ _))) 5 _ rfl).1, ((HI1.out.below hb' (HI1.out.lt (Nat.zero_lt_succ _))) 6 _ rfl).1, ((HI1.out.below hb' (HI1.out.lt (Nat.zero_lt_succ _))) 7 _ rfl).1, ((HI1.out.below hb' (HI1.out.lt (Nat.zero_lt_succ _))) 8 _ rfl).1, ((HI1.out.below hb' (HI1.out.lt (Nat.zero_lt_succ _))) 9 _ rfl).1, ((HI1.out.below hb' (HI1.out.lt (Nat.zero_lt_succ _))) 10 _ rfl).1⟩
  have HBN : Hid (Below w1.heap.size w1 w1.drew) := (Below.refl _ _).drew
  have HLD := Lib.hid (Led.none w1.drew)
  have tok1 : True := trivial
  have tok2 : True := trivial
  go_region_held3 (fun w' => w'.cell? ⟨w.heap.size, 0, none⟩ = some (.int .i64 r) ∧ w'.cell? ⟨w.heap.size, 1, none⟩ = some (.slice a0 len cap0) ∧ w'.cell? ⟨w.heap.size + 1, 0, none⟩ = some (.int .i64 id) ∧ w'.cell? ⟨w.heap.size + 1, 1, none⟩ = some (.int .i64 kind) ∧ w'.cell? ⟨w.heap.size + 1, 2, none⟩ = some (.int .i64 dst) ∧ w'.cell? ⟨w.heap.size + 1, 3, none⟩ = some (.int .i64 a) ∧ w'.cell? ⟨w.heap.size + 1, 4, none⟩ = some (.int .i64 b) ∧ w'.cell? ⟨w.heap.size + 1, 5, none⟩ = some (.int .i64 c) ∧ w'.cell? ⟨w.heap.size + 1, 6, none⟩ = some (.int .i64 f) ∧ w'.cell? ⟨w.heap.size + 1, 7, none⟩ = some (.int .i64 n') ∧ w'.cell? ⟨w.heap.size + 1, 8, none⟩ = some (.int .i64 x0) ∧ w'.cell? ⟨w.heap.size + 1, 9, none⟩ = some (.int .i64 x1) ∧ w'.cell? ⟨w.heap.size + 1, 10, none⟩ = some (.int .i64 x2)) (first | exact hS.out _ HBN.out)
    (first
      | (go_at_call 24; refine (ours5_any _ _ _ _ _).mono ?_; rintro e wn ⟨rfl, hbn⟩; have HLx := Lib.hid (HLD.out.below hbn); clear HLD; have HLD := HLx; clear HLx; have hbx := HBN.out.trans (hbn.mono HBN.out.size); clear HBN hbn; have HBN := Lib.hid hbx; clear hbx)
      | (go_at_call 22; refine (theirs5_any _ _ _ _ _).mono ?_; rintro e wn ⟨rfl, hbn⟩; have HLx := Lib.hid (HLD.out.below hbn); clear HLD; have HLD := HLx; clear HLx; have hbx := HBN.out.trans (hbn.mono HBN.out.size); clear HBN hbn; have HBN := Lib.hid hbx; clear hbx)
      | (go_at_call 23; refine (F1.out _ HBN.out).mono ?_; rintro e wn ⟨a1, cap1, rfl, hF, hbn⟩; have HLx := Lib.hid ((HLD.out.below hbn).setp hF.wd); clear HLD hF; have HLD := HLx; clear HLx; have hbx := HBN.out.trans (hbn.mono HBN.out.size); clear HBN hbn; have HBN := Lib.hid hbx; clear hbx)
      | (go_at_call 25; refine (F2.out _ HBN.out).mono ?_; rintro e wn ⟨a2, cap2, rfl, hF, hbn⟩; have HLx := Lib.hid ((HLD.out.below hbn).setq hF.wd); clear HLD hF; have HLD := HLx; clear HLx; have hbx := HBN.out.trans (hbn.mono HBN.out.size); clear HBN hbn; have HBN := Lib.hid hbx; clear hbx)
      | (go_at_call 26; refine (F3.out _ HBN.out).mono ?_; rintro e wn ⟨a3, cap3, rfl, hF, hbn⟩; have HLx := Lib.hid ((HLD.out.below hbn).setp hF.wd); clear HLD hF; have HLD := HLx; clear HLx; have hbx := HBN.out.trans (hbn.mono HBN.out.size); clear HBN hbn; have HBN := Lib.hid hbx; clear hbx)
      | (go_at_call 27; refine (F4.out _ HBN.out).mono ?_; rintro e wn ⟨a4, cap4, rfl, hF, hbn⟩; have HLx := Lib.hid ((HLD.out.below hbn).setq hF.wd); clear HLD hF; have HLD := HLx; clear HLx; have hbx := HBN.out.trans (hbn.mono HBN.out.size); clear HBN hbn; have HBN := Lib.hid hbx; clear hbx)
      | (have _t := tok1; go_at_call 21; clear _t tok1; refine (EqualK (ws := js) HK1.out (by rw [HK1.out]; exact HK30.out) HLD.out).mono ?_; rintro e wn ⟨rfl, hbn⟩; have HLx := Lib.hid (HLD.out.below hbn); clear HLD; have HLD := HLx; clear HLx; have hbx := HBN.out.trans (hbn.mono HBN.out.size); clear HBN hbn; have HBN := Lib.hid hbx; clear hbx)
      | (have _t := tok2; go_at_call 21; clear _t tok2; refine (EqualK (ws := ks) HK2.out (by rw [HK2.out]; exact HK30.out) HLD.out).mono ?_; rintro e wn ⟨rfl, hbn⟩; have HLx := Lib.hid (HLD.out.below hbn); clear HLD; have HLD := HLx; clear HLx; have hbx := HBN.out.trans (hbn.mono HBN.out.size); clear HBN hbn; have HBN := Lib.hid hbx; clear hbx))
  all_goals
    go_wp2_with fail
    go_ret
    exact ⟨rfl, HW1.out.trans (HBN.out.mono HW1.out.size)⟩
end Go.Proofs.YtmcbedlmgffckaaDoor.Bi
