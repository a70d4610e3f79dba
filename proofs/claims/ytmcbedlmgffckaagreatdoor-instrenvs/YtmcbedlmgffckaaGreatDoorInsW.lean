/- Instructions: Flat. -/
import Derived.Deep.RegionHeld3
import Derived.Test.YtmcbedlmgffckaaGreatDoorInsU
namespace Go.Proofs.YtmcbedlmgffckaaGreatDoor
open Go Go.RowKit Go.Sort

set_option maxRecDepth 100000 in
set_option maxHeartbeats 16000000 in
theorem Flat_any (on : Bool) (a : Option Addr) (n cap : Nat) (l : List V) (i : Ins) (w : World) (h : FE w a n l) (hn : n ≤ 200) (hK : KTab w) (m : Nat) (hm : szG on l = m) (l' : List V) (hl' : flatI on l i = l') :
    Calls Tryz.prog 7 #[.agg #[.bool on, .slice a n cap], i.val] w fun e w' => ∃ a' cap', e = .returned (.agg #[.bool on, .slice a' m cap']) ∧ FE w' a' m l' ∧ Below w.heap.size w w' := by
  have hb3 := below3 w (.cells #[.bool on, .slice a n cap] 36) (.cells i.cells.toArray 30) (.cells #[.bool false, .slice none 0 0] 36)
  have BE := ((Box.new w (.bool on) (.slice a n cap) 36).alloc (.cells i.cells.toArray 30)).alloc (.cells #[.bool false, .slice none 0 0] 36)
  have BI := (BoxL.new (w.alloc (.cells #[.bool on, .slice a n cap] 36)) i.cells 30).alloc (Nat.zero_lt_succ _) (.cells #[.bool false, .slice none 0 0] 36)
  have BR := Box.new ((w.alloc (.cells #[.bool on, .slice a n cap] 36)).alloc (.cells i.cells.toArray 30)) (.bool false) (.slice none 0 0) 36
  have hsz : (((w.alloc (.cells #[.bool on, .slice a n cap] 36)).alloc (.cells i.cells.toArray 30)).alloc (.cells #[.bool false, .slice none 0 0] 36)).heap.size = w.heap.size + 3 := by simp
  simp only [World.size_alloc] at BI BR
  have HE := Lib.hid (h.below hb3)
  have HK := Lib.hid (hK.on hb3)
  have HD := Lib.hid (fun W (h : KTab W) => Def_any i W h _ rfl)
  have HG := Lib.hid (fun W (h : FE W a n l) => numberOf_any on a n cap l i W h _ rfl)
  have HL : Hid (setF on l i.defn (valF on l i) = l') := (setF_val on l i).trans hl'
  obtain ⟨⟨vx, vy⟩, hvv⟩ : ∃ v, valF on l i = v := ⟨_, rfl⟩
  rw [hvv] at HL HG
  unfold V.val at HG
  dsimp only at HG
  clear hvv
  generalize i.defn = d at *
  obtain ⟨id, kind, dst, va, vb, c, f, n', x0, x1, x2⟩ := i
  unfold Ins.val at *
  unfold Ins.cells at *
  dsimp only at *
  generalize hE : ((w.alloc (.cells #[.bool on, .slice a n cap] 36)).alloc (.cells (List.toArray [.int .i64 id, .int .i64 kind, .int .i64 dst, .int .i64 va, .int .i64 vb, .int .i64 c, .int .i64 f, .int .i64 n', .int .i64 x0, .int .i64 x1, .int .i64 x2]) 30)).alloc (.cells #[.bool false, .slice none 0 0] 36) = W at *
  have hE' : ((w.alloc (.cells #[.bool on, .slice a n cap] 36)).alloc (.cells #[.int .i64 id, .int .i64 kind, .int .i64 dst, .int .i64 va, .int .i64 vb, .int .i64 c, .int .i64 f, .int .i64 n', .int .i64 x0, .int .i64 x1, .int .i64 x2] 30)).alloc (.cells #[.bool false, .slice none 0 0] 36) = W := hE
  have HW := Lib.hid hb3
  have HBE := Lib.hid BE
  have HBI := Lib.hid BI
  have HBR := Lib.hid BR
  have HM := Lib.hid hm
  have HZ := Lib.hid hsz
  clear hE hb3 BE BI BR h hK hl' hm hsz
  go_enter Tryz.func7, Tryz.ntmps7
  go_wp2_with fail
  try rw [hE']
  clear hE'
  have hS : Hid (∀ w', Below W.heap.size W w' → w'.cell? ⟨w.heap.size, 0, none⟩ = some (.bool on) ∧ w'.cell? ⟨w.heap.size, 1, none⟩ = some (.slice a n cap) ∧ w'.cell? ⟨w.heap.size + 1, 0, none⟩ = some (.int .i64 id) ∧ w'.cell? ⟨w.heap.size + 1, 1, none⟩ = some (.int .i64 kind) ∧ w'.cell? ⟨w.heap.size + 1, 2, none⟩ = some (.int .i64 dst) ∧ w'.cell? ⟨w.heap.size + 1, 3, none⟩ = some (.int .i64 va) ∧ w'.cell? ⟨w.heap.size + 1, 4, none⟩ = some (.int .i64 vb) ∧ w'.cell? ⟨w.heap.size + 1, 5, none⟩ = some (.int .i64 c) ∧ w'.cell? ⟨w.heap.size + 1, 6, none⟩ = some (.int .i64 f) ∧ w'.cell? ⟨w.heap.size + 1, 7, none⟩ = some (.int .i64 n') ∧ w'.cell? ⟨w.heap.size + 1, 8, none⟩ = some (.int .i64 x0) ∧ w'.cell? ⟨w.heap.size + 1, 9, none⟩ = some (.int .i64 x1) ∧ w'.cell? ⟨w.heap.size + 1, 10, none⟩ = some (.int .i64 x2)) := fun w' hb' => ⟨(HBE.out.below hb' HBE.out.lt).c0, (HBE.out.below hb' HBE.out.lt).c1, ((HBI.out.below hb' (HBI.out.lt (Nat.zero_lt_succ _))) 0 _ rfl).1, ((HBI.out.below hb' (HBI.out.lt (Nat.zero_lt_succ _))) 1 _ rfl).1, ((HBI.out.below hb' (HBI.out.lt (Nat.zero_lt_succ _))) 2 _ rfl).1, ((HBI.out.below hb' (HBI.out.lt (Nat.zero_lt_succ _))) 3 _ rfl).1, ((HBI.out.below hb' (HBI.out.lt (Nat.zero_lt_succ _))) 4 _ rfl).1, ((HBI.out.below hb' (HBI.out.lt (Nat.zero_lt_succ _))) 5 _ rfl).1, ((HBI.out.below hb' (HBI.out.lt (Nat.zero_lt_succ _))) 6 _ rfl).1, ((HBI.out.below hb' (HBI.out.lt (Nat.zero_lt_succ _))) 7 _ rfl).1, ((HBI.out.below hb' (HBI.out.lt (Nat.zero_lt_succ _))) 8 _ rfl).1, ((HBI.out.below hb' (HBI.out.lt (Nat.zero_lt_succ _))) 9 _ rfl).1, ((HBI.out.below hb' (HBI.out.lt (Nat.zero_lt_succ _))) 10 _ rfl).1⟩
  have HBN : Hid (Below W.heap.size W W.drew) := (Below.refl _ _).drew
  have hS2 : Hid (∀ w' x y, Below W.heap.size W w' → ((w'.setCell ⟨w.heap.size + 1 + 1, 0, none⟩ x).setCell ⟨w.heap.size + 1 + 1, 1, none⟩ y).cell? ⟨w.heap.size, 0, none⟩ = some (.bool on) ∧ ((w'.setCell ⟨w.heap.size + 1 + 1, 0, none⟩ x).setCell ⟨w.heap.size + 1 + 1, 1, none⟩ y).cell? ⟨w.heap.size, 1, none⟩ = some (.slice a n cap) ∧ ((w'.setCell ⟨w.heap.size + 1 + 1, 0, none⟩ x).setCell ⟨w.heap.size + 1 + 1, 1, none⟩ y).cell? ⟨w.heap.size + 1, 0, none⟩ = some (.int .i64 id) ∧ ((w'.setCell ⟨w.heap.size + 1 + 1, 0, none⟩ x).setCell ⟨w.heap.size + 1 + 1, 1, none⟩ y).cell? ⟨w.heap.size + 1, 1, none⟩ = some (.int .i64 kind) ∧ ((w'.setCell ⟨w.heap.size + 1 + 1, 0, none⟩ x).setCell ⟨w.heap.size + 1 + 1, 1, none⟩ y).cell? ⟨w.heap.size + 1, 2, none⟩ = some (.int .i64 dst) ∧ ((w'.setCell ⟨w.heap.size + 1 + 1, 0, none⟩ x).setCell ⟨w.heap.size + 1 + 1, 1, none⟩ y).cell? ⟨w.heap.size + 1, 3, none⟩ = some (.int .i64 va) ∧ ((w'.setCell ⟨w.heap.size + 1 + 1, 0, none⟩ x).setCell ⟨w.heap.size + 1 + 1, 1, none⟩ y).cell? ⟨w.heap.size + 1, 4, none⟩ = some (.int .i64 vb) ∧ ((w'.setCell ⟨w.heap.size + 1 + 1, 0, none⟩ x).setCell ⟨w.heap.size + 1 + 1, 1, none⟩ y).cell? ⟨w.heap.size + 1, 5, none⟩ = some (.int .i64 c) ∧ ((w'.setCell ⟨w.heap.size + 1 + 1, 0, none⟩ x).setCell ⟨w.heap.size + 1 + 1, 1, none⟩ y).cell? ⟨w.heap.size + 1, 6, none⟩ = some (.int .i64 f) ∧ ((w'.setCell ⟨w.heap.size + 1 + 1, 0, none⟩ x).setCell ⟨w.heap.size + 1 + 1, 1, none⟩ y).cell? ⟨w.heap.size + 1, 7, none⟩ = some (.int .i64 n') ∧ ((w'.setCell ⟨w.heap.size + 1 + 1, 0, none⟩ x).setCell ⟨w.heap.size + 1 + 1, 1, none⟩ y).cell? ⟨w.heap.size + 1, 8, none⟩ = some (.int .i64 x0) ∧ ((w'.setCell ⟨w.heap.size + 1 + 1, 0, none⟩ x).setCell ⟨w.heap.size + 1 + 1, 1, none⟩ y).cell? ⟨w.heap.size + 1, 9, none⟩ = some (.int .i64 x1) ∧ ((w'.setCell ⟨w.heap.size + 1 + 1, 0, none⟩ x).setCell ⟨w.heap.size + 1 + 1, 1, none⟩ y).cell? ⟨w.heap.size + 1, 10, none⟩ = some (.int .i64 x2)) := fun w' x y hb' => by
    have h := hS.out w' hb'
    exact ⟨(cell_put2 (by dsimp only; omega)).trans h.1, (cell_put2 (by dsimp only; omega)).trans h.2.1, (cell_put2 (by dsimp only; omega)).trans h.2.2.1, (cell_put2 (by dsimp only; omega)).trans h.2.2.2.1, (cell_put2 (by dsimp only; omega)).trans h.2.2.2.2.1, (cell_put2 (by dsimp only; omega)).trans h.2.2.2.2.2.1, (cell_put2 (by dsimp only; omega)).trans h.2.2.2.2.2.2.1, (cell_put2 (by dsimp only; omega)).trans h.2.2.2.2.2.2.2.1, (cell_put2 (by dsimp only; omega)).trans h.2.2.2.2.2.2.2.2.1, (cell_put2 (by dsimp only; omega)).trans h.2.2.2.2.2.2.2.2.2.1, (cell_put2 (by dsimp only; omega)).trans h.2.2.2.2.2.2.2.2.2.2.1, (cell_put2 (by dsimp only; omega)).trans h.2.2.2.2.2.2.2.2.2.2.2.1, (cell_put2 (by dsimp only; omega)).trans h.2.2.2.2.2.2.2.2.2.2.2.2⟩
  go_region_held3 (fun w' => w'.cell? ⟨w.heap.size, 0, none⟩ = some (.bool on) ∧ w'.cell? ⟨w.heap.size, 1, none⟩ = some (.slice a n cap) ∧ w'.cell? ⟨w.heap.size + 1, 0, none⟩ = some (.int .i64 id) ∧ w'.cell? ⟨w.heap.size + 1, 1, none⟩ = some (.int .i64 kind) ∧ w'.cell? ⟨w.heap.size + 1, 2, none⟩ = some (.int .i64 dst) ∧ w'.cell? ⟨w.heap.size + 1, 3, none⟩ = some (.int .i64 va) ∧ w'.cell? ⟨w.heap.size + 1, 4, none⟩ = some (.int .i64 vb) ∧ w'.cell? ⟨w.heap.size + 1, 5, none⟩ = some (.int .i64 c) ∧ w'.cell? ⟨w.heap.size + 1, 6, none⟩ = some (.int .i64 f) ∧ w'.cell? ⟨w.heap.size + 1, 7, none⟩ = some (.int .i64 n') ∧ w'.cell? ⟨w.heap.size + 1, 8, none⟩ = some (.int .i64 x0) ∧ w'.cell? ⟨w.heap.size + 1, 9, none⟩ = some (.int .i64 x1) ∧ w'.cell? ⟨w.heap.size + 1, 10, none⟩ = some (.int .i64 x2)) (first | exact hS.out _ HBN.out | exact hS2.out _ _ _ HBN.out)
    (first
      | (go_at_call 16; refine (HD.out _ (HK.out.on HBN.out)).mono ?_; rintro e wn ⟨rfl, hbn⟩; have hbx := HBN.out.trans (hbn.mono HBN.out.size); clear HBN hbn; have HBN := Lib.hid hbx; clear hbx)
      | (go_at_call 21; refine (HG.out _ (HE.out.below HBN.out)).mono ?_; rintro e wn ⟨rfl, hbn⟩; have hbx := HBN.out.trans (hbn.mono HBN.out.size); clear HBN hbn; have HBN := Lib.hid hbx; clear hbx)
      | (go_at_call 20; refine (SetF_fr on a n cap l d vx vy _ (HE.out.below HBN.out) hn l' m HL.out HM.out).mono ?_; rintro e w5 ⟨a5, cap5, rfl, hF5, hg5, hbn⟩; have HF5 := Lib.hid hF5; have HG5 := Lib.hid (fun g h => Nat.le_trans HBN.out.size (hg5 g h)); clear hF5 hg5; have hbx := HBN.out.trans (hbn.mono HBN.out.size); clear HBN hbn; have HBN := Lib.hid hbx; clear hbx; obtain ⟨r0, r1, f0, f1⟩ := HBR.out.below HBN.out HBR.out.lt))
  all_goals
    go_wp2_with fail
    have hz := HZ.out
    have hF := HF5.out.put (b := w.heap.size + 1 + 1) (fun g o e => by have := HG5.out g ⟨o, e⟩; omega) (.bool on) (.slice a5 m cap5)
    have hB := below_put2 (HW.out.trans (HBN.out.mono HW.out.size)) (b := w.heap.size + 1 + 1) (by omega) (.bool on) (.slice a5 m cap5)
    obtain ⟨p0, p1, -, -⟩ := (HBR.out.below HBN.out HBR.out.lt).put (.bool on) (.slice a5 m cap5)
    refine bodyPost_ret (v := .agg #[.bool on, .slice a5 m cap5]) (by simp [results, Tryz.results7, go_sem, r0, r1]) rfl ?_
    first
      | exact ⟨a5, cap5, rfl, hF, hB⟩
      | exact ⟨a5, ⟨cap5, rfl⟩, hF, hB⟩
end Go.Proofs.YtmcbedlmgffckaaGreatDoor
