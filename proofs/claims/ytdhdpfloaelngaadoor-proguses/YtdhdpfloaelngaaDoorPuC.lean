/- Programs: Defs. -/
import Derived.Test.YtdhdpfloaelngaaDoorPuB
import Derived.Test.YtdhdpfloaelngaaDoorPeM
import Derived.Shelf.RegionOpen
import Derived.Shelf.Slices.In.SortNone
namespace Go.Proofs.YtdhdpfloaelngaaDoor
open Go Go.RowKit Go.Sort Go.Shelf

attribute [local go_sem] Oper.semAt_some

/-- The Ids of those that set a variable. -/
def defsL (f v : Int) (l : List At) : List Int := (l.filter fun x => decide ((x.f : Int) = f ∧ x.i.defn = v)).map fun x => x.i.id
theorem defsL_snoc (f v : Int) (l : List At) (x : At) : defsL f v (l ++ [x]) = defsL f v l ++ if (x.f : Int) = f ∧ x.i.defn = v then [x.i.id] else [] := by
  unfold defsL
  rw [List.filter_append, List.map_append]
  by_cases h : (x.f : Int) = f ∧ x.i.defn = v <;> simp [h]
theorem defsL_le (f v : Int) (l : List At) : (defsL f v l).length ≤ l.length := by
  unfold defsL
  rw [List.length_map]
  exact List.length_filter_le _ _
theorem ins96 {p : Pg} (h : p.sane) : p.ins.length ≤ 96 := by
  have h1 := mem_sum 96 (p.ins.map Ins.id) h.2.2 (fun x hx => by
    obtain ⟨i, hi, rfl⟩ := List.mem_map.1 hx
    have := ids_ok h.2.1 i hi
    exact ⟨this.1, by omega⟩)
  rw [List.length_map] at h1
  rw [← h1]
  exact Nat.le_trans (sumTo_le (c := 1) 96 (fun k _ => by split <;> omega)) (by omega)
theorem sorted_length (l : List Int) : (l.mergeSort fun x y => decide (x ≤ y)).length = l.length := List.length_mergeSort l

theorem keeps_below {W W' : World} (h : Below W.heap.size W W') : KeepsOthers W W' :=
  ⟨h.size, fun k _ hk _ => (h.block k (Array.getElem?_eq_some_iff.1 hk).1).trans hk⟩
theorem not_row_def {W : World} {D base k : Nat} {l : Option (List Deferred)} {u : Value} {xs : List Value} (hD : W.heap[D]? = some (.deferred l)) (hr : W.ownsRow base 3 1 u k xs) (e : some D = u.ownBlock) : False := by
  rcases hr.2 with ⟨rfl, _⟩ | ⟨g, cap, cur, rfl, _, hgb, _⟩
  · simp [Value.ownBlock] at e
  · obtain rfl : D = g := by simpa [Value.ownBlock] using e
    rw [hD] at hgb
    cases hgb

set_option maxRecDepth 100000 in
open Go.Proofs.YtdhdpfloaelngaaDoor.Bi in
/-- slices.Sort of a row of one's own: nothing but the row turns. -/
theorem SortG {B : Nat} {T : Nat} {u : Value} {l : List Int} {w : World} (hown : w.ownsRow B 3 1 u T (l.map (Value.int .i64))) (hT : T ≤ 96) :
    Calls Tryd.prog 29 #[u] w fun e w' => e = .returned (.tuple #[]) ∧ w'.ownsRow B 3 1 u T ((l.mergeSort fun x y => decide (x ≤ y)).map (Value.int .i64)) ∧ w.grownBy w' u.ownBlock := by
  obtain ⟨hlen, ⟨hv, h0⟩ | ⟨g', cap', cur, hv, hbase, hc, hle, hle2, hsz, htk⟩⟩ := id hown
  · subst hv
    subst h0
    have hus : l = [] := by simpa using hlen
    subst hus
    refine (Any.slices_Sort_int_none Tryd.lays189 none 0 _).mono ?_
    rintro e w5 ⟨rfl, rfl⟩
    exact ⟨rfl, by simpa using World.ownsRow_nil w5 B 3 1, rfl, rfl, rfl, Nat.le_refl _, fun _ _ _ => rfl⟩
  · subst hv
    have hl : l.length = T := by simpa using hlen
    subst hl
    have hH : Holds (Value.int .i64) w g' 0 l.toArray := holds_of_blockI hc (by simpa using htk)
    have hs := Any.slices_Sort_int Tryd.lays189 g' 0 cap' l w hH (Array.getElem?_eq_some_iff.1 hc).1 (by omega)
    refine hs.mono ?_
    rintro e w' ⟨rfl, n, os, rfl⟩
    exact ⟨rfl, ownsRow_sortedI (by simp) hbase hc hle hle2 (by simpa using hsz), grownBy_sortedI _⟩

set_option maxRecDepth 100000 in
set_option maxHeartbeats 8000000 in
theorem Defs_any (p : Pg) (f v : Int) (w : World) (hp : PgIs w.heap.size w p) (hT : KTab w) (hE : ETab w) (hfew : p.few) (hs : p.sane) (hv0 : 0 ≤ v) :
    Calls Tryd.prog 17 #[p.val, .int .i64 f, .int .i64 v] w fun e w' => ∃ u, e = .returned u ∧ w'.ownsRow w.heap.size 3 1 u (defsL f v p.ats).length (((defsL f v p.ats).mergeSort fun x y => decide (x ≤ y)).map (Value.int .i64)) ∧ Below w.heap.size w w' := by
  refine (callsIn_wide (n := 3)).1 ?_
  have HB2 := Lib.hid (below3 w (.cells #[.slice p.pa p.funs.length p.pc] 24) (.cells #[.int .i64 f] 3) (.cells #[.int .i64 v] 3))
  have HX1 : Hid (BoxL (((w.alloc (.cells #[.slice p.pa p.funs.length p.pc] 24)).alloc (.cells #[.int .i64 f] 3)).alloc (.cells #[.int .i64 v] 3)) w.heap.size [.slice p.pa p.funs.length p.pc]) := Lib.hid (((BoxL.new w [.slice p.pa p.funs.length p.pc] 24).alloc (Nat.zero_lt_succ _) _).alloc (Nat.zero_lt_succ _) _)
  have hx2 := BoxL.new (w.alloc (.cells #[.slice p.pa p.funs.length p.pc] 24)) [.int .i64 f] 3
  rw [World.size_alloc] at hx2
  have hx3 := BoxL.new ((w.alloc (.cells #[.slice p.pa p.funs.length p.pc] 24)).alloc (.cells #[.int .i64 f] 3)) [.int .i64 v] 3
  rw [World.size_alloc, World.size_alloc] at hx3
  have HX3 : Hid (BoxL (((w.alloc (.cells #[.slice p.pa p.funs.length p.pc] 24)).alloc (.cells #[.int .i64 f] 3)).alloc (.cells #[.int .i64 v] 3)) (w.heap.size + 1 + 1) [.int .i64 v]) := Lib.hid hx3
  have HX2 : Hid (BoxL (((w.alloc (.cells #[.slice p.pa p.funs.length p.pc] 24)).alloc (.cells #[.int .i64 f] 3)).alloc (.cells #[.int .i64 v] 3)) (w.heap.size + 1) [.int .i64 f]) := Lib.hid (hx2.alloc (Nat.zero_lt_succ _) _)
  have HS := Lib.hid (Sane_any p _ (hp.on HB2.out) (hT.on HB2.out) (hE.on HB2.out) hfew true (by simp [hs]))
  have HP := Lib.hid (hp.on HB2.out)
  have HFW := Lib.hid hfew
  have HPL := Lib.hid (ats_le hfew)
  have HSZ : Hid ((((w.alloc (.cells #[.slice p.pa p.funs.length p.pc] 24)).alloc (.cells #[.int .i64 f] 3)).alloc (.cells #[.int .i64 v] 3)).heap.size = w.heap.size + 3) := Lib.hid (by simp only [World.size_alloc])
  have HKT := Lib.hid (hT.on HB2.out)
  have HI96 := Lib.hid (show p.ats.length ≤ 96 by have := ins96 hs; rwa [← ats_i, List.length_map] at this)
  clear hp hT hE hfew hs hx2 hx3
  unfold Pg.val at *
  generalize hE : ((w.alloc (.cells #[.slice p.pa p.funs.length p.pc] 24)).alloc (.cells #[.int .i64 f] 3)).alloc (.cells #[.int .i64 v] 3) = W at HB2 HX1 HX2 HX3 HS HP HSZ HKT
  obtain ⟨g, hg⟩ : ∃ g, w.heap.size = g := ⟨_, rfl⟩
  have HGL := Lib.hid HB2.out.size
  rw [hg] at HB2 HX1 HX2 HX3 HSZ HGL ⊢
  obtain ⟨i0, hi, hz0, hz1, hz2⟩ := info_parts info3
  have p0 := (HX1.out 0 _ rfl).1
  have p2 := (HX3.out 0 _ rfl).1
  have hv0' : ¬ (v < 0) := by omega
  refine callsIn_of_wp_marks Tryd.func17 rfl trivial ?_ rfl
  simp only [Tryd.ntmps17, List.size_toArray, List.length_cons, List.length_nil, Nat.reduceAdd, Nat.reduceSub, Array.replicate_succ, Array.replicate_zero, List.push_toArray, List.append_toArray, List.nil_append, List.cons_append]
  gi_wp2_with (first | (refine ⟨trivial, ?_⟩; gi_at_call 9; refine (callsIn_wide.2 HS.out).mono ?_; rintro e wa ⟨rfl, hba⟩; have HXa := Lib.hid ((HX1.out.below hba (HX1.out.lt (Nat.zero_lt_succ _))).alloc (Nat.zero_lt_succ _) (.cells #[.slice none 0 0] 32)); have HXf := Lib.hid (HX2.out.below hba (HX2.out.lt (Nat.zero_lt_succ _))); have HXv := Lib.hid (HX3.out.below hba (HX3.out.lt (Nat.zero_lt_succ _))); have HKa := Lib.hid (HKT.out.on hba); have HPa := Lib.hid (HP.out.on hba); have HBa := Lib.hid (HB2.out.trans (hba.mono HGL.out)); have HGa := Lib.hid (Nat.le_trans HGL.out hba.size); clear hba p0 p2 HX1 HX2 HX3 HP HB2 HS HKT; have p0 := (HXa.out 0 _ rfl).1) | (refine ⟨trivial, ?_⟩; gi_at_call 28; refine (callsIn_wide.2 (instrs_any _ _)).mono ?_; rintro e w2 ⟨rfl, rfl⟩))
  rename_i Kq hKq
  obtain ⟨gl, hgl⟩ : ∃ gl, wa.heap.size = gl := ⟨_, rfl⟩
  have hb2 := below2 wa (.cells #[.slice none 0 0] 32) (.cells #[.slice p.pa p.funs.length p.pc] 24)
  have hbx := (Boxed.new wa 32 (.slice none 0 0)).alloc (.cells #[.slice p.pa p.funs.length p.pc] 24)
  have hc4 := (BoxL.new (wa.alloc (.cells #[.slice none 0 0] 32)) [.slice p.pa p.funs.length p.pc] 24 0 _ rfl).1
  rw [World.size_alloc] at hc4
  have hc4' : ((wa.alloc (.cells #[.slice none 0 0] 32)).alloc (.cells #[.slice p.pa p.funs.length p.pc] 24)).cell? ⟨wa.heap.size + 1, 0, none⟩ = some (.slice p.pa p.funs.length p.pc) := hc4
  have hs4 : ((wa.alloc (.cells #[.slice none 0 0] 32)).alloc (.cells #[.slice p.pa p.funs.length p.pc] 24)).heap.size = wa.heap.size + 2 := by simp only [World.size_alloc]
  rw [hgl] at hb2 hbx hc4' hs4 ⊢
  have hglt : g + 1 < gl := by have h1 := HXf.out.lt (Nat.zero_lt_succ _); omega
  have hglv : g + 1 + 1 < gl := by have h1 := HXv.out.lt (Nat.zero_lt_succ _); omega
  have HKT : Hid (Below gl wa wa → True) := Lib.hid fun _ => trivial
  have HKB := Lib.hid (fun (W' : World) (h : Below gl wa W') => HKa.out.on (W := W') (by rw [hgl]; exact h))
  clear HKT HKa
  have HPG := Lib.hid (show PgIs gl wa p by have := HPa.out; rwa [hgl] at this)
  have HGG := Lib.hid (show g ≤ gl by omega)
  clear hc4 p0 HXa HPa HGa
  generalize (wa.alloc (.cells #[.slice none 0 0] 32)).alloc (.cells #[.slice p.pa p.funs.length p.pc] 24) = W4 at *
  refine wpIn_rangeFunc_ownH rfl (by omega) (gf := 41) (lb := #[.pointer (some ⟨gl + 1, 0, none⟩)]) rfl trivial (enters_of Tryd.func41 (by kernel_rfl) rfl)
    (instrs_stops 2 (by omega) (gl + 1) gl p W4 HFW.out (by omega) (by omega) hc4' (HPG.out.below hb2)) belowK_t (belowK_b (by omega)) (Below.refl _ _) (fun _ => rfl)
    (fun pre W => (∃ u, Boxed W gl 32 u ∧ W.ownsRow gl 3 1 u (defsL f v (vals pre)).length ((defsL f v (vals pre)).map (Value.int .i64)) ∧ True) ∧ Below gl wa W)
    (fun _ _ _ => False)
    (OwnFrom.and (Own.from (holdsRow_own gl gl 32 3 1 (fun pre : List (Of p) => (defsL f v (vals pre)).length) (fun pre : List (Of p) => (defsL f v (vals pre)).map (Value.int .i64)) (fun _ _ => True)) _) (ownFrom_below (by omega) (by omega)))
    (fun _ _ _ _ _ hs _ _ => hs)
    ⟨⟨_, hbx, World.ownsRow_nil _ _ _ _, trivial⟩, hb2⟩
    (fun x a' W => ∃ B1 B2, BoxL W B1 x.val.cells3 ∧ BoxL W B2 x.val.i.cells ∧ a' = { tmps := #[.agg #[.slice p.pa p.funs.length p.pc], .int .i64 f, .int .i64 v, .pointer (some ⟨g, 0, none⟩), .pointer (some ⟨g + 1, 0, none⟩), .pointer (some ⟨g + 1 + 1, 0, none⟩), .slice none 0 0, .pointer (some ⟨gl, 0, none⟩), .pointer (some ⟨B1, 0, none⟩), .pointer (some ⟨B2, 0, none⟩), .int .i64 v, .bool false, .bool false, .agg #[.slice p.pa p.funs.length p.pc], .bool true, .bool false, .bool false, .agg #[.slice p.pa p.funs.length p.pc], .func (.func 41) #[] #[.pointer (some ⟨gl + 1, 0, none⟩)], .agg #[.int .i64 (x.val.f : Int), .int .i64 (x.val.b : Int), .int .i64 (x.val.k : Int)], x.val.i.val, undef, undef, undef, undef, undef, undef, undef, undef, undef, undef, undef, undef, undef, undef, undef, undef, undef, undef], defers := [] })
    ?own ?assign ?body ?done ?stop
  case own =>
    rintro x a' _ X Y row ⟨B1, B2, h1, h2, rfl⟩ hg hr
    exact ⟨B1, B2, BoxL.own B1 (fun _ : Unit => x.val.cells3) () X Y row h1 hg (fun r e => (hr r e).2), BoxL.own B2 (fun _ : Unit => x.val.i.cells) () X Y row h2 hg (fun r e => (hr r e).2), rfl⟩
  case assign =>
    rintro l pre ⟨⟨xf, xb, xk, ⟨id, kind, dst, a, bb, c, ff, nn, x0, x1, x2⟩⟩, hx⟩ W K hI hK
    clear hbx hc4'
    unfold Of.enc At.enc Ins.val
    dsimp only
    gi_wp2
    obtain ⟨⟨u, h1, h2, _⟩, h3⟩ := hI
    have hb := below2 W (.cells #[.int .i64 (xf : Int), .int .i64 (xb : Int), .int .i64 (xk : Int)] 43) (.cells #[.int .i64 id, .int .i64 kind, .int .i64 dst, .int .i64 a, .int .i64 bb, .int .i64 c, .int .i64 ff, .int .i64 nn, .int .i64 x0, .int .i64 x1, .int .i64 x2] 45)
    have hn1 := BoxL.new W [.int .i64 (xf : Int), .int .i64 (xb : Int), .int .i64 (xk : Int)] 43
    have hn2 := BoxL.new (W.alloc (.cells #[.int .i64 (xf : Int), .int .i64 (xb : Int), .int .i64 (xk : Int)] 43)) [.int .i64 id, .int .i64 kind, .int .i64 dst, .int .i64 a, .int .i64 bb, .int .i64 c, .int .i64 ff, .int .i64 nn, .int .i64 x0, .int .i64 x1, .int .i64 x2] 45
    rw [World.size_alloc] at hn2
    refine hK _ _ (((KeepsOthers.alloc _ _).trans (KeepsOthers.alloc _ _)).from _) (hb.mono (by have := h3.size; omega)) ⟨⟨u, (h1.alloc _).alloc _, (h2.alloc _).alloc _, trivial⟩, h3.trans (hb.mono (by have := h3.size; omega))⟩ ⟨W.heap.size, W.heap.size + 1, ?_, ?_, rfl⟩
    · exact hn1.alloc (Nat.zero_lt_succ _) _
    · exact hn2
  case body =>
    rintro l pre ⟨⟨xf, xb, xk, i⟩, hx⟩ a' W hl hr ⟨⟨u, hv, hrow, _⟩, hB⟩ ⟨B1, B2, h1, h2, rfl⟩ hlt
    have hc := hv.cell
    have hsn := defsL_snoc f v (vals pre) ⟨xf, xb, xk, i⟩
    have hle := defsL_le f v (vals pre)
    have hpl : (vals pre).length < 6000 := by have := HPL.out; simp [vals]; omega
    have hf1 := (hB.cell (p := ⟨g + 1, 0, none⟩) hglt).trans (HXf.out 0 _ rfl).1
    have hf2 := (hB.cell (p := ⟨g + 1 + 1, 0, none⟩) hglv).trans (HXv.out 0 _ rfl).1
    have b10 := (h1 0 _ rfl).1
    obtain ⟨d, hd⟩ : ∃ d, i.defn = d := ⟨_, rfl⟩
    have HD := Lib.hid (fun W' (h : Below gl wa W') => Def_any i W' (HKB.out W' h) d hd)
    dsimp only [At.cells3] at b10 hsn
    rw [hd] at hsn
    obtain ⟨id, kind, dst, a, bb, c, ff, nn, x0, x1, x2⟩ := i
    have b20 := (h2 0 _ rfl).1
    have b21 := (h2 1 _ rfl).1
    have b22 := (h2 2 _ rfl).1
    have b23 := (h2 3 _ rfl).1
    have b24 := (h2 4 _ rfl).1
    have b25 := (h2 5 _ rfl).1
    have b26 := (h2 6 _ rfl).1
    have b27 := (h2 7 _ rfl).1
    have b28 := (h2 8 _ rfl).1
    have b29 := (h2 9 _ rfl).1
    have b210 := (h2 10 _ rfl).1
    have HSN := Lib.hid hsn
    have HBB := Lib.hid hB
    have HH2 := Lib.hid h2
    have hgs : gl ≤ W.heap.size := by have := hB.size; omega
    clear hbx hc4' h1 h2 hsn hd hB
    unfold Ins.val at *
    dsimp only at *
    have hmx : Tryd.prog.follows .mixedOrders = true := by kernel_rfl
    have HLV : Hid (g + 1 + 1 < W.heap.size) := Lib.hid (by omega)
    by_cases hxf : (xf : Int) = f
    · have hxb : ((xf : Int) == f) = true := by simpa using hxf
      by_cases hdv : d = v
      · have hdb : (d == v) = true := by simpa using hdv
        have h63 : (defsL f v (vals pre)).length + 1 ≤ maxLen := by unfold maxLen; omega
        have hby : ((defsL f v (vals pre)).length + 1) * 8 ≤ 140737488355328 := by omega
        have he : defsL f v (vals pre ++ [⟨xf, xb, xk, ⟨id, kind, dst, a, bb, c, ff, nn, x0, x1, x2⟩⟩]) = defsL f v (vals pre) ++ [id] := by rw [HSN.out, if_pos ⟨hxf, hdv⟩]
        have HE := Lib.hid he
        clear he
        gi_wp2
        gi_region_with_o (refine ⟨trivial, ?_⟩; gi_at_call 20; refine (CallsIn.inRound l (callsIn_wide.2 (HD.out _ HBB.out.drew))).mono ?_; rintro e w2 ⟨rfl, hb⟩; have hv3 : Boxed w2 gl 32 u := (hb.block gl hv.lt).trans hv; have hc3 := hv3.cell; have hf3 := (hb.cell (p := ⟨g + 1 + 1, 0, none⟩) HLV.out).trans hf2; have b30 := (hb.cell (p := ⟨B2, 0, none⟩) (HH2.out.lt (Nat.zero_lt_succ _))).trans b20; have hrow3 := Bi.owns_keep hrow.drew hb; have HBW : Hid (Below W.heap.size W w2) := Lib.hid ⟨hb.os, hb.tape, hb.output, hb.size, hb.block⟩; clear hb)
        all_goals (have hgs3 : gl ≤ w2.heap.size := Nat.le_trans hgs HBW.out.size)
        all_goals (gi_wp2_with (gi_at_builtin; refine wpListIn_append_own _ rfl _ _ 32 rfl gl 3 i0 (.int .i64 0) 1 8 Tryd.underlying32 hi hz0 hz1 hz2 rfl (by decide) _ _ _ rfl (hrow3.alloc _) ⟨w2.heap.size, 0, none⟩ 1 1 [.int .i64 id] rfl rfl (cell_one_new _ _ _) (by simp [Value.oneCell']) h63 hby (by simp only [World.size_alloc]; omega) ?_; intro v' w1 hown' hgrow _; obtain ⟨g', cap', rfl⟩ := ownsRow_succ hown'; obtain ⟨hv1, hv2, hr2, hk2, hb2⟩ := hv3.appended (by decide) hrow3 hgs3 (Nat.le_refl _) hown' hgrow; have hc1 := hv1.cell; have hf1 := hv1.frozen))
        all_goals (have hbw := (HBW.out.mono hgs).trans hb2; exact ⟨((keeps_below HBW.out).trans hk2).from _, hbw, ⟨_, hv2, by rw [vals_app]; dsimp only; rw [HE.out, List.length_append, List.map_append]; exact hr2, trivial⟩, HBB.out.trans hbw⟩)
      · have hdb : (d == v) = false := by simpa using hdv
        have he : defsL f v (vals pre ++ [⟨xf, xb, xk, ⟨id, kind, dst, a, bb, c, ff, nn, x0, x1, x2⟩⟩]) = defsL f v (vals pre) := by rw [HSN.out, if_neg (fun h => hdv h.2), List.append_nil]
        have HE := Lib.hid he
        clear he
        gi_wp2
        gi_region_with_o (refine ⟨trivial, ?_⟩; gi_at_call 20; refine (CallsIn.inRound l (callsIn_wide.2 (HD.out _ HBB.out.drew))).mono ?_; rintro e w2 ⟨rfl, hb⟩; have hv3 : Boxed w2 gl 32 u := (hb.block gl hv.lt).trans hv; have hc3 := hv3.cell; have hf3 := (hb.cell (p := ⟨g + 1 + 1, 0, none⟩) HLV.out).trans hf2; have b30 := (hb.cell (p := ⟨B2, 0, none⟩) (HH2.out.lt (Nat.zero_lt_succ _))).trans b20; have hrow3 := Bi.owns_keep hrow.drew hb; have HBW : Hid (Below W.heap.size W w2) := Lib.hid ⟨hb.os, hb.tape, hb.output, hb.size, hb.block⟩; clear hb)
        all_goals gi_wp2
        all_goals (rw [← HE.out] at hrow3; exact ⟨(keeps_below HBW.out).from _, HBW.out.mono hgs, ⟨u, hv3, by rw [vals_app]; exact hrow3, trivial⟩, HBB.out.trans (HBW.out.mono hgs)⟩)
    · have hxb : ((xf : Int) == f) = false := by simpa using hxf
      have he : defsL f v (vals pre ++ [⟨xf, xb, xk, ⟨id, kind, dst, a, bb, c, ff, nn, x0, x1, x2⟩⟩]) = defsL f v (vals pre) := by rw [HSN.out, if_neg (fun h => hxf h.1), List.append_nil]
      have HE := Lib.hid he
      clear he
      gi_wp2
      gi_region_with_o (refine ⟨trivial, ?_⟩)
      all_goals gi_wp2
      all_goals (rw [← HE.out] at hrow; exact ⟨(KeepsOthers.drew W).from _, (Below.refl _ _).drew, ⟨u, hv, by rw [vals_app]; exact hrow.drew, trivial⟩, HBB.out.drew⟩)
  case done =>
    rintro D ys W hD hys ⟨⟨u, hv, hrow, _⟩, hB⟩ hK
    have hc := hv.cell
    rw [hys] at hrow
    have hll : (defsL f v p.ats).length ≤ 96 := Nat.le_trans (defsL_le f v p.ats) HI96.out
    have HHK := Lib.hid hK
    have HRW := Lib.hid hrow
    have HVB := Lib.hid hv
    have HBB := Lib.hid hB
    clear hbx hc4' hys hB
    refine hKq _ _ (wpIn_wide.2 ?_)
    clear hKq
    go_wp2_with fail
    refine (SortG HRW.out hll).mono ?_
    rintro e w5 ⟨rfl, hr5, hg5⟩
    have hv5 := HVB.out.kept hg5 (HVB.out.not_row (by decide) HRW.out)
    have hc5 := hv5.cell
    have hD5 : w5.heap[D]? = some (.deferred (some [])) := (hg5.block D (Array.getElem?_eq_some_iff.1 HHK.out).1 (fun e => not_row_def HHK.out HRW.out e)).trans HHK.out
    have HB5 := Lib.hid (owns_grown HBB.out HRW.out hg5 (by have := HBB.out.size; omega))
    go_wp2_with fail
    refine ⟨by simp, .inl ⟨_, _, rfl, run_takeDeferred hD5, ?_⟩⟩
    exact ⟨_, results_tmp rfl _ _ _, u, rfl, owns_base (ownsRow_putObj hr5 _ hD5 rfl) HGG.out, (HBa.out.trans (HB5.out.mono HGG.out)).trans (belowK_b (w := w) (by rw [hg]; exact Nat.le_refl _) w5 D _ _ (by omega) hD5 rfl rfl)⟩
  case stop =>
    rintro D c pre W _ _ h _
    exact h.elim
end Go.Proofs.YtdhdpfloaelngaaDoor
