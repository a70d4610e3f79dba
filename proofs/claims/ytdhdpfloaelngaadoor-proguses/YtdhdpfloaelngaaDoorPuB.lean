/- Programs: Calls. -/
import Derived.Test.YtdhdpfloaelngaaDoorPuA
namespace Go.Proofs.YtdhdpfloaelngaaDoor
open Go Go.RowKit Go.Sort Go.Shelf

attribute [local go_sem] Oper.semAt_some

/-- Where a function is called. -/
def callsL (f : Int) (l : List At) : List At := l.filter fun x => decide (x.i.kind = 7 ∧ x.i.f = f)
def At.cells3 (x : At) : List Value := [.int .i64 (x.f : Int), .int .i64 (x.b : Int), .int .i64 (x.k : Int)]
def flat3 (l : List At) : List Value := l.flatMap At.cells3
theorem callsL_snoc (f : Int) (l : List At) (x : At) : callsL f (l ++ [x]) = callsL f l ++ if x.i.kind = 7 ∧ x.i.f = f then [x] else [] := by
  unfold callsL
  rw [List.filter_append]
  by_cases h : x.i.kind = 7 ∧ x.i.f = f <;> simp [h]
theorem callsL_le (f : Int) (l : List At) : (callsL f l).length ≤ l.length := List.length_filter_le _ _
theorem flat3_snoc (l : List At) (x : At) : flat3 (l ++ [x]) = flat3 l ++ x.cells3 := by simp [flat3]
theorem info43 : (Tryd.prog.info? 43).map (fun i => (i.zero, i.size, i.bytes)) = some (some (.agg #[.int .i64 0, .int .i64 0, .int .i64 0]), 3, 24) := by kernel_rfl

set_option maxRecDepth 100000 in
set_option maxHeartbeats 8000000 in
theorem Calls_any (p : Pg) (f : Int) (w : World) (hp : PgIs w.heap.size w p) (hT : KTab w) (hE : ETab w) (hfew : p.few) (hs : p.sane) :
    Calls Tryd.prog 16 #[p.val, .int .i64 f] w fun e w' => ∃ u, e = .returned u ∧ w'.ownsRow w.heap.size 43 3 u (callsL f p.ats).length (flat3 (callsL f p.ats)) ∧ Below w.heap.size w w' := by
  refine (callsIn_wide (n := 3)).1 ?_
  have HB2 := Lib.hid (below2 w (.cells #[.slice p.pa p.funs.length p.pc] 24) (.cells #[.int .i64 f] 3))
  have HX1 : Hid (BoxL ((w.alloc (.cells #[.slice p.pa p.funs.length p.pc] 24)).alloc (.cells #[.int .i64 f] 3)) w.heap.size [.slice p.pa p.funs.length p.pc]) := Lib.hid ((BoxL.new w [.slice p.pa p.funs.length p.pc] 24).alloc (Nat.zero_lt_succ _) _)
  have hx2 := BoxL.new (w.alloc (.cells #[.slice p.pa p.funs.length p.pc] 24)) [.int .i64 f] 3
  rw [World.size_alloc] at hx2
  have HX2 : Hid (BoxL ((w.alloc (.cells #[.slice p.pa p.funs.length p.pc] 24)).alloc (.cells #[.int .i64 f] 3)) (w.heap.size + 1) [.int .i64 f]) := Lib.hid hx2
  have HS := Lib.hid (Sane_any p _ (hp.on HB2.out) (hT.on HB2.out) (hE.on HB2.out) hfew true (by simp [hs]))
  have HP := Lib.hid (hp.on HB2.out)
  have HFW := Lib.hid hfew
  have HPL := Lib.hid (ats_le hfew)
  have HSZ : Hid (((w.alloc (.cells #[.slice p.pa p.funs.length p.pc] 24)).alloc (.cells #[.int .i64 f] 3)).heap.size = w.heap.size + 2) := Lib.hid (by simp only [World.size_alloc])
  clear hp hT hE hfew hs hx2
  unfold Pg.val at *
  generalize hE : (w.alloc (.cells #[.slice p.pa p.funs.length p.pc] 24)).alloc (.cells #[.int .i64 f] 3) = W at HB2 HX1 HX2 HS HP HSZ
  obtain ⟨g, hg⟩ : ∃ g, w.heap.size = g := ⟨_, rfl⟩
  have HGL := Lib.hid HB2.out.size
  rw [hg] at HB2 HX1 HX2 HSZ HGL ⊢
  obtain ⟨i0, hi, hz0, hz1, hz2⟩ := info_parts info43
  have p0 := (HX1.out 0 _ rfl).1
  refine callsIn_of_wp_marks Tryd.func16 rfl trivial ?_ rfl
  simp only [Tryd.ntmps16, List.size_toArray, List.length_cons, List.length_nil, Nat.reduceAdd, Nat.reduceSub, Array.replicate_succ, Array.replicate_zero, List.push_toArray, List.append_toArray, List.nil_append, List.cons_append]
  gi_wp2_with (first | (refine ⟨trivial, ?_⟩; gi_at_call 9; refine (callsIn_wide.2 HS.out).mono ?_; rintro e wa ⟨rfl, hba⟩; have HXa := Lib.hid ((HX1.out.below hba (HX1.out.lt (Nat.zero_lt_succ _))).alloc (Nat.zero_lt_succ _) (.cells #[.slice none 0 0] 47)); have HXf := Lib.hid (HX2.out.below hba (HX2.out.lt (Nat.zero_lt_succ _))); have HPa := Lib.hid (HP.out.on hba); have HBa := Lib.hid (HB2.out.trans (hba.mono HGL.out)); have HGa := Lib.hid (Nat.le_trans HGL.out hba.size); clear hba p0 HX1 HX2 HP HB2 HS; have p0 := (HXa.out 0 _ rfl).1) | (refine ⟨trivial, ?_⟩; gi_at_call 28; refine (callsIn_wide.2 (instrs_any _ _)).mono ?_; rintro e w2 ⟨rfl, rfl⟩))
  rename_i Kq hKq
  obtain ⟨gl, hgl⟩ : ∃ gl, wa.heap.size = gl := ⟨_, rfl⟩
  have hb2 := below2 wa (.cells #[.slice none 0 0] 47) (.cells #[.slice p.pa p.funs.length p.pc] 24)
  have hbx := (Boxed.new wa 47 (.slice none 0 0)).alloc (.cells #[.slice p.pa p.funs.length p.pc] 24)
  have hc4 := (BoxL.new (wa.alloc (.cells #[.slice none 0 0] 47)) [.slice p.pa p.funs.length p.pc] 24 0 _ rfl).1
  rw [World.size_alloc] at hc4
  have hc4' : ((wa.alloc (.cells #[.slice none 0 0] 47)).alloc (.cells #[.slice p.pa p.funs.length p.pc] 24)).cell? ⟨wa.heap.size + 1, 0, none⟩ = some (.slice p.pa p.funs.length p.pc) := hc4
  have hs4 : ((wa.alloc (.cells #[.slice none 0 0] 47)).alloc (.cells #[.slice p.pa p.funs.length p.pc] 24)).heap.size = wa.heap.size + 2 := by simp only [World.size_alloc]
  rw [hgl] at hb2 hbx hc4' hs4 ⊢
  have hglt : g + 1 < gl := by have h1 := HXf.out.lt (Nat.zero_lt_succ _); omega
  have HPG := Lib.hid (show PgIs gl wa p by have := HPa.out; rwa [hgl] at this)
  have HGG := Lib.hid (show g ≤ gl by omega)
  clear hc4 p0 HXa HPa HGa
  generalize (wa.alloc (.cells #[.slice none 0 0] 47)).alloc (.cells #[.slice p.pa p.funs.length p.pc] 24) = W4 at *
  refine wpIn_rangeFunc_ownH rfl (by omega) (gf := 41) (lb := #[.pointer (some ⟨gl + 1, 0, none⟩)]) rfl trivial (enters_of Tryd.func41 (by kernel_rfl) rfl)
    (instrs_stops 2 (by omega) (gl + 1) gl p W4 HFW.out (by omega) (by omega) hc4' (HPG.out.below hb2)) belowK_t (belowK_b (by omega)) (Below.refl _ _) (fun _ => rfl)
    (fun pre W => (∃ v, Boxed W gl 47 v ∧ W.ownsRow gl 43 3 v (callsL f (vals pre)).length (flat3 (callsL f (vals pre))) ∧ True) ∧ Below gl wa W)
    (fun _ _ _ => False)
    (OwnFrom.and (Own.from (holdsRow_own gl gl 47 43 3 (fun pre : List (Of p) => (callsL f (vals pre)).length) (fun pre : List (Of p) => flat3 (callsL f (vals pre))) (fun _ _ => True)) _) (ownFrom_below (by omega) (by omega)))
    (fun _ _ _ _ _ hs _ _ => hs)
    ⟨⟨_, hbx, World.ownsRow_nil _ _ _ _, trivial⟩, hb2⟩
    (fun x a' W => ∃ B1 B2, BoxL W B1 x.val.cells3 ∧ BoxL W B2 x.val.i.cells ∧ a' = { tmps := #[.agg #[.slice p.pa p.funs.length p.pc], .int .i64 f, .pointer (some ⟨g, 0, none⟩), .pointer (some ⟨g + 1, 0, none⟩), .slice none 0 0, .pointer (some ⟨gl, 0, none⟩), .pointer (some ⟨B1, 0, none⟩), .pointer (some ⟨B2, 0, none⟩), .agg #[.slice p.pa p.funs.length p.pc], .bool true, .bool false, .agg #[.slice p.pa p.funs.length p.pc], .func (.func 41) #[] #[.pointer (some ⟨gl + 1, 0, none⟩)], .agg #[.int .i64 (x.val.f : Int), .int .i64 (x.val.b : Int), .int .i64 (x.val.k : Int)], x.val.i.val, undef, undef, undef, undef, undef, undef, undef, undef, undef, undef, undef, undef, undef, undef], defers := [] })
    ?own ?assign ?body ?done ?stop
  case own =>
    rintro x a' _ X Y row ⟨B1, B2, h1, h2, rfl⟩ hg hr
    exact ⟨B1, B2, BoxL.own B1 (fun _ : Unit => x.val.cells3) () X Y row h1 hg (fun r e => (hr r e).2), BoxL.own B2 (fun _ : Unit => x.val.i.cells) () X Y row h2 hg (fun r e => (hr r e).2), rfl⟩
  case assign =>
    rintro l pre ⟨⟨xf, xb, xk, ⟨id, kind, dst, a, bb, c, ff, nn, x0, x1, x2⟩⟩, hx⟩ W K hI hK
    clear hbx hc4'
    unfold Of.enc At.enc Ins.val
    dsimp only
    gi_wp2
    obtain ⟨⟨v, h1, h2, _⟩, h3⟩ := hI
    have hb := below2 W (.cells #[.int .i64 (xf : Int), .int .i64 (xb : Int), .int .i64 (xk : Int)] 43) (.cells #[.int .i64 id, .int .i64 kind, .int .i64 dst, .int .i64 a, .int .i64 bb, .int .i64 c, .int .i64 ff, .int .i64 nn, .int .i64 x0, .int .i64 x1, .int .i64 x2] 45)
    have hn1 := BoxL.new W [.int .i64 (xf : Int), .int .i64 (xb : Int), .int .i64 (xk : Int)] 43
    have hn2 := BoxL.new (W.alloc (.cells #[.int .i64 (xf : Int), .int .i64 (xb : Int), .int .i64 (xk : Int)] 43)) [.int .i64 id, .int .i64 kind, .int .i64 dst, .int .i64 a, .int .i64 bb, .int .i64 c, .int .i64 ff, .int .i64 nn, .int .i64 x0, .int .i64 x1, .int .i64 x2] 45
    rw [World.size_alloc] at hn2
    refine hK _ _ (((KeepsOthers.alloc _ _).trans (KeepsOthers.alloc _ _)).from _) (hb.mono (by have := h3.size; omega)) ⟨⟨v, (h1.alloc _).alloc _, (h2.alloc _).alloc _, trivial⟩, h3.trans (hb.mono (by have := h3.size; omega))⟩ ⟨W.heap.size, W.heap.size + 1, ?_, ?_, rfl⟩
    · exact hn1.alloc (Nat.zero_lt_succ _) _
    · exact hn2
  case body =>
    rintro l pre ⟨⟨xf, xb, xk, ⟨id, kind, dst, a, bb, c, ff, nn, x0, x1, x2⟩⟩, hx⟩ a' W hl hr ⟨⟨v, hv, hrow, _⟩, hB⟩ ⟨B1, B2, h1, h2, rfl⟩ hlt
    have hc := hv.cell
    have hsn := callsL_snoc f (vals pre) ⟨xf, xb, xk, ⟨id, kind, dst, a, bb, c, ff, nn, x0, x1, x2⟩⟩
    have hle := callsL_le f (vals pre)
    have hpl : (vals pre).length < 6000 := by have := HPL.out; simp [vals]; omega
    have hf1 := (hB.cell (p := ⟨g + 1, 0, none⟩) hglt).trans (HXf.out 0 _ rfl).1
    have b10 := (h1 0 _ rfl).1
    have b11 := (h1 1 _ rfl).1
    have b12 := (h1 2 _ rfl).1
    have b21 := (h2 1 _ rfl).1
    have b26 := (h2 6 _ rfl).1
    dsimp only [At.cells3] at b10 b11 b12 b21 b26 hsn
    have HSN := Lib.hid hsn
    have HBB := Lib.hid hB
    have hgs : gl ≤ W.heap.size := by have := hB.size; omega
    clear hbx hc4' h1 h2 hsn
    unfold Ins.val
    dsimp only
    by_cases hk7 : kind = 7
    · by_cases hff : ff = f
      · subst hk7
        subst hff
        have h63 : (callsL ff (vals pre)).length + 1 ≤ maxLen := by unfold maxLen; omega
        have hby : ((callsL ff (vals pre)).length + 1) * 24 ≤ 140737488355328 := by omega
        have hnew : ∀ j u, [Value.int .i64 (xf : Int), .int .i64 (xb : Int), .int .i64 (xk : Int)][j]? = some u → (W.alloc (.cells #[.int .i64 (xf : Int), .int .i64 (xb : Int), .int .i64 (xk : Int)] 43)).cell? ((⟨W.heap.size, 0, none⟩ : Addr).add j) = some u := fun j u hj => by
          have := (BoxL.new W [.int .i64 (xf : Int), .int .i64 (xb : Int), .int .i64 (xk : Int)] 43 j u hj).1
          have hadd : (⟨W.heap.size, 0, none⟩ : Addr).add j = ⟨W.heap.size, j, none⟩ := by unfold Addr.add; split <;> simp_all
          rw [hadd]
          exact this
        gi_wp2_with (gi_at_builtin; refine wpListIn_append_own _ rfl _ _ 47 rfl gl 43 i0 _ 3 24 Tryd.underlying47 hi hz0 hz1 hz2 rfl (by decide) _ _ _ rfl (hrow.alloc _) ⟨W.heap.size, 0, none⟩ 1 1 [.int .i64 (xf : Int), .int .i64 (xb : Int), .int .i64 (xk : Int)] rfl rfl hnew (by simp [Value.oneCell']) h63 hby (by simp only [World.size_alloc]; omega) ?_; intro v' w1 hown' hgrow _; obtain ⟨g', cap', rfl⟩ := ownsRow_succ hown'; obtain ⟨hv1, hv2, hr2, hk2, hb2⟩ := hv.appended (by decide) hrow hgs (Nat.le_refl _) hown' hgrow; have hc1 := hv1.cell; have hf1 := hv1.frozen)
        have he : callsL ff (vals pre ++ [⟨xf, xb, xk, ⟨id, 7, dst, a, bb, c, ff, nn, x0, x1, x2⟩⟩]) = callsL ff (vals pre) ++ [⟨xf, xb, xk, ⟨id, 7, dst, a, bb, c, ff, nn, x0, x1, x2⟩⟩] := by rw [HSN.out]; simp
        first | exact ⟨hk2.from _, hb2, ⟨_, hv2, by rw [vals_app]; dsimp only; rw [he, List.length_append, flat3_snoc]; exact hr2, trivial⟩, HBB.out.trans hb2⟩ | exact ⟨hk2.from _, hb2, ⟨_, hv2, by rw [vals_app]; dsimp only; rw [he, List.length_append, flat3_snoc]; exact hr2⟩, HBB.out.trans hb2⟩
      · have hfb : (ff == f) = false := by simpa using hff
        subst hk7
        gi_wp2
        have he : callsL f (vals pre ++ [⟨xf, xb, xk, ⟨id, 7, dst, a, bb, c, ff, nn, x0, x1, x2⟩⟩]) = callsL f (vals pre) := by rw [HSN.out, if_neg (fun h => hff h.2), List.append_nil]
        rw [← he] at hrow
        first | exact ⟨KeepsFrom.refl _ _, Below.refl _ _, ⟨v, hv, by rw [vals_app]; exact hrow, trivial⟩, HBB.out⟩ | exact ⟨KeepsFrom.refl _ _, Below.refl _ _, ⟨v, hv, by rw [vals_app]; exact hrow⟩, HBB.out⟩
    · have hkb : (kind == 7) = false := by simpa using hk7
      gi_wp2
      have he : callsL f (vals pre ++ [⟨xf, xb, xk, ⟨id, kind, dst, a, bb, c, ff, nn, x0, x1, x2⟩⟩]) = callsL f (vals pre) := by rw [HSN.out, if_neg (fun h => hk7 h.1), List.append_nil]
      rw [← he] at hrow
      first | exact ⟨KeepsFrom.refl _ _, Below.refl _ _, ⟨v, hv, by rw [vals_app]; exact hrow, trivial⟩, HBB.out⟩ | exact ⟨KeepsFrom.refl _ _, Below.refl _ _, ⟨v, hv, by rw [vals_app]; exact hrow⟩, HBB.out⟩
  case done =>
    rintro D ys W hD hys ⟨⟨v, hv, hrow, _⟩, hB⟩ hK
    have hc := hv.cell
    rw [hys] at hrow
    gi_wp2
    refine ⟨by simp, .inl ⟨_, _, rfl, run_takeDeferred hK, ?_⟩⟩
    exact ⟨_, results_tmp rfl _ _ _, v, rfl, owns_base (ownsRow_putObj hrow _ hK rfl) HGG.out, (HBa.out.trans (hB.mono HGG.out)).trans (belowK_b (w := w) (by rw [hg]; exact Nat.le_refl _) W D _ _ (by omega) hK rfl rfl)⟩
  case stop =>
    rintro D c pre W _ _ h _
    exact h.elim
end Go.Proofs.YtdhdpfloaelngaaDoor
