import Derived.Test.YtcmncclibhjepaaEnvE
namespace Go.Proofs.Ytcmncclibhjepaa
open Go Go.RowKit Go.Sort

/-- n values that are read, of numbers; of signs. -/
def FE (W : World) (a : Option Addr) (n : Nat) (l : List V) : Prop := FIs W.heap.size W a l ∧ l.length = n
def SE (W : World) (a : Option Addr) (n : Nat) (l : List Int) : Prop := Is W.heap.size W a l ∧ l.length = n
theorem FE.below {W W' : World} {a : Option Addr} {n : Nat} {l : List V} (h : FE W a n l) (hb : Below W.heap.size W W') : FE W' a n l := ⟨(h.1.below hb).mono hb.size, h.2⟩
theorem SE.below {W W' : World} {a : Option Addr} {n : Nat} {l : List Int} (h : SE W a n l) (hb : Below W.heap.size W W') : SE W' a n l := ⟨(h.1.below hb).mono hb.size, h.2⟩
theorem FE.nil (W : World) (a : Option Addr) : FE W a 0 [] := ⟨FIs.nil _ _ _, rfl⟩
theorem SE.nil (W : World) (a : Option Addr) : SE W a 0 [] := ⟨Is.nil _ _ _, rfl⟩
theorem FreshF.fe {t : TypeId} {n0 : Nat} {W : World} {g : Nat} {l : List V} (h : FreshF t n0 W g l) {n : Nat} (hn : l.length = n) : FE W (some ⟨g, 0, none⟩) n l := ⟨h.fis, hn⟩
theorem FreshS.fe {t : TypeId} {n0 : Nat} {W : World} {g : Nat} {l : List Int} (h : FreshS t n0 W g l) {n : Nat} (hn : l.length = n) : SE W (some ⟨g, 0, none⟩) n l := ⟨h.fis, hn⟩
def joinF (on1 : Bool) (l1 : List V) (on2 : Bool) (l2 : List V) : List V := joinG vbot join on1 l1 on2 l2
def joinS (on1 : Bool) (l1 : List Int) (on2 : Bool) (l2 : List Int) : List Int := joinG 0 (fun x y => ((sS x ||| sS y : Nat) : Int)) on1 l1 on2 l2
def leqF (on1 : Bool) (l1 : List V) (on2 : Bool) (l2 : List V) : Bool := leqG vbot leq on1 l1 on2 l2
def leqS (on1 : Bool) (l1 : List Int) (on2 : Bool) (l2 : List Int) : Bool := leqG 0 (fun x y => leqN (sS x) (sS y)) on1 l1 on2 l2
/-- With another value: laid place by place. -/
def setF (on : Bool) (l : List V) (i : Int) (v : V) : List V := if on then putG (tabG (fun j => (atG vbot true l (j : Int)).sn) l.length) i v.sn else []
def setS (on : Bool) (l : List Int) (i : Int) (v : Int) : List Int := if on then putG (tabG (fun j => ((sS (atG 0 true l (j : Int)) : Nat) : Int)) l.length) i ((sS v : Nat) : Int) else []
theorem putG_length {α : Type} (l : List α) (i : Int) (v : α) : (putG l i v).length = l.length := by unfold putG; split <;> simp
theorem joinG_length {α : Type} (d : α) (jn : α → α → α) (on1 : Bool) (l1 : List α) (on2 : Bool) (l2 : List α) : (joinG d jn on1 l1 on2 l2).length = max (szG on1 l1) (szG on2 l2) := tabG_length _ _

theorem cell_put2 {W : World} {b : Nat} {x y : Value} {p : Addr} (h : p.block ≠ b) : ((W.setCell ⟨b, 0, none⟩ x).setCell ⟨b, 1, none⟩ y).cell? p = W.cell? p := World.cell?_of_block (heap_put2 W b p.block x y h)
theorem FE.put {W : World} {a : Option Addr} {n : Nat} {l : List V} (h : FE W a n l) {b : Nat} (hne : ∀ g o, a = some ⟨g, o, none⟩ → g ≠ b) (x y : Value) : FE ((W.setCell ⟨b, 0, none⟩ x).setCell ⟨b, 1, none⟩ y) a n l :=
  ⟨fun j hj => let ⟨g, o, e, hlt, h0, h1⟩ := h.1 j hj; ⟨g, o, e, by rw [size_put2]; exact hlt, (cell_put2 (hne g o e)).trans h0, (cell_put2 (hne g o e)).trans h1⟩, h.2⟩
theorem SE.put {W : World} {a : Option Addr} {n : Nat} {l : List Int} (h : SE W a n l) {b : Nat} (hne : ∀ g o, a = some ⟨g, o, none⟩ → g ≠ b) (x y : Value) : SE ((W.setCell ⟨b, 0, none⟩ x).setCell ⟨b, 1, none⟩ y) a n l :=
  ⟨fun j hj => let ⟨g, o, e, hlt, h0⟩ := h.1 j hj; ⟨g, o, e, by rw [size_put2]; exact hlt, (cell_put2 (hne g o e)).trans h0⟩, h.2⟩

theorem joinedF_any (on1 : Bool) (a1 : Option Addr) (n1 cap1 : Nat) (l1 : List V) (on2 : Bool) (a2 : Option Addr) (n2 cap2 : Nat) (l2 : List V) (w : World) (h1 : FE w a1 n1 l1) (h2 : FE w a2 n2 l2) (hl1 : n1 ≤ 200) (hl2 : n2 ≤ 200) :
    Calls Try.prog 47 #[.agg #[.bool on1, .slice a1 n1 cap1], .agg #[.bool on2, .slice a2 n2 cap2], .func (.func 38) #[] #[]] w fun e w' =>
      ∃ a cap, e = .returned (.agg #[.bool (on1 || on2), .slice a (max (szG on1 l1) (szG on2 l2)) cap]) ∧ FE w' a (max (szG on1 l1) (szG on2 l2)) (joinF on1 l1 on2 l2) ∧ (∀ g, (∃ o : Nat, a = some ⟨g, o, none⟩) → w.heap.size ≤ g) ∧ Below w.heap.size w w' := by
  obtain ⟨hi1, rfl⟩ := h1
  obtain ⟨hi2, rfl⟩ := h2
  by_cases hon : (on1 || on2) = true
  · refine (joinedF_on on1 a1 l1 cap1 on2 a2 l2 cap2 w hi1 hi2 hl1 hl2 hon _ (fun _ => rfl) _ _ _ rfl rfl rfl).mono ?_
    rintro e w' ⟨g, rfl, hF, hb⟩
    rw [hon]
    exact ⟨_, _, rfl, ⟨hF.fis, tabG_length _ _⟩, (by rintro _ ⟨o, h⟩; cases h; exact hF.1), hb⟩
  · obtain ⟨rfl, rfl⟩ : on1 = false ∧ on2 = false := by cases on1 <;> cases on2 <;> simp_all
    refine (joinedF_off a1 l1.length cap1 a2 l2.length cap2 w).mono ?_
    rintro e w' ⟨rfl, hb⟩
    exact ⟨none, 0, rfl, FE.nil _ _, (by rintro _ ⟨o, h⟩; cases h), hb⟩

set_option maxHeartbeats 2000000 in
theorem JoinF_any (on1 : Bool) (a1 : Option Addr) (n1 cap1 : Nat) (l1 : List V) (on2 : Bool) (a2 : Option Addr) (n2 cap2 : Nat) (l2 : List V) (w : World) (h1 : FE w a1 n1 l1) (h2 : FE w a2 n2 l2) (hl1 : n1 ≤ 200) (hl2 : n2 ≤ 200) (on : Bool) (l : List V) (n : Nat) (ho : (on1 || on2) = on) (hl : joinF on1 l1 on2 l2 = l) (hn : max (szG on1 l1) (szG on2 l2) = n) :
    Calls Try.prog 17 #[.agg #[.bool on1, .slice a1 n1 cap1], .agg #[.bool on2, .slice a2 n2 cap2]] w fun e w' => ∃ a cap, e = .returned (.agg #[.bool on, .slice a n cap]) ∧ FE w' a n l ∧ Below w.heap.size w w' := by
  have hW := below3 w (.cells #[.bool on1, .slice a1 n1 cap1] 30) (.cells #[.bool on2, .slice a2 n2 cap2] 30) (.cells #[.bool false, .slice none 0 0] 30)
  have HC := Lib.hid (joinedF_any on1 a1 n1 cap1 l1 on2 a2 n2 cap2 l2 _ (h1.below hW) (h2.below hW) hl1 hl2)
  rw [ho, hl, hn] at HC
  have BR := Box.new ((w.alloc (.cells #[.bool on1, .slice a1 n1 cap1] 30)).alloc (.cells #[.bool on2, .slice a2 n2 cap2] 30)) (.bool false) (.slice none 0 0) 30
  have hsz : (((w.alloc (.cells #[.bool on1, .slice a1 n1 cap1] 30)).alloc (.cells #[.bool on2, .slice a2 n2 cap2] 30)).alloc (.cells #[.bool false, .slice none 0 0] 30)).heap.size = w.heap.size + 3 := by simp
  simp only [World.size_alloc] at BR
  have HW := Lib.hid hW
  have HZ := Lib.hid hsz
  clear h1 h2 hl1 hl2 ho hl hn hW hsz
  go_enter Try.func17, Try.ntmps17
  go_wp2_with (go_at_call 47; refine HC.out.mono ?_; clear HC; rintro e w1 ⟨a, cap, rfl, hF, hg, hb⟩; obtain ⟨d2, d3, g2, g3⟩ := BR.below hb BR.lt; have HX := Lib.hid (HW.out.trans (hb.mono HW.out.size)); have HF := Lib.hid hF; have HG := Lib.hid hg; clear hb hF hg BR)
  have hb2 := below_put2 HX.out (b := w.heap.size + 1 + 1) (by omega) (.bool on) (.slice a n cap)
  refine bodyPost_ret (v := .agg #[.bool on, .slice a n cap]) (by simp [results, Try.results17, go_sem, d2, d3]) rfl ⟨a, cap, rfl, ?_, hb2⟩
  exact HF.out.put (fun g o e => by have := HG.out g ⟨o, e⟩; have := HZ.out; omega) _ _

set_option maxHeartbeats 2000000 in
theorem LeqF_any (on1 : Bool) (a1 : Option Addr) (n1 cap1 : Nat) (l1 : List V) (on2 : Bool) (a2 : Option Addr) (n2 cap2 : Nat) (l2 : List V) (w : World) (h1 : FE w a1 n1 l1) (h2 : FE w a2 n2 l2) (hl1 : n1 ≤ 200) (r : Bool) (hr : leqF on1 l1 on2 l2 = r) :
    Calls Try.prog 13 #[.agg #[.bool on1, .slice a1 n1 cap1], .agg #[.bool on2, .slice a2 n2 cap2]] w fun e w' => e = .returned (.bool r) ∧ Below w.heap.size w w' := by
  have hW := below2 w (.cells #[.bool on1, .slice a1 n1 cap1] 30) (.cells #[.bool on2, .slice a2 n2 cap2] 30)
  have HC : Hid (Calls Try.prog 44 #[.agg #[.bool on1, .slice a1 n1 cap1], .agg #[.bool on2, .slice a2 n2 cap2], .func (.func 45) #[] #[]] ((w.alloc (.cells #[.bool on1, .slice a1 n1 cap1] 30)).alloc (.cells #[.bool on2, .slice a2 n2 cap2] 30)) fun e w' => e = .returned (.bool r) ∧ Below ((w.alloc (.cells #[.bool on1, .slice a1 n1 cap1] 30)).alloc (.cells #[.bool on2, .slice a2 n2 cap2] 30)).heap.size ((w.alloc (.cells #[.bool on1, .slice a1 n1 cap1] 30)).alloc (.cells #[.bool on2, .slice a2 n2 cap2] 30)) w') := by
    obtain ⟨hi1, hx1⟩ := h1.below hW
    obtain ⟨hi2, hx2⟩ := h2.below hW
    have := belowF_any on1 a1 l1 cap1 on2 a2 l2 cap2 _ hi1 hi2 (by omega)
    rw [hx1, hx2, show leqG vbot _ on1 l1 on2 l2 = r from hr] at this
    exact this
  have HW := Lib.hid hW
  clear h1 h2 hl1 hr hW
  go_enter Try.func13, Try.ntmps13
  go_wp2_with (go_at_call 44; refine HC.out.mono ?_; clear HC; rintro e w1 ⟨rfl, hb⟩; have HX := Lib.hid (HW.out.trans (hb.mono HW.out.size)); clear hb)
  go_ret
  exact ⟨rfl, HX.out⟩

theorem changedF_any (on1 : Bool) (a1 : Option Addr) (n1 cap1 : Nat) (l1 : List V) (i : Int) (x y : Int) (w : World) (h1 : FE w a1 n1 l1) (hl1 : n1 ≤ 200) :
    Calls Try.prog 50 #[.agg #[.bool on1, .slice a1 n1 cap1], .int .i64 i, .agg #[.int .i64 x, .int .i64 y], .func (.func 41) #[] #[]] w fun e w' =>
      ∃ a cap, e = .returned (.agg #[.bool on1, .slice a (szG on1 l1) cap]) ∧ FE w' a (szG on1 l1) (setF on1 l1 i ⟨x, y⟩) ∧ (∀ g, (∃ o : Nat, a = some ⟨g, o, none⟩) → w.heap.size ≤ g) ∧ Below w.heap.size w w' := by
  obtain ⟨hi1, rfl⟩ := h1
  cases on1 with
  | true =>
    refine (changedF_on a1 l1 cap1 i x y w hi1 hl1 _ (fun _ => rfl) _ rfl).mono ?_
    rintro e w' ⟨g, rfl, hF, hb⟩
    exact ⟨_, _, rfl, ⟨hF.fis, by show (putG _ _ _).length = _; rw [putG_length, tabG_length]; rfl⟩, (by rintro _ ⟨o, h⟩; cases h; exact hF.1), hb⟩
  | false =>
    refine (changedF_off a1 l1.length cap1 i x y w).mono ?_
    rintro e w' ⟨rfl, hb⟩
    exact ⟨none, 0, rfl, FE.nil _ _, (by rintro _ ⟨o, h⟩; cases h), hb⟩

set_option maxHeartbeats 2000000 in
theorem SetF_fr (on1 : Bool) (a1 : Option Addr) (n1 cap1 : Nat) (l1 : List V) (i : Int) (x y : Int) (w : World) (h1 : FE w a1 n1 l1) (hl1 : n1 ≤ 200) (l : List V) (n : Nat) (hl : setF on1 l1 i ⟨x, y⟩ = l) (hn : szG on1 l1 = n) :
    Calls Try.prog 19 #[.agg #[.bool on1, .slice a1 n1 cap1], .int .i64 i, .agg #[.int .i64 x, .int .i64 y]] w fun e w' => ∃ a cap, e = .returned (.agg #[.bool on1, .slice a n cap]) ∧ FE w' a n l ∧ (∀ g, (∃ o : Nat, a = some ⟨g, o, none⟩) → w.heap.size ≤ g) ∧ Below w.heap.size w w' := by
  have hW := below3 w (.cells #[.bool on1, .slice a1 n1 cap1] 30) (.cells #[.int .i64 x, .int .i64 y] 32) (.cells #[.bool false, .slice none 0 0] 30)
  have HC := Lib.hid (changedF_any on1 a1 n1 cap1 l1 i x y _ (h1.below hW) hl1)
  rw [hl, hn] at HC
  have BR := Box.new ((w.alloc (.cells #[.bool on1, .slice a1 n1 cap1] 30)).alloc (.cells #[.int .i64 x, .int .i64 y] 32)) (.bool false) (.slice none 0 0) 30
  have hsz : (((w.alloc (.cells #[.bool on1, .slice a1 n1 cap1] 30)).alloc (.cells #[.int .i64 x, .int .i64 y] 32)).alloc (.cells #[.bool false, .slice none 0 0] 30)).heap.size = w.heap.size + 3 := by simp
  simp only [World.size_alloc] at BR
  have HW := Lib.hid hW
  have HZ := Lib.hid hsz
  clear h1 hl1 hl hn hW hsz
  go_enter Try.func19, Try.ntmps19
  go_wp2_with (go_at_call 50; refine HC.out.mono ?_; clear HC; rintro e w1 ⟨a, cap, rfl, hF, hg, hb⟩; obtain ⟨d2, d3, g2, g3⟩ := BR.below hb BR.lt; have HX := Lib.hid (HW.out.trans (hb.mono HW.out.size)); have HF := Lib.hid hF; have HG := Lib.hid hg; clear hb hF hg BR)
  have hb2 := below_put2 HX.out (b := w.heap.size + 1 + 1) (by omega) (.bool on1) (.slice a n cap)
  refine bodyPost_ret (v := .agg #[.bool on1, .slice a n cap]) (by simp [results, Try.results19, go_sem, d2, d3]) rfl ⟨a, cap, rfl, ?_, (fun g h => by have := HG.out g h; have := HZ.out; omega), hb2⟩
  exact HF.out.put (fun g o e => by have := HG.out g ⟨o, e⟩; have := HZ.out; omega) _ _
theorem SetF_any (on1 : Bool) (a1 : Option Addr) (n1 cap1 : Nat) (l1 : List V) (i : Int) (x y : Int) (w : World) (h1 : FE w a1 n1 l1) (hl1 : n1 ≤ 200) (l : List V) (n : Nat) (hl : setF on1 l1 i ⟨x, y⟩ = l) (hn : szG on1 l1 = n) :
    Calls Try.prog 19 #[.agg #[.bool on1, .slice a1 n1 cap1], .int .i64 i, .agg #[.int .i64 x, .int .i64 y]] w fun e w' => ∃ a cap, e = .returned (.agg #[.bool on1, .slice a n cap]) ∧ FE w' a n l ∧ Below w.heap.size w w' :=
  (SetF_fr on1 a1 n1 cap1 l1 i x y w h1 hl1 l n hl hn).mono fun _ _ ⟨a, cap, h, hF, _, hb⟩ => ⟨a, cap, h, hF, hb⟩

theorem joinedS_any (on1 : Bool) (a1 : Option Addr) (n1 cap1 : Nat) (l1 : List Int) (on2 : Bool) (a2 : Option Addr) (n2 cap2 : Nat) (l2 : List Int) (w : World) (h1 : SE w a1 n1 l1) (h2 : SE w a2 n2 l2) (hl1 : n1 ≤ 200) (hl2 : n2 ≤ 200) :
    Calls Try.prog 59 #[.agg #[.bool on1, .slice a1 n1 cap1], .agg #[.bool on2, .slice a2 n2 cap2], .func (.func 39) #[] #[]] w fun e w' =>
      ∃ a cap, e = .returned (.agg #[.bool (on1 || on2), .slice a (max (szG on1 l1) (szG on2 l2)) cap]) ∧ SE w' a (max (szG on1 l1) (szG on2 l2)) (joinS on1 l1 on2 l2) ∧ (∀ g, (∃ o : Nat, a = some ⟨g, o, none⟩) → w.heap.size ≤ g) ∧ Below w.heap.size w w' := by
  obtain ⟨hi1, rfl⟩ := h1
  obtain ⟨hi2, rfl⟩ := h2
  by_cases hon : (on1 || on2) = true
  · refine (joinedS_on on1 a1 l1 cap1 on2 a2 l2 cap2 w hi1 hi2 hl1 hl2 hon _ (fun _ => rfl) _ _ _ rfl rfl rfl).mono ?_
    rintro e w' ⟨g, rfl, hF, hb⟩
    rw [hon]
    exact ⟨_, _, rfl, ⟨hF.fis, tabG_length _ _⟩, (by rintro _ ⟨o, h⟩; cases h; exact hF.1), hb⟩
  · obtain ⟨rfl, rfl⟩ : on1 = false ∧ on2 = false := by cases on1 <;> cases on2 <;> simp_all
    refine (joinedS_off a1 l1.length cap1 a2 l2.length cap2 w).mono ?_
    rintro e w' ⟨rfl, hb⟩
    exact ⟨none, 0, rfl, SE.nil _ _, (by rintro _ ⟨o, h⟩; cases h), hb⟩

set_option maxHeartbeats 2000000 in
theorem JoinS_any (on1 : Bool) (a1 : Option Addr) (n1 cap1 : Nat) (l1 : List Int) (on2 : Bool) (a2 : Option Addr) (n2 cap2 : Nat) (l2 : List Int) (w : World) (h1 : SE w a1 n1 l1) (h2 : SE w a2 n2 l2) (hl1 : n1 ≤ 200) (hl2 : n2 ≤ 200) (on : Bool) (l : List Int) (n : Nat) (ho : (on1 || on2) = on) (hl : joinS on1 l1 on2 l2 = l) (hn : max (szG on1 l1) (szG on2 l2) = n) :
    Calls Try.prog 32 #[.agg #[.bool on1, .slice a1 n1 cap1], .agg #[.bool on2, .slice a2 n2 cap2]] w fun e w' => ∃ a cap, e = .returned (.agg #[.bool on, .slice a n cap]) ∧ SE w' a n l ∧ Below w.heap.size w w' := by
  have hW := below3 w (.cells #[.bool on1, .slice a1 n1 cap1] 49) (.cells #[.bool on2, .slice a2 n2 cap2] 49) (.cells #[.bool false, .slice none 0 0] 49)
  have HC := Lib.hid (joinedS_any on1 a1 n1 cap1 l1 on2 a2 n2 cap2 l2 _ (h1.below hW) (h2.below hW) hl1 hl2)
  rw [ho, hl, hn] at HC
  have BR := Box.new ((w.alloc (.cells #[.bool on1, .slice a1 n1 cap1] 49)).alloc (.cells #[.bool on2, .slice a2 n2 cap2] 49)) (.bool false) (.slice none 0 0) 49
  have hsz : (((w.alloc (.cells #[.bool on1, .slice a1 n1 cap1] 49)).alloc (.cells #[.bool on2, .slice a2 n2 cap2] 49)).alloc (.cells #[.bool false, .slice none 0 0] 49)).heap.size = w.heap.size + 3 := by simp
  simp only [World.size_alloc] at BR
  have HW := Lib.hid hW
  have HZ := Lib.hid hsz
  clear h1 h2 hl1 hl2 ho hl hn hW hsz
  go_enter Try.func32, Try.ntmps32
  go_wp2_with (go_at_call 59; refine HC.out.mono ?_; clear HC; rintro e w1 ⟨a, cap, rfl, hF, hg, hb⟩; obtain ⟨d2, d3, g2, g3⟩ := BR.below hb BR.lt; have HX := Lib.hid (HW.out.trans (hb.mono HW.out.size)); have HF := Lib.hid hF; have HG := Lib.hid hg; clear hb hF hg BR)
  have hb2 := below_put2 HX.out (b := w.heap.size + 1 + 1) (by omega) (.bool on) (.slice a n cap)
  refine bodyPost_ret (v := .agg #[.bool on, .slice a n cap]) (by simp [results, Try.results32, go_sem, d2, d3]) rfl ⟨a, cap, rfl, ?_, hb2⟩
  exact HF.out.put (fun g o e => by have := HG.out g ⟨o, e⟩; have := HZ.out; omega) _ _

set_option maxHeartbeats 2000000 in
theorem LeqS_any (on1 : Bool) (a1 : Option Addr) (n1 cap1 : Nat) (l1 : List Int) (on2 : Bool) (a2 : Option Addr) (n2 cap2 : Nat) (l2 : List Int) (w : World) (h1 : SE w a1 n1 l1) (h2 : SE w a2 n2 l2) (hl1 : n1 ≤ 200) (r : Bool) (hr : leqS on1 l1 on2 l2 = r) :
    Calls Try.prog 28 #[.agg #[.bool on1, .slice a1 n1 cap1], .agg #[.bool on2, .slice a2 n2 cap2]] w fun e w' => e = .returned (.bool r) ∧ Below w.heap.size w w' := by
  have hW := below2 w (.cells #[.bool on1, .slice a1 n1 cap1] 49) (.cells #[.bool on2, .slice a2 n2 cap2] 49)
  have HC : Hid (Calls Try.prog 56 #[.agg #[.bool on1, .slice a1 n1 cap1], .agg #[.bool on2, .slice a2 n2 cap2], .func (.func 57) #[] #[]] ((w.alloc (.cells #[.bool on1, .slice a1 n1 cap1] 49)).alloc (.cells #[.bool on2, .slice a2 n2 cap2] 49)) fun e w' => e = .returned (.bool r) ∧ Below ((w.alloc (.cells #[.bool on1, .slice a1 n1 cap1] 49)).alloc (.cells #[.bool on2, .slice a2 n2 cap2] 49)).heap.size ((w.alloc (.cells #[.bool on1, .slice a1 n1 cap1] 49)).alloc (.cells #[.bool on2, .slice a2 n2 cap2] 49)) w') := by
    obtain ⟨hi1, hx1⟩ := h1.below hW
    obtain ⟨hi2, hx2⟩ := h2.below hW
    have := belowS_any on1 a1 l1 cap1 on2 a2 l2 cap2 _ hi1 hi2 (by omega)
    rw [hx1, hx2, show leqG 0 _ on1 l1 on2 l2 = r from hr] at this
    exact this
  have HW := Lib.hid hW
  clear h1 h2 hl1 hr hW
  go_enter Try.func28, Try.ntmps28
  go_wp2_with (go_at_call 56; refine HC.out.mono ?_; clear HC; rintro e w1 ⟨rfl, hb⟩; have HX := Lib.hid (HW.out.trans (hb.mono HW.out.size)); clear hb)
  go_ret
  exact ⟨rfl, HX.out⟩

theorem changedS_any (on1 : Bool) (a1 : Option Addr) (n1 cap1 : Nat) (l1 : List Int) (i : Int) (v : Int) (w : World) (h1 : SE w a1 n1 l1) (hl1 : n1 ≤ 200) :
    Calls Try.prog 61 #[.agg #[.bool on1, .slice a1 n1 cap1], .int .i64 i, .int .i64 v, .func (.func 53) #[] #[]] w fun e w' =>
      ∃ a cap, e = .returned (.agg #[.bool on1, .slice a (szG on1 l1) cap]) ∧ SE w' a (szG on1 l1) (setS on1 l1 i v) ∧ (∀ g, (∃ o : Nat, a = some ⟨g, o, none⟩) → w.heap.size ≤ g) ∧ Below w.heap.size w w' := by
  obtain ⟨hi1, rfl⟩ := h1
  cases on1 with
  | true =>
    refine (changedS_on a1 l1 cap1 i v w hi1 hl1 _ (fun _ => rfl) _ rfl).mono ?_
    rintro e w' ⟨g, rfl, hF, hb⟩
    exact ⟨_, _, rfl, ⟨hF.fis, by show (putG _ _ _).length = _; rw [putG_length, tabG_length]; rfl⟩, (by rintro _ ⟨o, h⟩; cases h; exact hF.1), hb⟩
  | false =>
    refine (changedS_off a1 l1.length cap1 i v w).mono ?_
    rintro e w' ⟨rfl, hb⟩
    exact ⟨none, 0, rfl, SE.nil _ _, (by rintro _ ⟨o, h⟩; cases h), hb⟩

set_option maxHeartbeats 2000000 in
theorem SetS_fr (on1 : Bool) (a1 : Option Addr) (n1 cap1 : Nat) (l1 : List Int) (i : Int) (v : Int) (w : World) (h1 : SE w a1 n1 l1) (hl1 : n1 ≤ 200) (l : List Int) (n : Nat) (hl : setS on1 l1 i v = l) (hn : szG on1 l1 = n) :
    Calls Try.prog 34 #[.agg #[.bool on1, .slice a1 n1 cap1], .int .i64 i, .int .i64 v] w fun e w' => ∃ a cap, e = .returned (.agg #[.bool on1, .slice a n cap]) ∧ SE w' a n l ∧ (∀ g, (∃ o : Nat, a = some ⟨g, o, none⟩) → w.heap.size ≤ g) ∧ Below w.heap.size w w' := by
  have hW := below2 w (.cells #[.bool on1, .slice a1 n1 cap1] 49) (.cells #[.bool false, .slice none 0 0] 49)
  have HC := Lib.hid (changedS_any on1 a1 n1 cap1 l1 i v _ (h1.below hW) hl1)
  rw [hl, hn] at HC
  have BR := Box.new (w.alloc (.cells #[.bool on1, .slice a1 n1 cap1] 49)) (.bool false) (.slice none 0 0) 49
  have hsz : ((w.alloc (.cells #[.bool on1, .slice a1 n1 cap1] 49)).alloc (.cells #[.bool false, .slice none 0 0] 49)).heap.size = w.heap.size + 2 := by simp
  simp only [World.size_alloc] at BR
  have HW := Lib.hid hW
  have HZ := Lib.hid hsz
  clear h1 hl1 hl hn hW hsz
  go_enter Try.func34, Try.ntmps34
  go_wp2_with (go_at_call 61; refine HC.out.mono ?_; clear HC; rintro e w1 ⟨a, cap, rfl, hF, hg, hb⟩; obtain ⟨d2, d3, g2, g3⟩ := BR.below hb BR.lt; have HX := Lib.hid (HW.out.trans (hb.mono HW.out.size)); have HF := Lib.hid hF; have HG := Lib.hid hg; clear hb hF hg BR)
  have hb2 := below_put2 HX.out (b := w.heap.size + 1) (by omega) (.bool on1) (.slice a n cap)
  refine bodyPost_ret (v := .agg #[.bool on1, .slice a n cap]) (by simp [results, Try.results34, go_sem, d2, d3]) rfl ⟨a, cap, rfl, ?_, (fun g h => by have := HG.out g h; have := HZ.out; omega), hb2⟩
  exact HF.out.put (fun g o e => by have := HG.out g ⟨o, e⟩; have := HZ.out; omega) _ _
theorem SetS_any (on1 : Bool) (a1 : Option Addr) (n1 cap1 : Nat) (l1 : List Int) (i : Int) (v : Int) (w : World) (h1 : SE w a1 n1 l1) (hl1 : n1 ≤ 200) (l : List Int) (n : Nat) (hl : setS on1 l1 i v = l) (hn : szG on1 l1 = n) :
    Calls Try.prog 34 #[.agg #[.bool on1, .slice a1 n1 cap1], .int .i64 i, .int .i64 v] w fun e w' => ∃ a cap, e = .returned (.agg #[.bool on1, .slice a n cap]) ∧ SE w' a n l ∧ Below w.heap.size w w' :=
  (SetS_fr on1 a1 n1 cap1 l1 i v w h1 hl1 l n hl hn).mono fun _ _ ⟨a, cap, h, hF, _, hb⟩ => ⟨a, cap, h, hF, hb⟩

end Go.Proofs.Ytcmncclibhjepaa