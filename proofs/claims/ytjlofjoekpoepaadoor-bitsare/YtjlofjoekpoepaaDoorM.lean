import Derived.Lib.LazyBuf
import Derived.Deep.RegionHeld3
import Derived.Test.YtjlofjoekpoepaaDoorL
namespace Go.Proofs.YtjlofjoekpoepaaDoor
open Go Go.RowKit Go.Sort

/-- Words of the call's own; or none. -/
def FreshV (n0 : Nat) (W : World) (a : Option Addr) (ws : List Nat) : Prop := ws = [] ∨ ∃ g, a = some ⟨g, 0, none⟩ ∧ Fresh n0 W g ws

theorem FreshV.wd {n0 : Nat} {W : World} {a : Option Addr} {ws : List Nat} (h : FreshV n0 W a ws) : Wd W.heap.size W a ws := by
  rcases h with rfl | ⟨g, rfl, hF⟩
  · exact Wd.nil _ _ _
  · exact hF.wd
theorem FreshV.below {n0 : Nat} {W W' : World} {a : Option Addr} {ws : List Nat} (h : FreshV n0 W a ws) (hb : Below W.heap.size W W') : FreshV n0 W' a ws := by
  rcases h with rfl | ⟨g, rfl, hF⟩
  · exact .inl rfl
  · exact .inr ⟨g, rfl, hF.below hb hF.lt⟩
theorem FreshV.base {n0 n1 : Nat} {W : World} {a : Option Addr} {ws : List Nat} (h : FreshV n0 W a ws) (hn : n1 ≤ n0) : FreshV n1 W a ws := by
  rcases h with rfl | ⟨g, rfl, hF⟩
  · exact .inl rfl
  · exact .inr ⟨g, rfl, hF.base hn⟩

def encW (x : Nat) : Value := .int .u64 (x : Int)

theorem freshV_of_owns {n0 : Nat} {W : World} {v : Value} {ws : List Nat} (h : W.ownsRow n0 52 1 v ws.length (ws.map encW)) : ∃ a cap, v = .slice a ws.length cap ∧ FreshV n0 W a ws := by
  obtain ⟨_, ⟨rfl, h0⟩ | ⟨g, cap, cur, rfl, hb, hc, hle, _, hsz, htk⟩⟩ := h
  · have := List.eq_nil_of_length_eq_zero h0
    subst this
    exact ⟨none, 0, rfl, .inl rfl⟩
  · refine ⟨_, cap, rfl, .inr ⟨g, rfl, hb, cur, hc, by omega, fun j hj => ?_⟩⟩
    have e : (cur.toList.take (ws.length * 1))[j]? = (ws.map encW)[j]? := by rw [htk]
    rw [Nat.mul_one, List.getElem?_take_of_lt hj] at e
    rw [← Array.getElem?_toList, e]
    simp [encW, hj]

set_option maxRecDepth 100000 in
set_option maxHeartbeats 1000000 in
theorem Clone_any (a : Option Addr) (ws : List Nat) (c : Nat) (w : World) (hWd : Wd w.heap.size w a ws) (hl : ws.length ≤ 30) :
    Calls Tryd.prog 58 #[.slice a ws.length c] w fun e w' => ∃ a' cap', e = .returned (.slice a' ws.length cap') ∧ FreshV w.heap.size w' a' ws ∧ Below w.heap.size w w' := by
  have q22 : ∀ (w : World) (a : Option Addr) (n c : Nat), (binOp .eql 22 (.slice a n c) (.slice none 0 0)).run Tryd.prog w = .ok (.bool a.isNone) w := fun w a n c => Lib.run_eql_slice_nil w _ _ a n c 0 0 Tryd.underlying22
  cases a with
  | none =>
    have hz : ws = [] := by
      cases ws with
      | nil => rfl
      | cons x r => obtain ⟨b, o, e, _⟩ := hWd 0 (by simp); cases e
    subst hz
    clear hWd
    go_enter Tryd.func58, Tryd.ntmps58
    go_wp2
    go_ret
    exact ⟨none, 0, rfl, .inl rfl, Below.refl _ _⟩
  | some ad =>
    obtain ⟨i0, hi, hz0, hz1, hz2⟩ := info_parts Tryd_info52
    have H := Lib.hid hWd
    clear hWd
    go_enter Tryd.func58, Tryd.ntmps58
    go_wp2_with (at_builtin; (refine wpList_append_own _ rfl _ _ 22 rfl w.heap.size 52 i0 (.int .u64 0) 1 8 Tryd.underlying22 hi hz0 hz1 hz2 rfl (by decide) _ _ _ rfl (World.ownsRow_made w #[] 0 (Nat.le_refl _) (Nat.zero_le _) rfl) ad ws.length c (ws.map encW) rfl ?qc1 ?qc2 ?qc3 ?qc4 ?qc5 ?qc6 ?_))
    case qc1 => simp
    case qc2 =>
      intro j u hj
      have hjn : j < ws.length := by
        have := (List.getElem?_eq_some_iff.1 hj).1
        simpa using this
      obtain ⟨b, o, e, hb, hc⟩ := H.out j hjn
      cases e
      rw [Addr.add_lit]
      refine ((Below.refl w.heap.size w).alloc (Nat.le_refl _) _ |>.cell (p := ⟨b, o + j, none⟩) hb).trans ?_
      rw [hc]
      simp [encW, hjn] at hj
      rw [← hj]
      simp [hjn]
    case qc3 => intro u hu; obtain ⟨x, _, rfl⟩ := List.mem_map.1 hu; rfl
    case qc4 => unfold maxLen; omega
    case qc5 => omega
    case qc6 => simp
    intro v' w1 hown hgrow hnil
    have hex := freshV_of_owns (n0 := w.heap.size) (W := w1) (v := v') (ws := ws) (by simpa using hown)
    obtain ⟨a', cap', hv, hF⟩ := hex
    rw [hv]
    have HF := Lib.hid hF
    have HG := Lib.hid hgrow
    clear hF hown hnil hgrow
    go_wp2
    go_ret
    exact ⟨a', cap', rfl, HF.out, ((Below.refl _ w).alloc (Nat.le_refl _) _).grown HG.out (by simp) (by intro k hk; simp [Value.ownBlock] at hk; omega)⟩

set_option maxRecDepth 100000 in
set_option maxHeartbeats 2000000 in
theorem copyOf_any (v : Value) (n : Int) (ws : List Nat) (w : World) (hv : SV w v n ws) (hl : ws.length ≤ 30) :
    Calls Tryd.prog 46 #[v] w fun e w' => ∃ a' cap', e = .returned (.agg #[.int .i64 (nrm n ws : Nat), .slice a' (nrmW n ws).length cap']) ∧ FreshV w.heap.size w' a' (nrmW n ws) ∧ Below w.heap.size w w' := by
  have hv0 := hv
  obtain ⟨a, cap, rfl, hWd⟩ := hv
  have hlw : (nrmW n ws).length ≤ 30 := by unfold nrmW; split <;> simp [hl]
  have hW2 : Below w.heap.size w ((w.alloc (.cells #[.int .i64 n, .slice a ws.length cap] 28)).alloc (.cells #[.int .i64 0, .slice none 0 0] 28)) := ((Below.refl _ _).alloc (Nat.le_refl _) _).alloc (by simp) _
  have HS := Lib.hid (saneOrEmpty_any w.heap.size _ n ws _ (SVB.below hv0 hW2) hW2.size hl)
  have BA := (Box.new w (.int .i64 n) (.slice a ws.length cap) 28).alloc (.cells #[.int .i64 0, .slice none 0 0] 28)
  have BB := Box.new (w.alloc (.cells #[.int .i64 n, .slice a ws.length cap] 28)) (.int .i64 0) (.slice none 0 0) 28
  simp only [World.size_alloc] at BB
  have HW2 := Lib.hid hW2
  generalize hW : (w.alloc (.cells #[.int .i64 n, .slice a ws.length cap] 28)).alloc (.cells #[.int .i64 0, .slice none 0 0] 28) = W2 at *
  clear hv0 hWd hW2
  generalize nrm n ws = n' at *
  generalize nrmW n ws = ws' at *
  obtain ⟨a0, a1, _, _⟩ := id BA
  go_enter Tryd.func46, Tryd.ntmps46
  go_wp2_with fail
  refine HS.out.mono ?_
  clear HS
  rintro e w1 ⟨u, rfl, hsv, hb⟩
  obtain ⟨a', cap', rfl, hWd'⟩ := hsv
  have hb1 := HW2.out.trans (hb.mono HW2.out.size)
  have BA1 := BA.below hb BA.lt
  have BB1 := BB.below hb BB.lt
  have BA4 := (BA1.put (.int .i64 (n' : Int)) (.slice a' ws'.length cap')).drew
  have BB4 := (BB1.other (b' := w.heap.size) (by omega) (.int .i64 (n' : Int)) (.slice a' ws'.length cap')).drew
  have hb4 := (below_put2 hb1 (b := w.heap.size) (Nat.le_refl _) (.int .i64 (n' : Int)) (.slice a' ws'.length cap')).drew
  have hWd4 := hWd'.below (below_put2 (Below.refl w.heap.size w1) (b := w.heap.size) (Nat.le_refl _) (.int .i64 (n' : Int)) (.slice a' ws'.length cap')).drew
  have HCl := Lib.hid (Clone_any a' ws' cap' _ (hWd4.mono hb4.size) hlw)
  obtain ⟨c0, c1, f0, f1⟩ := id BA1
  clear hb hb1 hWd' BA BB hW HW2 a0 a1 hWd4
  have HA4 := Lib.hid BA4
  have HB4 := Lib.hid BB4
  have HBB4 := Lib.hid hb4
  clear BA4 BB4 hb4 BA1 BB1
  go_wp2_with fail
  have BA4 := HA4.out
  have BB4 := HB4.out
  generalize (w1.setCell ⟨w.heap.size, 0, none⟩ (.int .i64 (n' : Int))).setCell ⟨w.heap.size, 1, none⟩ (.slice a' ws'.length cap') = W4 at *
  obtain ⟨x0, x1, _, _⟩ := id BA4
  clear c0 c1 f0 f1 HA4 HB4
  go_region_with (go_at_call 58; refine HCl.out.mono ?_; clear HCl; rintro e w5 ⟨a5, cap5, rfl, hF5, hb5⟩; obtain ⟨y0, y1, _, _⟩ := BA4.below hb5 BA4.lt; obtain ⟨z0, z1, g0, g1⟩ := BB4.below hb5 BB4.lt; have HF5 := Lib.hid hF5; have HB5 := Lib.hid hb5; clear hF5 hb5)
  all_goals
    go_wp2_with fail
    have hb5 := HBB4.out.trans (HB5.out.mono HBB4.out.size)
    have hput := below_put2 hb5 (b := w.heap.size + 1) (by omega) (.int .i64 (n' : Int)) (.slice a5 ws'.length cap5)
    refine bodyPost_ret (v := .agg #[.int .i64 (n' : Int), .slice a5 ws'.length cap5]) (by simp [results, Tryd.results46, go_sem, z0, z1]) rfl ⟨a5, cap5, rfl, ?_, hput⟩
    rcases HF5.out with h | ⟨g, rfl, hF⟩
    · exact .inl h
    · refine .inr ⟨g, rfl, (hF.base HBB4.out.size).block (heap_put2 _ _ _ _ _ ?_)⟩
      have h1 := hF.1
      have h2 := BB4.lt
      omega
end Go.Proofs.YtjlofjoekpoepaaDoor
