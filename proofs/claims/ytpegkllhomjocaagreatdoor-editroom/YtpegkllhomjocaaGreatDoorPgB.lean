/- Programs: wrongSucc. -/
import Derived.Test.YtpegkllhomjocaaGreatDoorPgA
namespace Go.Proofs.YtpegkllhomjocaaGreatDoor
open Go Go.RowKit Go.Sort

theorem iface_ne (s : ByteArray) (t : TypeId) : Value.iface t (.string s) ≠ .nilIface := by simp

set_option maxRecDepth 100000 in
set_option maxHeartbeats 4000000 in
theorem wrongSucc_any (f : Fd) (a : Option Addr) (s : List Int) (cap : Nat) (w : World) (hf : FdIs w.heap.size w f) (hs : Is w.heap.size w a s) (L : Nat) (hL : s.length = L) (hl : L ≤ 1000) :
    Calls Tryz.prog 156 #[f.val, .slice a L cap] w fun e w' => ∃ v, e = .returned v ∧ ToldD 0 (succOk f.blocks s) v ∧ Below w.heap.size w w' := by
  obtain ⟨ar, vr, ba, bc, bl⟩ := f
  unfold Fd.val
  dsimp only at *
  have HF := Lib.hid hf
  have HS := Lib.hid hs
  have HL := Lib.hid hL
  have HW := Lib.hid (below1 w (.cells #[.int .i64 ar, .int .i64 vr, .slice ba bl.length bc] 29))
  obtain ⟨M, hM⟩ : ∃ M, bl.length = M := ⟨_, rfl⟩
  have HM := Lib.hid hM
  clear hf hs hL
  rw [hM] at HW ⊢
  clear hM
  go_enter Tryz.func156, Tryz.ntmps156
  go_wp2
  go_loop [9] (fun i => ∃ q : Nat, q ≤ L ∧ i = .int .i64 q ∧ Hid (∀ k, k < q → (0 < k → numAt s (k - 1) < numAt s k) ∧ liveAt bl (numAt s k))) (fun i => L - (intOf i).toNat)
  case atStart => exact ⟨0, Nat.zero_le _, rfl, fun k hk => absurd hk (Nat.not_lt_zero _)⟩
  case round =>
    obtain ⟨q, hq, rfl, hok⟩ := hrel
    by_cases hlt : q < L
    · obtain ⟨b, o, rfl, hbl, hcell⟩ := HS.out q (by rw [HL.out]; exact hlt)
      obtain ⟨x, hx⟩ : ∃ x, s[q]?.getD 0 = x := ⟨_, rfl⟩
      have hcx := (HW.out.cell (p := ⟨b, o + q, none⟩) hbl).trans hcell
      rw [hx] at hcx
      have HX := Lib.hid (show numAt s q = x from hx)
      have hqi : (q : Int) < (L : Int) := by omega
      have HIL := Lib.hid (fun r hr => isLive_any ba bl bc x _ (BlksIs.on HF.out HW.out) M HM.out r hr)
      clear hcell hx
      by_cases hq0 : q = 0
      · subst hq0
        replace hcx : (w.alloc (.cells #[.int .i64 ar, .int .i64 vr, .slice ba M bc] 29)).cell? ⟨b, o, none⟩ = some (.int .i64 x) := hcx
        by_cases hlv : liveAt bl x
        · have HC := Lib.hid (HIL.out true (by simp [hlv]))
          have HLV := Lib.hid hlv
          clear HIL hlv
          go_wp2_with (go_at_call 59; refine HC.out.mono ?_; rintro e w' ⟨rfl, rfl⟩)
          refine ⟨⟨1, by omega, by go_num, fun k hk => ?_⟩, by simp [intOf]; omega⟩
          obtain rfl : k = 0 := by omega
          exact ⟨fun h => absurd h (Nat.lt_irrefl _), by rw [HX.out]; exact HLV.out⟩
        · have HC := Lib.hid (HIL.out false (by simp [hlv]))
          have HLV := Lib.hid hlv
          clear HIL hlv
          go_wp2_with (go_at_call 59; refine HC.out.mono ?_; rintro e w' ⟨rfl, rfl⟩)
          go_ret
          refine ⟨_, rfl, .inr ⟨fun h => ?_, 0, Nat.le_refl _, EV.fault _⟩, HW.out⟩
          have := (h 0 (by rw [HL.out]; exact hlt)).2
          rw [HX.out] at this
          exact HLV.out this
      · obtain ⟨p, rfl⟩ : ∃ p, q = p + 1 := ⟨q - 1, by omega⟩
        obtain ⟨b', o', e', -, hcell'⟩ := HS.out p (by rw [HL.out]; omega)
        cases e'
        obtain ⟨y, hy⟩ : ∃ y, s[p]?.getD 0 = y := ⟨_, rfl⟩
        have hcy := (HW.out.cell (p := ⟨b, o + p, none⟩) hbl).trans hcell'
        rw [hy] at hcy
        have HY := Lib.hid (show numAt s p = y from hy)
        clear hcell' hy
        by_cases hxy : x ≤ y
        · clear HIL
          go_wp2_with fail
          go_ret
          refine ⟨_, rfl, .inr ⟨fun h => ?_, 0, Nat.le_refl _, EV.fault _⟩, HW.out⟩
          have := (h (p + 1) (by rw [HL.out]; exact hlt)).1 (by omega)
          rw [HX.out] at this
          have h2 : numAt s p < x := this
          rw [HY.out] at h2
          omega
        have hxy' : y < x := by omega
        by_cases hlv : liveAt bl x
        · have HC := Lib.hid (HIL.out true (by simp [hlv]))
          have HLV := Lib.hid hlv
          clear HIL hlv
          go_wp2_with (go_at_call 59; refine HC.out.mono ?_; rintro e w' ⟨rfl, rfl⟩)
          refine ⟨⟨p + 1 + 1, by omega, by go_num, fun k hk => ?_⟩, by simp [intOf]; omega⟩
          rcases Nat.lt_succ_iff_lt_or_eq.1 hk with h | rfl
          · exact hok.out k h
          · exact ⟨fun _ => by rw [HX.out]; show numAt s p < x; rw [HY.out]; omega, by rw [HX.out]; exact HLV.out⟩
        · have HC := Lib.hid (HIL.out false (by simp [hlv]))
          have HLV := Lib.hid hlv
          clear HIL hlv
          go_wp2_with (go_at_call 59; refine HC.out.mono ?_; rintro e w' ⟨rfl, rfl⟩)
          go_ret
          refine ⟨_, rfl, .inr ⟨fun h => ?_, 0, Nat.le_refl _, EV.fault _⟩, HW.out⟩
          have := (h (p + 1) (by rw [HL.out]; exact hlt)).2
          rw [HX.out] at this
          exact HLV.out this
    · obtain rfl : q = L := by omega
      go_wp2
      go_ret
      refine ⟨_, rfl, .inl ⟨?_, rfl⟩, HW.out⟩
      intro k hk
      exact hok.out k (by rw [← HL.out]; exact hk)
end Go.Proofs.YtpegkllhomjocaaGreatDoor
