/- ProgUses: its first ways. -/
import Derived.Test.YtdhdpfloaelngaaDoorPuE
import Derived.Test.YtdhdpfloaelngaaDoorPgY
namespace Go.Proofs.YtdhdpfloaelngaaDoor
open Go Go.RowKit Go.Sort

set_option maxRecDepth 100000 in
set_option maxHeartbeats 8000000 in
theorem progUses_few (p : Pg) (w : World) (hp : PgIs w.heap.size w p) (hT : KTab w) (hE : ETab w) (hno : ¬ p.few ∨ (p.few ∧ ¬ p.sane)) :
    Calls Tryd.prog 5 #[p.val] w fun e w' => e = .returned (.bool true) ∧ Below w.heap.size w w' := by
  have HH := Lib.hid (Here.new w p hp hT hE)
  have HB1 := Lib.hid (below1 w (.cells #[.slice p.pa p.funs.length p.pc] 24))
  have HA := Lib.hid (fun W (h : Here W p w.heap.size) => awake_any W h.2.1 h.2.2.1)
  have HFE := Lib.hid (fun W (h : Here W p w.heap.size) r hr => Few_any p W h.1 r hr)
  have HSA := Lib.hid (fun W (h : Here W p w.heap.size) hfew r hr => Sane_any p W h.1 h.2.1 h.2.2.1 hfew r hr)
  have HBX := Lib.hid (fun W (h : Here W p w.heap.size) => h.bx)
  clear hp hT hE
  unfold Pg.val at *
  obtain ⟨PL, hPL⟩ : ∃ PL, p.funs.length = PL := ⟨_, rfl⟩
  simp only [hPL] at HB1 HH HA HFE HSA HBX ⊢
  clear hPL
  generalize hE : w.alloc (.cells #[.slice p.pa PL p.pc] 24) = W at HB1 HH
  obtain ⟨g, hg⟩ : ∃ g, w.heap.size = g := ⟨_, rfl⟩
  have HGL := Lib.hid HB1.out.size
  rw [hg] at HB1 HH HA HFE HSA HBX HGL ⊢
  have k0 := HBX.out _ HH.out
  rcases hno with hno | ⟨hfw, hno⟩
  · have HF2 := Lib.hid (fun W h => HFE.out W h false (by simp [hno]))
    clear HFE HSA hno
    go_enter Tryd.func5, Tryd.ntmps5
    go_wp2_with (first | (go_at_call 7; refine (HA.out _ HH.out).mono ?_; rintro e wa ⟨rfl, hba⟩; have HHA := Lib.hid (HH.out.on hba); have HBA := Lib.hid (HB1.out.trans (hba.mono HGL.out)); have HGA := Lib.hid (Nat.le_trans HGL.out hba.size); clear hba HH HB1 HGL k0; have k0 := HBX.out _ HHA.out) | (go_at_call 8; refine (HF2.out _ HHA.out).mono ?_; rintro e wb ⟨rfl, hbb⟩; have HBB := Lib.hid (HBA.out.trans (hbb.mono HGA.out)); clear hbb HHA HBA HGA k0))
    go_ret
    exact ⟨rfl, HBB.out⟩
  · have HF2 := Lib.hid (fun W h => HFE.out W h true (by simp [hfw]))
    have HS2 := Lib.hid (fun W h => HSA.out W h hfw false (by simp [hno]))
    clear HFE HSA hno hfw
    go_enter Tryd.func5, Tryd.ntmps5
    go_wp2_with (first | (go_at_call 7; refine (HA.out _ HH.out).mono ?_; rintro e wa ⟨rfl, hba⟩; have HHA := Lib.hid (HH.out.on hba); have HBA := Lib.hid (HB1.out.trans (hba.mono HGL.out)); have HGA := Lib.hid (Nat.le_trans HGL.out hba.size); clear hba HH HB1 HGL k0; have k0 := HBX.out _ HHA.out) | (go_at_call 8; refine (HF2.out _ HHA.out).mono ?_; rintro e wb ⟨rfl, hbb⟩; have HHB := Lib.hid (HHA.out.on hbb); have HBB := Lib.hid (HBA.out.trans (hbb.mono HGA.out)); have HGB := Lib.hid (Nat.le_trans HGA.out hbb.size); clear hbb HHA HBA HGA k0; have k0 := HBX.out _ HHB.out) | (go_at_call 9; refine (HS2.out _ HHB.out).mono ?_; rintro e wc ⟨rfl, hbc⟩; have HBC := Lib.hid (HBB.out.trans (hbc.mono HGB.out)); clear hbc HHB HBB HGB k0))
    go_ret
    exact ⟨rfl, HBC.out⟩

theorem progUses_any (p : Pg) (w : World) (hp : PgIs w.heap.size w p) (hT : KTab w) (hE : ETab w) :
    Calls Tryd.prog 5 #[p.val] w fun e w' => e = .returned (.bool true) ∧ Below w.heap.size w w' := by
  by_cases hfew : p.few
  rotate_left
  · exact progUses_few p w hp hT hE (.inl hfew)
  by_cases hs : p.sane
  rotate_left
  · exact progUses_few p w hp hT hE (.inr ⟨hfew, hs⟩)
  exact progUses_ok p w hp hT hE hfew hs
end Go.Proofs.YtdhdpfloaelngaaDoor
