/- Programs: what the laws want of a program in memory. -/
import Derived.Deep.RegionHeld3
import Derived.Test.YtdhdpfloaelngaaDoorPgT
import Derived.Test.YtdhdpfloaelngaaDoorPgSz
import Derived.Test.YtdhdpfloaelngaaDoorPgW
namespace Go.Proofs.YtdhdpfloaelngaaDoor
open Go Go.RowKit Go.Sort

theorem Here.new (w : World) (p : Pg) (hp : PgIs w.heap.size w p) (hT : KTab w) (hE : ETab w) : Here (w.alloc (.cells #[.slice p.pa p.funs.length p.pc] 24)) p w.heap.size :=
  have hb := below1 w (.cells #[.slice p.pa p.funs.length p.pc] 24)
  ⟨hp.on hb, hT.on hb, hE.on hb, BoxL.new w [.slice p.pa p.funs.length p.pc] 24⟩
theorem funB_iff {p : Pg} (h : p.sane) (f : Int) : funB p f = true ↔ 0 ≤ f ∧ f < p.funs.length := by
  unfold funB
  rw [(saneB_iff p).2 h]
  simp
theorem funB_out {p : Pg} {f : Int} (h : ¬ (0 ≤ f ∧ f < p.funs.length)) : funB p f = false := by
  unfold funB
  rcases Int.lt_or_le f 0 with h0 | h0
  · have : ¬ 0 ≤ f := by omega
    simp [this]
  · have : ¬ f < p.funs.length := by omega
    simp [this]
theorem funR_in {p : Pg} (h : p.sane) {n : Nat} (hn : n < p.funs.length) : funB p (n : Int) = true ∧ funR p (n : Int) = fdAt p.funs n := by
  have hb : funB p (n : Int) = true := (funB_iff h _).2 ⟨by omega, by omega⟩
  exact ⟨hb, by unfold funR; rw [hb]; simp⟩
/-- Of a block that is not live none follows. -/
theorem preds_none {p : Pg} (h : p.sane) {f b : Int} (hb : blkB p f b = false) : ∀ k, k < (funR p f).blocks.length → b ∉ (blkAt (funR p f).blocks k).succ := by
  have hnl : ¬ liveAt (funR p f).blocks b := fun hl => by rw [(blkB_iff p f b).2 hl] at hb; cases hb
  by_cases hf : funB p f = true
  · have hf2 := (funB_iff h f).1 hf
    obtain ⟨n, rfl⟩ := Int.eq_ofNat_of_zero_le hf2.1
    have hn : n < p.funs.length := by omega
    rw [(funR_in h hn).2] at hnl ⊢
    intro k hk hbs
    have hok := ((h.2.1 n hn).2 k hk).2.2.1
    obtain ⟨j, hj, e⟩ := List.getElem_of_mem hbs
    have := (hok j hj).2
    have e2 : numAt (blkAt (fdAt p.funs n).blocks k).succ j = b := by unfold numAt; rw [List.getElem?_eq_getElem hj]; exact e
    rw [e2] at this
    exact hnl this
  · rw [funR_none (by simpa using hf)]
    intro k hk
    simp [Fd.none] at hk
end Go.Proofs.YtdhdpfloaelngaaDoor
