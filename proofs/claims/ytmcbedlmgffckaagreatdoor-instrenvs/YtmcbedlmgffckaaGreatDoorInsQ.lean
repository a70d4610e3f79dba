/- What an instruction tells: the pure side. -/
import Derived.Test.YtmcbedlmgffckaaGreatDoorInsF
import Derived.Test.YtmcbedlmgffckaaGreatDoorVarD
namespace Go.Proofs.YtmcbedlmgffckaaGreatDoor
open Go

theorem setF_val (on : Bool) (l : List V) (i : Ins) : setF on l i.defn (valF on l i) = flatI on l i := by
  unfold flatI
  split
  · rename_i h
    rw [ownLF_set]
    unfold setF
    split
    · unfold putG
      rw [if_neg (fun g => absurd g.1 (by omega)), if_neg (fun g => absurd g.1 (by omega))]
    · rfl
  · rename_i h
    have hd : i.defn = i.dst := by
      unfold Ins.defn at h ⊢
      split
      · rfl
      · rename_i g; rw [if_neg g] at h; exact absurd (by decide) h
    rw [hd]
theorem flatI_len (on : Bool) (l : List V) (i : Ins) : (flatI on l i).length = szG on l := by
  rw [← setF_val]
  unfold setF szG
  cases on
  · rfl
  · simp [putG_length, tabG_length]
/-- What is known of another variable stays. -/
theorem flatI_at (on : Bool) (l : List V) (i : Ins) {k : Int} (hk : k ≠ i.defn) : (atG vbot on (flatI on l i) k).sn = (atG vbot on l k).sn := by
  rw [← setF_val, setF_at, if_neg (fun g => hk g.2.2.2), sn_sn]
/-- One that sets nothing leaves all. -/
theorem flatI_none (on : Bool) (l : List V) (i : Ins) (h : i.defn < 0) : leqF on (flatI on l i) on l = true := by
  refine (leqF_iff _ _ _ _).2 ⟨id, fun k => ?_⟩
  unfold flatI
  rw [if_pos h, ownLF_at, leq_sn, sn_sn]
  exact leq_refl _
theorem vars_length (i : Ins) : i.vars.length ≤ i.uses.length + 1 := by
  unfold Ins.vars
  split
  · rw [sortL_length (addL_nodup (uses_nodup i) _)]; exact addL_length _ _
  · rw [sortL_length (uses_nodup i)]; omega
/-- Which instructions set nothing. -/
theorem defn_iff (i : Ins) : i.defn < 0 ↔ (¬ i.form ∨ i.kind = 8 ∨ i.kind = 9) := by
  unfold Ins.defn
  by_cases hf : i.form
  · have h0 := hf.1
    have h9 := hf.2.1
    by_cases hk : hasDst i.kind = true
    · rw [if_pos ⟨hf, hk⟩]
      have := form_dst hf
      have hk' : 0 ≤ i.kind ∧ i.kind ≤ 7 := by simpa [hasDst] using hk
      constructor
      · intro h; omega
      · rintro (h | h | h)
        · exact absurd hf h
        · omega
        · omega
    · rw [if_neg (fun g => hk g.2)]
      have hk' : ¬ (0 ≤ i.kind ∧ i.kind ≤ 7) := by simpa [hasDst] using hk
      exact ⟨fun _ => .inr (by omega), fun _ => by decide⟩
  · rw [if_neg (fun g => hf g.1)]
    exact ⟨fun _ => .inl hf, fun _ => by decide⟩
end Go.Proofs.YtmcbedlmgffckaaGreatDoor
