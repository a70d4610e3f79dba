/- Instructions: Name; the document's example. -/
import Derived.Test.YtmcbedlmgffckaaGreatDoorInsF2
namespace Go.Proofs.YtmcbedlmgffckaaGreatDoor.Bi
open Go Go.RowKit Go.Sort

def nameB (k : Int) : ByteArray := if 0 ≤ k ∧ k < 10 then kBytes k.toNat else ⟨#[]⟩

set_option maxHeartbeats 4000000 in
theorem Name_any (k : Int) (w : World) (hT : KTab w) :
    Calls Tryz.prog 19 #[.int .i64 k] w fun e w' => e = .returned (.string (nameB k)) ∧ Below w.heap.size w w' := by
  have HI := Lib.hid (isKind_any k w)
  have HT := Lib.hid hT
  clear hT
  unfold nameB
  by_cases hk : 0 ≤ k ∧ k < 10
  rotate_left
  · rw [decide_eq_false hk] at HI
    rw [if_neg hk]
    go_enter Tryz.func19, Tryz.ntmps19
    go_wp2_with (go_at_call 31; refine HI.out.mono ?_; rintro e wa ⟨rfl, hba⟩; have HB := Lib.hid hba; clear hba)
    go_ret
    exact ⟨rfl, HB.out⟩
  rw [decide_eq_true hk] at HI
  rw [if_pos hk]
  rcases (by omega : k = 0 ∨ k = 1 ∨ k = 2 ∨ k = 3 ∨ k = 4 ∨ k = 5 ∨ k = 6 ∨ k = 7 ∨ k = 8 ∨ k = 9) with rfl | rfl | rfl | rfl | rfl | rfl | rfl | rfl | rfl | rfl
  · show Calls _ _ _ _ fun e w' => e = .returned (.string (kBytes 0)) ∧ _
    obtain ⟨bs, hbs⟩ : ∃ bs, kBytes 0 = bs := ⟨_, rfl⟩
    rw [hbs]
    have HBS := Lib.hid hbs
    clear hbs
    go_enter Tryz.func19, Tryz.ntmps19
    go_wp2_with (go_at_call 31; refine HI.out.mono ?_; rintro e wa ⟨rfl, hba⟩; have HB := Lib.hid hba; clear hba; have t0 := (HT.out.on HB.out).at 0 0 0 (by decide) (by decide) rfl (v := .string bs) (by rw [← HBS.out]; rfl))
    go_ret
    exact ⟨rfl, HB.out⟩
  · show Calls _ _ _ _ fun e w' => e = .returned (.string (kBytes 1)) ∧ _
    obtain ⟨bs, hbs⟩ : ∃ bs, kBytes 1 = bs := ⟨_, rfl⟩
    rw [hbs]
    have HBS := Lib.hid hbs
    clear hbs
    go_enter Tryz.func19, Tryz.ntmps19
    go_wp2_with (go_at_call 31; refine HI.out.mono ?_; rintro e wa ⟨rfl, hba⟩; have HB := Lib.hid hba; clear hba; have t0 := (HT.out.on HB.out).at 1 0 6 (by decide) (by decide) rfl (v := .string bs) (by rw [← HBS.out]; rfl))
    go_ret
    exact ⟨rfl, HB.out⟩
  · show Calls _ _ _ _ fun e w' => e = .returned (.string (kBytes 2)) ∧ _
    obtain ⟨bs, hbs⟩ : ∃ bs, kBytes 2 = bs := ⟨_, rfl⟩
    rw [hbs]
    have HBS := Lib.hid hbs
    clear hbs
    go_enter Tryz.func19, Tryz.ntmps19
    go_wp2_with (go_at_call 31; refine HI.out.mono ?_; rintro e wa ⟨rfl, hba⟩; have HB := Lib.hid hba; clear hba; have t0 := (HT.out.on HB.out).at 2 0 12 (by decide) (by decide) rfl (v := .string bs) (by rw [← HBS.out]; rfl))
    go_ret
    exact ⟨rfl, HB.out⟩
  · show Calls _ _ _ _ fun e w' => e = .returned (.string (kBytes 3)) ∧ _
    obtain ⟨bs, hbs⟩ : ∃ bs, kBytes 3 = bs := ⟨_, rfl⟩
    rw [hbs]
    have HBS := Lib.hid hbs
    clear hbs
    go_enter Tryz.func19, Tryz.ntmps19
    go_wp2_with (go_at_call 31; refine HI.out.mono ?_; rintro e wa ⟨rfl, hba⟩; have HB := Lib.hid hba; clear hba; have t0 := (HT.out.on HB.out).at 3 0 18 (by decide) (by decide) rfl (v := .string bs) (by rw [← HBS.out]; rfl))
    go_ret
    exact ⟨rfl, HB.out⟩
  · show Calls _ _ _ _ fun e w' => e = .returned (.string (kBytes 4)) ∧ _
    obtain ⟨bs, hbs⟩ : ∃ bs, kBytes 4 = bs := ⟨_, rfl⟩
    rw [hbs]
    have HBS := Lib.hid hbs
    clear hbs
    go_enter Tryz.func19, Tryz.ntmps19
    go_wp2_with (go_at_call 31; refine HI.out.mono ?_; rintro e wa ⟨rfl, hba⟩; have HB := Lib.hid hba; clear hba; have t0 := (HT.out.on HB.out).at 4 0 24 (by decide) (by decide) rfl (v := .string bs) (by rw [← HBS.out]; rfl))
    go_ret
    exact ⟨rfl, HB.out⟩
  · show Calls _ _ _ _ fun e w' => e = .returned (.string (kBytes 5)) ∧ _
    obtain ⟨bs, hbs⟩ : ∃ bs, kBytes 5 = bs := ⟨_, rfl⟩
    rw [hbs]
    have HBS := Lib.hid hbs
    clear hbs
    go_enter Tryz.func19, Tryz.ntmps19
    go_wp2_with (go_at_call 31; refine HI.out.mono ?_; rintro e wa ⟨rfl, hba⟩; have HB := Lib.hid hba; clear hba; have t0 := (HT.out.on HB.out).at 5 0 30 (by decide) (by decide) rfl (v := .string bs) (by rw [← HBS.out]; rfl))
    go_ret
    exact ⟨rfl, HB.out⟩
  · show Calls _ _ _ _ fun e w' => e = .returned (.string (kBytes 6)) ∧ _
    obtain ⟨bs, hbs⟩ : ∃ bs, kBytes 6 = bs := ⟨_, rfl⟩
    rw [hbs]
    have HBS := Lib.hid hbs
    clear hbs
    go_enter Tryz.func19, Tryz.ntmps19
    go_wp2_with (go_at_call 31; refine HI.out.mono ?_; rintro e wa ⟨rfl, hba⟩; have HB := Lib.hid hba; clear hba; have t0 := (HT.out.on HB.out).at 6 0 36 (by decide) (by decide) rfl (v := .string bs) (by rw [← HBS.out]; rfl))
    go_ret
    exact ⟨rfl, HB.out⟩
  · show Calls _ _ _ _ fun e w' => e = .returned (.string (kBytes 7)) ∧ _
    obtain ⟨bs, hbs⟩ : ∃ bs, kBytes 7 = bs := ⟨_, rfl⟩
    rw [hbs]
    have HBS := Lib.hid hbs
    clear hbs
    go_enter Tryz.func19, Tryz.ntmps19
    go_wp2_with (go_at_call 31; refine HI.out.mono ?_; rintro e wa ⟨rfl, hba⟩; have HB := Lib.hid hba; clear hba; have t0 := (HT.out.on HB.out).at 7 0 42 (by decide) (by decide) rfl (v := .string bs) (by rw [← HBS.out]; rfl))
    go_ret
    exact ⟨rfl, HB.out⟩
  · show Calls _ _ _ _ fun e w' => e = .returned (.string (kBytes 8)) ∧ _
    obtain ⟨bs, hbs⟩ : ∃ bs, kBytes 8 = bs := ⟨_, rfl⟩
    rw [hbs]
    have HBS := Lib.hid hbs
    clear hbs
    go_enter Tryz.func19, Tryz.ntmps19
    go_wp2_with (go_at_call 31; refine HI.out.mono ?_; rintro e wa ⟨rfl, hba⟩; have HB := Lib.hid hba; clear hba; have t0 := (HT.out.on HB.out).at 8 0 48 (by decide) (by decide) rfl (v := .string bs) (by rw [← HBS.out]; rfl))
    go_ret
    exact ⟨rfl, HB.out⟩
  · show Calls _ _ _ _ fun e w' => e = .returned (.string (kBytes 9)) ∧ _
    obtain ⟨bs, hbs⟩ : ∃ bs, kBytes 9 = bs := ⟨_, rfl⟩
    rw [hbs]
    have HBS := Lib.hid hbs
    clear hbs
    go_enter Tryz.func19, Tryz.ntmps19
    go_wp2_with (go_at_call 31; refine HI.out.mono ?_; rintro e wa ⟨rfl, hba⟩; have HB := Lib.hid hba; clear hba; have t0 := (HT.out.on HB.out).at 9 0 54 (by decide) (by decide) rfl (v := .string bs) (by rw [← HBS.out]; rfl))
    go_ret
    exact ⟨rfl, HB.out⟩
end Go.Proofs.YtmcbedlmgffckaaGreatDoor.Bi
