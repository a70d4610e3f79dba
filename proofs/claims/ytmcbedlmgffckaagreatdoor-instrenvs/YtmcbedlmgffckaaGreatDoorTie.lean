/-
  DERIVED. GIVEN WITH THE SEED: THE PROGRAM's TIES (one call each: nine closed facts by the kernel) AND EACH ROW's TIE, after the 31st guide's Derived/Test/Toyas{Tie, Card}.lean. No idea stands in it: it is a product of the set-up. Laid BY PROGRAM, IN A SANDBOX (cutbox-door.mjs). By AI agents, Wed Nov 11 2026. No macro, syntax, notation, axiom, sorry.
-/
import Derived.Test.YtmcbedlmgffckaaGreatDoorRows
import Derived.LaidByTextLater
import Derived.SevenTiedAt
import Derived.LaidSub
import Derived.LaidOnce
namespace Go.Proofs.YtmcbedlmgffckaaGreatDoor
open Go
set_option maxRecDepth 100000
theorem seatTie1 : Tryz.prog.laidByTextLater [("bywash/sign.sums", Rows.laid_bywash_sign_sums), ("bywash/sign.products", Rows.laid_bywash_sign_products), ("bywash/instr.kinds", Rows.laid_bywash_instr_kinds)] [.data, .data, .data] true :=
  Program.laidByTextLater_by_one 40 8 61 (by kernel_rfl) (by kernel_rfl) (by kernel_rfl) (by kernel_rfl) (by kernel_rfl) (by kernel_rfl) (fun _ _ => by kernel_rfl)
theorem noOwnUnsafe : Tryz.pinned.checked.prog.headLifts.contains "ownunsafe" = false := by kernel_rfl
theorem tie : Tryz.prog.laidByTextLater [("bywash/sign.sums", Rows.laid_bywash_sign_sums), ("bywash/sign.products", Rows.laid_bywash_sign_products), ("bywash/instr.kinds", Rows.laid_bywash_instr_kinds)] [.data, .data, .data] true :=
  Program.laidByTextLater.sub seatTie1 ["bywash/sign.sums", "bywash/sign.products", "bywash/instr.kinds"] (by kernel_rfl) (by kernel_rfl)
theorem instrEnvs_row_tie : Rows.instrEnvsRow.laidByTextAt .later Tryz.pinned [.data, .data, .data] true :=
  OpenClaim.laidByTextAt_later rfl rfl tie noOwnUnsafe
theorem instrEnvsUpto_row_tie : Rows.instrEnvsUptoRow.laidByTextAt .later Tryz.pinned [.data, .data, .data] true :=
  OpenClaim.laidByTextAt_later rfl rfl tie noOwnUnsafe
end Go.Proofs.YtmcbedlmgffckaaGreatDoor
