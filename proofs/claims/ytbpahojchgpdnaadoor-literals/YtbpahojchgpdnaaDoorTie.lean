/-
  DERIVED. GIVEN WITH THE SEED: THE PROGRAM's TIES (one call each: nine closed facts by the kernel) AND EACH ROW's TIE, after the 31st guide's Derived/Test/Toyas{Tie, Card}.lean. No idea stands in it: it is a product of the set-up. Laid BY PROGRAM, IN A SANDBOX (cutbox-door.mjs). By AI agents, Wed Nov 11 2026. No macro, syntax, notation, axiom, sorry.
-/
import Derived.Test.YtbpahojchgpdnaaDoorRows
import Derived.LaidByTextLater
import Derived.SevenTiedAt
import Derived.LaidSub
import Derived.LaidOnce
namespace Go.Proofs.YtbpahojchgpdnaaDoor
open Go
set_option maxRecDepth 100000
theorem seatTie1 : Tryd.prog.laidByTextLater [("bellows/bare.firstOrder", Rows.laid_bellows_bare_firstOrder), ("bellows/bare.again", Rows.laid_bellows_bare_again), ("bellows/bare.few", Rows.laid_bellows_bare_few), ("bellows/bare.many", Rows.laid_bellows_bare_many)] [.data, .wider, .wider, .wider] true :=
  Program.laidByTextLater_by_one 29 8 20 (by kernel_rfl) (by kernel_rfl) (by kernel_rfl) (by kernel_rfl) (by kernel_rfl) (by kernel_rfl) (fun _ _ => by kernel_rfl)
theorem noOwnUnsafe : Tryd.pinned.checked.prog.headLifts.contains "ownunsafe" = false := by kernel_rfl
theorem tie : Tryd.prog.laidByTextLater [("bellows/bare.firstOrder", Rows.laid_bellows_bare_firstOrder), ("bellows/bare.again", Rows.laid_bellows_bare_again), ("bellows/bare.few", Rows.laid_bellows_bare_few), ("bellows/bare.many", Rows.laid_bellows_bare_many)] [.data, .wider, .wider, .wider] true :=
  Program.laidByTextLater.sub seatTie1 ["bellows/bare.firstOrder", "bellows/bare.again", "bellows/bare.few", "bellows/bare.many"] (by kernel_rfl) (by kernel_rfl)
theorem literals_row_tie : Rows.literalsRow.laidByTextAt .later Tryd.pinned [.data, .wider, .wider, .wider] true :=
  OpenClaim.laidByTextAt_later rfl rfl tie noOwnUnsafe
theorem literalsUpto_row_tie : Rows.literalsUptoRow.laidByTextAt .later Tryd.pinned [.data, .wider, .wider, .wider] true :=
  OpenClaim.laidByTextAt_later rfl rfl tie noOwnUnsafe
end Go.Proofs.YtbpahojchgpdnaaDoor
