/-
  DERIVED. GIVEN WITH THE SEED: THE PROGRAM's TIES (one call each: nine closed facts by the kernel) AND EACH ROW's TIE, after the 31st guide's Derived/Test/Toyas{Tie, Card}.lean. No idea stands in it: it is a product of the set-up. Laid BY PROGRAM, IN A SANDBOX (cutbox-door.mjs). By AI agents, Wed Nov 11 2026. No macro, syntax, notation, axiom, sorry.
-/
import Derived.Test.YtbpahojchgpdnaaGreatDoorRows
import Derived.LaidByTextLater
import Derived.SevenTiedAt
import Derived.LaidSub
import Derived.LaidOnce
namespace Go.Proofs.YtbpahojchgpdnaaGreatDoor
open Go
set_option maxRecDepth 100000
theorem seatTie1 : Tryz.prog.laidByTextLater [("bellows/bare.firstOrder", Rows.laid_bellows_bare_firstOrder), ("bellows/bare.again", Rows.laid_bellows_bare_again), ("bellows/bare.few", Rows.laid_bellows_bare_few), ("bellows/bare.many", Rows.laid_bellows_bare_many)] [.data, .wider, .wider, .wider] true :=
  Program.laidByTextLater_by_one 29 8 20 (by kernel_rfl) (by kernel_rfl) (by kernel_rfl) (by kernel_rfl) (by kernel_rfl) (by kernel_rfl) (fun _ _ => by kernel_rfl)
theorem noOwnUnsafe : Tryz.pinned.checked.prog.headLifts.contains "ownunsafe" = false := by kernel_rfl
theorem tie : Tryz.prog.laidByTextLater [("bellows/bare.firstOrder", Rows.laid_bellows_bare_firstOrder), ("bellows/bare.again", Rows.laid_bellows_bare_again), ("bellows/bare.few", Rows.laid_bellows_bare_few), ("bellows/bare.many", Rows.laid_bellows_bare_many)] [.data, .wider, .wider, .wider] true :=
  Program.laidByTextLater.sub seatTie1 ["bellows/bare.firstOrder", "bellows/bare.again", "bellows/bare.few", "bellows/bare.many"] (by kernel_rfl) (by kernel_rfl)
theorem unpacks_row_tie : Rows.unpacksRow.laidByTextAt .later Tryz.pinned [.data, .wider, .wider, .wider] true :=
  OpenClaim.laidByTextAt_later rfl rfl tie noOwnUnsafe
theorem wraps_row_tie : Rows.wrapsRow.laidByTextAt .later Tryz.pinned [.data, .wider, .wider, .wider] true :=
  OpenClaim.laidByTextAt_later rfl rfl tie noOwnUnsafe
theorem packs_row_tie : Rows.packsRow.laidByTextAt .later Tryz.pinned [.data, .wider, .wider, .wider] true :=
  OpenClaim.laidByTextAt_later rfl rfl tie noOwnUnsafe
theorem copies_row_tie : Rows.copiesRow.laidByTextAt .later Tryz.pinned [.data, .wider, .wider, .wider] true :=
  OpenClaim.laidByTextAt_later rfl rfl tie noOwnUnsafe
theorem round_row_tie : Rows.roundRow.laidByTextAt .later Tryz.pinned [.data, .wider, .wider, .wider] true :=
  OpenClaim.laidByTextAt_later rfl rfl tie noOwnUnsafe
theorem ends_row_tie : Rows.endsRow.laidByTextAt .later Tryz.pinned [.data, .wider, .wider, .wider] true :=
  OpenClaim.laidByTextAt_later rfl rfl tie noOwnUnsafe
theorem sums_row_tie : Rows.sumsRow.laidByTextAt .later Tryz.pinned [.data, .wider, .wider, .wider] true :=
  OpenClaim.laidByTextAt_later rfl rfl tie noOwnUnsafe
theorem named_row_tie : Rows.namedRow.laidByTextAt .later Tryz.pinned [.data, .wider, .wider, .wider] true :=
  OpenClaim.laidByTextAt_later rfl rfl tie noOwnUnsafe
theorem writes_row_tie : Rows.writesRow.laidByTextAt .later Tryz.pinned [.data, .wider, .wider, .wider] true :=
  OpenClaim.laidByTextAt_later rfl rfl tie noOwnUnsafe
theorem pieces_row_tie : Rows.piecesRow.laidByTextAt .later Tryz.pinned [.data, .wider, .wider, .wider] true :=
  OpenClaim.laidByTextAt_later rfl rfl tie noOwnUnsafe
theorem all_row_tie : Rows.allRow.laidByTextAt .later Tryz.pinned [.data, .wider, .wider, .wider] true :=
  OpenClaim.laidByTextAt_later rfl rfl tie noOwnUnsafe
theorem unpacksUpto_row_tie : Rows.unpacksUptoRow.laidByTextAt .later Tryz.pinned [.data, .wider, .wider, .wider] true :=
  OpenClaim.laidByTextAt_later rfl rfl tie noOwnUnsafe
theorem wrapsUpto_row_tie : Rows.wrapsUptoRow.laidByTextAt .later Tryz.pinned [.data, .wider, .wider, .wider] true :=
  OpenClaim.laidByTextAt_later rfl rfl tie noOwnUnsafe
theorem packsUpto_row_tie : Rows.packsUptoRow.laidByTextAt .later Tryz.pinned [.data, .wider, .wider, .wider] true :=
  OpenClaim.laidByTextAt_later rfl rfl tie noOwnUnsafe
theorem copiesUpto_row_tie : Rows.copiesUptoRow.laidByTextAt .later Tryz.pinned [.data, .wider, .wider, .wider] true :=
  OpenClaim.laidByTextAt_later rfl rfl tie noOwnUnsafe
theorem roundUpto_row_tie : Rows.roundUptoRow.laidByTextAt .later Tryz.pinned [.data, .wider, .wider, .wider] true :=
  OpenClaim.laidByTextAt_later rfl rfl tie noOwnUnsafe
theorem endsUpto_row_tie : Rows.endsUptoRow.laidByTextAt .later Tryz.pinned [.data, .wider, .wider, .wider] true :=
  OpenClaim.laidByTextAt_later rfl rfl tie noOwnUnsafe
theorem sumsUpto_row_tie : Rows.sumsUptoRow.laidByTextAt .later Tryz.pinned [.data, .wider, .wider, .wider] true :=
  OpenClaim.laidByTextAt_later rfl rfl tie noOwnUnsafe
theorem namedUpto_row_tie : Rows.namedUptoRow.laidByTextAt .later Tryz.pinned [.data, .wider, .wider, .wider] true :=
  OpenClaim.laidByTextAt_later rfl rfl tie noOwnUnsafe
theorem writesUpto_row_tie : Rows.writesUptoRow.laidByTextAt .later Tryz.pinned [.data, .wider, .wider, .wider] true :=
  OpenClaim.laidByTextAt_later rfl rfl tie noOwnUnsafe
theorem piecesUpto_row_tie : Rows.piecesUptoRow.laidByTextAt .later Tryz.pinned [.data, .wider, .wider, .wider] true :=
  OpenClaim.laidByTextAt_later rfl rfl tie noOwnUnsafe
theorem allUpto_row_tie : Rows.allUptoRow.laidByTextAt .later Tryz.pinned [.data, .wider, .wider, .wider] true :=
  OpenClaim.laidByTextAt_later rfl rfl tie noOwnUnsafe
end Go.Proofs.YtbpahojchgpdnaaGreatDoor
