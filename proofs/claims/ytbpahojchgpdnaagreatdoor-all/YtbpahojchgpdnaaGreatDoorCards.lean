/-
  DERIVED. GIVEN WITH THE SEED: THE CARDS: each row of YtbpahojchgpdnaaGreatDoorRows.lean that lists a variable, with what it lists TIED to the program's text (the seventh form; the later family's looks); each row that meets fmt, with fmt's text TOLD by the authors' own Lean function (tested against real Go, not proved from fmt's source: count such statements apart). THE CARD IS WHAT COUNTS. Prove the row's statement (the work); the ties are given (YtbpahojchgpdnaaGreatDoorTie.lean); close each card by the builder's one call (the guide's Derived/Test/ToyasCard.lean, 'card_holds'). Laid BY PROGRAM, IN A SANDBOX (cutbox-door.mjs). By AI agents, Wed Nov 11 2026. No macro, syntax, notation, axiom, sorry.
-/
import Derived.Test.YtbpahojchgpdnaaGreatDoorRows
import GoSem.ClaimSeven
namespace Go.Proofs.YtbpahojchgpdnaaGreatDoor
namespace Rows

/-- THE TIED CARD OF 'bellowslaw.Unpacks'. -/
def unpacksCard : Claim7 := { stood := { row := unpacksRow, standIns := [], harness := (true, "37dbe808f7402b6a51c80a79f45076919f080dbe67accfb1d89c38b717cf1167"), looks := true }, kinds := [], alts := [], laidByText := true, laidKinds := [.data, .wider, .wider, .wider], laidTests := true, laidLooks := .later }
def UnpacksCardSaid : Prop := Claim7.holds Tryz.pinned (.plain (OpenSpec.ofChange unpacksSpec)) unpacksCard

/-- THE TIED CARD OF 'bellowslaw.Wraps'. -/
def wrapsCard : Claim7 := { stood := { row := wrapsRow, standIns := [], harness := (true, "37dbe808f7402b6a51c80a79f45076919f080dbe67accfb1d89c38b717cf1167"), looks := true }, kinds := [], alts := [], laidByText := true, laidKinds := [.data, .wider, .wider, .wider], laidTests := true, laidLooks := .later }
def WrapsCardSaid : Prop := Claim7.holds Tryz.pinned (.plain (OpenSpec.ofChange wrapsSpec)) wrapsCard

/-- THE TIED CARD OF 'bellowslaw.Packs'. -/
def packsCard : Claim7 := { stood := { row := packsRow, standIns := [], harness := (true, "37dbe808f7402b6a51c80a79f45076919f080dbe67accfb1d89c38b717cf1167"), looks := true }, kinds := [], alts := [], laidByText := true, laidKinds := [.data, .wider, .wider, .wider], laidTests := true, laidLooks := .later }
def PacksCardSaid : Prop := Claim7.holds Tryz.pinned (.plain (OpenSpec.ofChange packsSpec)) packsCard

/-- THE TIED CARD OF 'bellowskeep.Copies'. -/
def copiesCard : Claim7 := { stood := { row := copiesRow, standIns := [], harness := (true, "37dbe808f7402b6a51c80a79f45076919f080dbe67accfb1d89c38b717cf1167"), looks := true }, kinds := [], alts := [], laidByText := true, laidKinds := [.data, .wider, .wider, .wider], laidTests := true, laidLooks := .later }
def CopiesCardSaid : Prop := Claim7.holds Tryz.pinned (.plain (OpenSpec.ofChange copiesSpec)) copiesCard

/-- THE TIED CARD OF 'bellowskeep.Round'. -/
def roundCard : Claim7 := { stood := { row := roundRow, standIns := [], harness := (true, "37dbe808f7402b6a51c80a79f45076919f080dbe67accfb1d89c38b717cf1167"), looks := true }, kinds := [], alts := [], laidByText := true, laidKinds := [.data, .wider, .wider, .wider], laidTests := true, laidLooks := .later }
def RoundCardSaid : Prop := Claim7.holds Tryz.pinned (.plain (OpenSpec.ofChange roundSpec)) roundCard

/-- THE TIED CARD OF 'bellowskeep.Ends'. -/
def endsCard : Claim7 := { stood := { row := endsRow, standIns := [], harness := (true, "37dbe808f7402b6a51c80a79f45076919f080dbe67accfb1d89c38b717cf1167"), looks := true }, kinds := [], alts := [], laidByText := true, laidKinds := [.data, .wider, .wider, .wider], laidTests := true, laidLooks := .later }
def EndsCardSaid : Prop := Claim7.holds Tryz.pinned (.plain (OpenSpec.ofChange endsSpec)) endsCard

/-- THE TIED CARD OF 'bellowskeep.Sums'. -/
def sumsCard : Claim7 := { stood := { row := sumsRow, standIns := [], harness := (true, "37dbe808f7402b6a51c80a79f45076919f080dbe67accfb1d89c38b717cf1167"), looks := true }, kinds := [], alts := [], laidByText := true, laidKinds := [.data, .wider, .wider, .wider], laidTests := true, laidLooks := .later }
def SumsCardSaid : Prop := Claim7.holds Tryz.pinned (.plain (OpenSpec.ofChange sumsSpec)) sumsCard

/-- THE TIED CARD OF 'bellowskeep.Named'. -/
def namedCard : Claim7 := { stood := { row := namedRow, standIns := [], harness := (true, "37dbe808f7402b6a51c80a79f45076919f080dbe67accfb1d89c38b717cf1167"), looks := true }, kinds := [], alts := [], laidByText := true, laidKinds := [.data, .wider, .wider, .wider], laidTests := true, laidLooks := .later }
def NamedCardSaid : Prop := Claim7.holds Tryz.pinned (.plain (OpenSpec.ofChange namedSpec)) namedCard

/-- THE TIED CARD OF 'bellowslaw.Writes'. -/
def writesCard : Claim7 := { stood := { row := writesRow, standIns := [], harness := (true, "37dbe808f7402b6a51c80a79f45076919f080dbe67accfb1d89c38b717cf1167"), looks := true }, kinds := [], alts := [], laidByText := true, laidKinds := [.data, .wider, .wider, .wider], laidTests := true, laidLooks := .later }
def WritesCardSaid : Prop := Claim7.holds Tryz.pinned (.plain (OpenSpec.ofChange writesSpec)) writesCard

/-- THE TIED CARD OF 'bellowskeep.Pieces'. -/
def piecesCard : Claim7 := { stood := { row := piecesRow, standIns := [], harness := (true, "37dbe808f7402b6a51c80a79f45076919f080dbe67accfb1d89c38b717cf1167"), looks := true }, kinds := [], alts := [], laidByText := true, laidKinds := [.data, .wider, .wider, .wider], laidTests := true, laidLooks := .later }
def PiecesCardSaid : Prop := Claim7.holds Tryz.pinned (.plain (OpenSpec.ofChange piecesSpec)) piecesCard

/-- THE TIED CARD OF 'bellowslaw.All'. -/
def allCard : Claim7 := { stood := { row := allRow, standIns := [], harness := (true, "37dbe808f7402b6a51c80a79f45076919f080dbe67accfb1d89c38b717cf1167"), looks := true }, kinds := [], alts := [], laidByText := true, laidKinds := [.data, .wider, .wider, .wider], laidTests := true, laidLooks := .later }
def AllCardSaid : Prop := Claim7.holds Tryz.pinned (.plain (OpenSpec.ofChange allSpec)) allCard

/-- THE SECOND FORM's CARD OF 'bellowslaw.Unpacks'. -/
def unpacksUptoCard : Claim7 := { stood := { row := unpacksUptoRow, standIns := [], harness := (true, "37dbe808f7402b6a51c80a79f45076919f080dbe67accfb1d89c38b717cf1167"), looks := true }, kinds := [], alts := [], laidByText := true, laidKinds := [.data, .wider, .wider, .wider], laidTests := true, laidLooks := .later }
def UnpacksUptoCardSaid : Prop := Claim7.holds Tryz.pinned (.plain (OpenSpec.upto unpacksSpec)) unpacksUptoCard

/-- THE SECOND FORM's CARD OF 'bellowslaw.Wraps'. -/
def wrapsUptoCard : Claim7 := { stood := { row := wrapsUptoRow, standIns := [], harness := (true, "37dbe808f7402b6a51c80a79f45076919f080dbe67accfb1d89c38b717cf1167"), looks := true }, kinds := [], alts := [], laidByText := true, laidKinds := [.data, .wider, .wider, .wider], laidTests := true, laidLooks := .later }
def WrapsUptoCardSaid : Prop := Claim7.holds Tryz.pinned (.plain (OpenSpec.upto wrapsSpec)) wrapsUptoCard

/-- THE SECOND FORM's CARD OF 'bellowslaw.Packs'. -/
def packsUptoCard : Claim7 := { stood := { row := packsUptoRow, standIns := [], harness := (true, "37dbe808f7402b6a51c80a79f45076919f080dbe67accfb1d89c38b717cf1167"), looks := true }, kinds := [], alts := [], laidByText := true, laidKinds := [.data, .wider, .wider, .wider], laidTests := true, laidLooks := .later }
def PacksUptoCardSaid : Prop := Claim7.holds Tryz.pinned (.plain (OpenSpec.upto packsSpec)) packsUptoCard

/-- THE SECOND FORM's CARD OF 'bellowskeep.Copies'. -/
def copiesUptoCard : Claim7 := { stood := { row := copiesUptoRow, standIns := [], harness := (true, "37dbe808f7402b6a51c80a79f45076919f080dbe67accfb1d89c38b717cf1167"), looks := true }, kinds := [], alts := [], laidByText := true, laidKinds := [.data, .wider, .wider, .wider], laidTests := true, laidLooks := .later }
def CopiesUptoCardSaid : Prop := Claim7.holds Tryz.pinned (.plain (OpenSpec.upto copiesSpec)) copiesUptoCard

/-- THE SECOND FORM's CARD OF 'bellowskeep.Round'. -/
def roundUptoCard : Claim7 := { stood := { row := roundUptoRow, standIns := [], harness := (true, "37dbe808f7402b6a51c80a79f45076919f080dbe67accfb1d89c38b717cf1167"), looks := true }, kinds := [], alts := [], laidByText := true, laidKinds := [.data, .wider, .wider, .wider], laidTests := true, laidLooks := .later }
def RoundUptoCardSaid : Prop := Claim7.holds Tryz.pinned (.plain (OpenSpec.upto roundSpec)) roundUptoCard

/-- THE SECOND FORM's CARD OF 'bellowskeep.Ends'. -/
def endsUptoCard : Claim7 := { stood := { row := endsUptoRow, standIns := [], harness := (true, "37dbe808f7402b6a51c80a79f45076919f080dbe67accfb1d89c38b717cf1167"), looks := true }, kinds := [], alts := [], laidByText := true, laidKinds := [.data, .wider, .wider, .wider], laidTests := true, laidLooks := .later }
def EndsUptoCardSaid : Prop := Claim7.holds Tryz.pinned (.plain (OpenSpec.upto endsSpec)) endsUptoCard

/-- THE SECOND FORM's CARD OF 'bellowskeep.Sums'. -/
def sumsUptoCard : Claim7 := { stood := { row := sumsUptoRow, standIns := [], harness := (true, "37dbe808f7402b6a51c80a79f45076919f080dbe67accfb1d89c38b717cf1167"), looks := true }, kinds := [], alts := [], laidByText := true, laidKinds := [.data, .wider, .wider, .wider], laidTests := true, laidLooks := .later }
def SumsUptoCardSaid : Prop := Claim7.holds Tryz.pinned (.plain (OpenSpec.upto sumsSpec)) sumsUptoCard

/-- THE SECOND FORM's CARD OF 'bellowskeep.Named'. -/
def namedUptoCard : Claim7 := { stood := { row := namedUptoRow, standIns := [], harness := (true, "37dbe808f7402b6a51c80a79f45076919f080dbe67accfb1d89c38b717cf1167"), looks := true }, kinds := [], alts := [], laidByText := true, laidKinds := [.data, .wider, .wider, .wider], laidTests := true, laidLooks := .later }
def NamedUptoCardSaid : Prop := Claim7.holds Tryz.pinned (.plain (OpenSpec.upto namedSpec)) namedUptoCard

/-- THE SECOND FORM's CARD OF 'bellowslaw.Writes'. -/
def writesUptoCard : Claim7 := { stood := { row := writesUptoRow, standIns := [], harness := (true, "37dbe808f7402b6a51c80a79f45076919f080dbe67accfb1d89c38b717cf1167"), looks := true }, kinds := [], alts := [], laidByText := true, laidKinds := [.data, .wider, .wider, .wider], laidTests := true, laidLooks := .later }
def WritesUptoCardSaid : Prop := Claim7.holds Tryz.pinned (.plain (OpenSpec.upto writesSpec)) writesUptoCard

/-- THE SECOND FORM's CARD OF 'bellowskeep.Pieces'. -/
def piecesUptoCard : Claim7 := { stood := { row := piecesUptoRow, standIns := [], harness := (true, "37dbe808f7402b6a51c80a79f45076919f080dbe67accfb1d89c38b717cf1167"), looks := true }, kinds := [], alts := [], laidByText := true, laidKinds := [.data, .wider, .wider, .wider], laidTests := true, laidLooks := .later }
def PiecesUptoCardSaid : Prop := Claim7.holds Tryz.pinned (.plain (OpenSpec.upto piecesSpec)) piecesUptoCard

/-- THE SECOND FORM's CARD OF 'bellowslaw.All'. -/
def allUptoCard : Claim7 := { stood := { row := allUptoRow, standIns := [], harness := (true, "37dbe808f7402b6a51c80a79f45076919f080dbe67accfb1d89c38b717cf1167"), looks := true }, kinds := [], alts := [], laidByText := true, laidKinds := [.data, .wider, .wider, .wider], laidTests := true, laidLooks := .later }
def AllUptoCardSaid : Prop := Claim7.holds Tryz.pinned (.plain (OpenSpec.upto allSpec)) allUptoCard
end Rows
end Go.Proofs.YtbpahojchgpdnaaGreatDoor
