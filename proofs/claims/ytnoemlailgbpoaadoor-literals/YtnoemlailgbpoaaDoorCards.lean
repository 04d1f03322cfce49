/-
  DERIVED. GIVEN WITH THE SEED: THE CARDS: each row of YtnoemlailgbpoaaDoorRows.lean that lists a variable, with what it lists TIED to the program's text (the seventh form; the later family's looks); each row that meets fmt, with fmt's text TOLD by the authors' own Lean function (tested against real Go, not proved from fmt's source: count such statements apart). THE CARD IS WHAT COUNTS. Prove the row's statement (the work); the ties are given (YtnoemlailgbpoaaDoorTie.lean); close each card by the builder's one call (the guide's Derived/Test/ToyasCard.lean, 'card_holds'). Laid BY PROGRAM, IN A SANDBOX (cutbox-door.mjs). By AI agents, Wed Nov 11 2026. No macro, syntax, notation, axiom, sorry.
-/
import Derived.Test.YtnoemlailgbpoaaDoorRows
import GoSem.ClaimSeven
namespace Go.Proofs.YtnoemlailgbpoaaDoor
namespace Rows

/-- THE TIED CARD OF 'bellowslaw.Unpacks'. -/
def unpacksCard : Claim7 := { stood := { row := unpacksRow, standIns := [], harness := (true, "56b9783b0ae9a80e6b3beba7adb2bf6928d65d50ab54f659f0786731654b04a4"), looks := true }, kinds := [], alts := [], laidByText := true, laidKinds := [.data], laidTests := true, laidLooks := .later }
def UnpacksCardSaid : Prop := Claim7.holds Tryd.pinned (.plain (OpenSpec.ofChange unpacksSpec)) unpacksCard

/-- THE TIED CARD OF 'bellowskeep.Literals'. -/
def literalsCard : Claim7 := { stood := { row := literalsRow, standIns := [], harness := (true, "56b9783b0ae9a80e6b3beba7adb2bf6928d65d50ab54f659f0786731654b04a4"), looks := true }, kinds := [], alts := [], laidByText := true, laidKinds := [.data], laidTests := true, laidLooks := .later }
def LiteralsCardSaid : Prop := Claim7.holds Tryd.pinned (.plain (OpenSpec.ofChange literalsSpec)) literalsCard

/-- THE SECOND FORM's CARD OF 'bellowslaw.Unpacks'. -/
def unpacksUptoCard : Claim7 := { stood := { row := unpacksUptoRow, standIns := [], harness := (true, "56b9783b0ae9a80e6b3beba7adb2bf6928d65d50ab54f659f0786731654b04a4"), looks := true }, kinds := [], alts := [], laidByText := true, laidKinds := [.data], laidTests := true, laidLooks := .later }
def UnpacksUptoCardSaid : Prop := Claim7.holds Tryd.pinned (.plain (OpenSpec.upto unpacksSpec)) unpacksUptoCard

/-- THE SECOND FORM's CARD OF 'bellowskeep.Literals'. -/
def literalsUptoCard : Claim7 := { stood := { row := literalsUptoRow, standIns := [], harness := (true, "56b9783b0ae9a80e6b3beba7adb2bf6928d65d50ab54f659f0786731654b04a4"), looks := true }, kinds := [], alts := [], laidByText := true, laidKinds := [.data], laidTests := true, laidLooks := .later }
def LiteralsUptoCardSaid : Prop := Claim7.holds Tryd.pinned (.plain (OpenSpec.upto literalsSpec)) literalsUptoCard
end Rows
end Go.Proofs.YtnoemlailgbpoaaDoor
