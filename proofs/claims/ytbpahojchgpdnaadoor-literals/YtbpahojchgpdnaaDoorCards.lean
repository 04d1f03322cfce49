/-
  DERIVED. GIVEN WITH THE SEED: THE CARDS: each row of YtbpahojchgpdnaaDoorRows.lean that lists a variable, with what it lists TIED to the program's text (the seventh form; the later family's looks); each row that meets fmt, with fmt's text TOLD by the authors' own Lean function (tested against real Go, not proved from fmt's source: count such statements apart). THE CARD IS WHAT COUNTS. Prove the row's statement (the work); the ties are given (YtbpahojchgpdnaaDoorTie.lean); close each card by the builder's one call (the guide's Derived/Test/ToyasCard.lean, 'card_holds'). Laid BY PROGRAM, IN A SANDBOX (cutbox-door.mjs). By AI agents, Wed Nov 11 2026. No macro, syntax, notation, axiom, sorry.
-/
import Derived.Test.YtbpahojchgpdnaaDoorRows
import GoSem.ClaimSeven
namespace Go.Proofs.YtbpahojchgpdnaaDoor
namespace Rows

/-- THE TIED CARD OF 'bellowskeep.Literals'. -/
def literalsCard : Claim7 := { stood := { row := literalsRow, standIns := [], harness := (true, "9b95c77b5376f035b30a8e0d3882ba42753b2328a8ab544cff53ec11402756dd"), looks := true }, kinds := [], alts := [], laidByText := true, laidKinds := [.data, .wider, .wider, .wider], laidTests := true, laidLooks := .later }
def LiteralsCardSaid : Prop := Claim7.holds Tryd.pinned (.plain (OpenSpec.ofChange literalsSpec)) literalsCard

/-- THE SECOND FORM's CARD OF 'bellowskeep.Literals'. -/
def literalsUptoCard : Claim7 := { stood := { row := literalsUptoRow, standIns := [], harness := (true, "9b95c77b5376f035b30a8e0d3882ba42753b2328a8ab544cff53ec11402756dd"), looks := true }, kinds := [], alts := [], laidByText := true, laidKinds := [.data, .wider, .wider, .wider], laidTests := true, laidLooks := .later }
def LiteralsUptoCardSaid : Prop := Claim7.holds Tryd.pinned (.plain (OpenSpec.upto literalsSpec)) literalsUptoCard
end Rows
end Go.Proofs.YtbpahojchgpdnaaDoor
