/-
  NARROWER THAN 'FOR EVERY INPUT', by the rows' own cells (each row's printed sentence says how): Unpacks: laid · Wraps: laid · Packs: laid · Copies: laid · Round: laid · Ends: laid · Sums: laid · Named: laid · Writes: laid · Pieces: laid · All: laid.
  DERIVED. THE GIVEN ROWS OF THIS SEAT. 11 by the template 'for every input the law returns true; each argument reads behind the call as it read before'; 0 by the template 'total and deterministic' (their statements: YtbpahojchgpdnaaGreatDoorTotals.lean).
  GIVEN WITH THE SEED: the statements are not yours to turn. If you find one false, say at which input.
  Laid BY PROGRAM, IN A SANDBOX (cutbox-rows.mjs): the forced cells as the released guide's own fill.sh prints them over the translation 59adae723787ea71… (all of the seat's roots in one cut). By AI agents, Wed Nov 11 2026. No macro, syntax, notation, axiom, sorry.
-/
import Derived.Test.YtbpahojchgpdnaaGreatDoorChecked
import GoSem.Claim
import GoSem.ClaimJoined
import GoSem.ClaimMapViews
import Derived.JoinedTies
import Derived.KernelRfl
namespace Go.Proofs.YtbpahojchgpdnaaGreatDoor
/- THE CELL 'sum', in the pinned program and in every row, IS THE sha256 OF THE DUMP (.gsa) THAT YtbpahojchgpdnaaGreatDoorProg.lean LOADS. Nothing in Lean hashes anything: it is a label: what it is worth is what the hold of that sum in a sandbox is worth. -/
noncomputable def Tryz.pinned : Pinned := { name := "ytbpahojchgpdnaagreatdoor", sum := "59adae723787ea71ca597acae17b9ebe447ece2ff09d47f18b212148bcaa7059", checked := Tryz.checked }
namespace Rows
def none {H : Type} : Left H := { results := [], args := [] }

/- WHAT THE LISTED PACKAGE-LEVEL VARIABLES READ AS WHEN THE CALL BEGINS. Each datum BY PROGRAM (the guide's laid-datum.mjs) off the statement by which the dump's own 'gosem.cut.vars' lays the variable. In a bare row this is a premise. The card (YtbpahojchgpdnaaGreatDoorCards.lean) ties it to the program's text. -/
def laid_bellows_bare_firstOrder {H : Type} : DataW H := .agg [.lit (.int .i64 16), .lit (.int .i64 17), .lit (.int .i64 18), .lit (.int .i64 0), .lit (.int .i64 8), .lit (.int .i64 7), .lit (.int .i64 9), .lit (.int .i64 6), .lit (.int .i64 10), .lit (.int .i64 5), .lit (.int .i64 11), .lit (.int .i64 4), .lit (.int .i64 12), .lit (.int .i64 3), .lit (.int .i64 13), .lit (.int .i64 2), .lit (.int .i64 14), .lit (.int .i64 1), .lit (.int .i64 15)]
def laid_bellows_bare_again {H : Type} : DataW H := .agg [.lit (.int .i64 16), .lit (.int .i64 3), .lit (.int .i64 2)]
def laid_bellows_bare_few {H : Type} : DataW H := .agg [.lit (.int .i64 17), .lit (.int .i64 3), .lit (.int .i64 3)]
def laid_bellows_bare_many {H : Type} : DataW H := .agg [.lit (.int .i64 18), .lit (.int .i64 11), .lit (.int .i64 7)]

/-- 'bellowslaw.Unpacks': WHATEVER THE INPUT: true; the input reads as it did. -/
def unpacksSpec : ChangeSpec := { name := "unpacks", fn := fun _ => fun
  | [d] => { results := [.lit (.bool true)], args := [d] }
  | _ => none }
def unpacksRow : OpenClaim := { program := "ytbpahojchgpdnaagreatdoor", sum := "59adae723787ea71ca597acae17b9ebe447ece2ff09d47f18b212148bcaa7059", func := "bellows/bellowslaw.Unpacks", spec := "unpacks", unfollowed := true, recurses := true, named := ["bellows/bare.firstOrder", "bellows/bare.again", "bellows/bare.few", "bellows/bare.many"], apart := false, laid := [("bellows/bare.firstOrder", laid_bellows_bare_firstOrder), ("bellows/bare.again", laid_bellows_bare_again), ("bellows/bare.few", laid_bellows_bare_few), ("bellows/bare.many", laid_bellows_bare_many)] }
def UnpacksSaid : Prop := unpacksRow.holds Tryz.pinned (OpenSpec.ofChange unpacksSpec)

/-- ITS FALSE NEIGHBOUR: 'it returns false'. Refute it at one input. -/
def unpacksWrong : ChangeSpec := { name := "unpacks", fn := fun _ => fun
  | [d] => { results := [.lit (.bool false)], args := [d] }
  | _ => none }
def UnpacksWrongFalsely : Prop := unpacksRow.holds Tryz.pinned (OpenSpec.ofChange unpacksWrong)

/-- 'bellowslaw.Wraps': WHATEVER THE INPUT: true; the input reads as it did. -/
def wrapsSpec : ChangeSpec := { name := "wraps", fn := fun _ => fun
  | [d] => { results := [.lit (.bool true)], args := [d] }
  | _ => none }
def wrapsRow : OpenClaim := { program := "ytbpahojchgpdnaagreatdoor", sum := "59adae723787ea71ca597acae17b9ebe447ece2ff09d47f18b212148bcaa7059", func := "bellows/bellowslaw.Wraps", spec := "wraps", unfollowed := true, recurses := true, named := ["bellows/bare.firstOrder", "bellows/bare.again", "bellows/bare.few", "bellows/bare.many"], apart := false, laid := [("bellows/bare.firstOrder", laid_bellows_bare_firstOrder), ("bellows/bare.again", laid_bellows_bare_again), ("bellows/bare.few", laid_bellows_bare_few), ("bellows/bare.many", laid_bellows_bare_many)] }
def WrapsSaid : Prop := wrapsRow.holds Tryz.pinned (OpenSpec.ofChange wrapsSpec)

/-- ITS FALSE NEIGHBOUR: 'it returns false'. Refute it at one input. -/
def wrapsWrong : ChangeSpec := { name := "wraps", fn := fun _ => fun
  | [d] => { results := [.lit (.bool false)], args := [d] }
  | _ => none }
def WrapsWrongFalsely : Prop := wrapsRow.holds Tryz.pinned (OpenSpec.ofChange wrapsWrong)

/-- 'bellowslaw.Packs': WHATEVER THE INPUT: true; the input reads as it did. -/
def packsSpec : ChangeSpec := { name := "packs", fn := fun _ => fun
  | [d] => { results := [.lit (.bool true)], args := [d] }
  | _ => none }
def packsRow : OpenClaim := { program := "ytbpahojchgpdnaagreatdoor", sum := "59adae723787ea71ca597acae17b9ebe447ece2ff09d47f18b212148bcaa7059", func := "bellows/bellowslaw.Packs", spec := "packs", unfollowed := true, recurses := true, named := ["bellows/bare.firstOrder", "bellows/bare.again", "bellows/bare.few", "bellows/bare.many"], apart := false, laid := [("bellows/bare.firstOrder", laid_bellows_bare_firstOrder), ("bellows/bare.again", laid_bellows_bare_again), ("bellows/bare.few", laid_bellows_bare_few), ("bellows/bare.many", laid_bellows_bare_many)] }
def PacksSaid : Prop := packsRow.holds Tryz.pinned (OpenSpec.ofChange packsSpec)

/-- ITS FALSE NEIGHBOUR: 'it returns false'. Refute it at one input. -/
def packsWrong : ChangeSpec := { name := "packs", fn := fun _ => fun
  | [d] => { results := [.lit (.bool false)], args := [d] }
  | _ => none }
def PacksWrongFalsely : Prop := packsRow.holds Tryz.pinned (OpenSpec.ofChange packsWrong)

/-- 'bellowskeep.Copies': WHATEVER THE INPUT: true; the input reads as it did. -/
def copiesSpec : ChangeSpec := { name := "copies", fn := fun _ => fun
  | [d1, d2, d3] => { results := [.lit (.bool true)], args := [d1, d2, d3] }
  | _ => none }
def copiesRow : OpenClaim := { program := "ytbpahojchgpdnaagreatdoor", sum := "59adae723787ea71ca597acae17b9ebe447ece2ff09d47f18b212148bcaa7059", func := "bellows/bellowskeep.Copies", spec := "copies", unfollowed := true, recurses := true, named := ["bellows/bare.firstOrder", "bellows/bare.again", "bellows/bare.few", "bellows/bare.many"], apart := false, laid := [("bellows/bare.firstOrder", laid_bellows_bare_firstOrder), ("bellows/bare.again", laid_bellows_bare_again), ("bellows/bare.few", laid_bellows_bare_few), ("bellows/bare.many", laid_bellows_bare_many)] }
def CopiesSaid : Prop := copiesRow.holds Tryz.pinned (OpenSpec.ofChange copiesSpec)

/-- ITS FALSE NEIGHBOUR: 'it returns false'. Refute it at one input. -/
def copiesWrong : ChangeSpec := { name := "copies", fn := fun _ => fun
  | [d1, d2, d3] => { results := [.lit (.bool false)], args := [d1, d2, d3] }
  | _ => none }
def CopiesWrongFalsely : Prop := copiesRow.holds Tryz.pinned (OpenSpec.ofChange copiesWrong)

/-- 'bellowskeep.Round': WHATEVER THE INPUT: true; the input reads as it did. -/
def roundSpec : ChangeSpec := { name := "round", fn := fun _ => fun
  | [d1, d2, d3] => { results := [.lit (.bool true)], args := [d1, d2, d3] }
  | _ => none }
def roundRow : OpenClaim := { program := "ytbpahojchgpdnaagreatdoor", sum := "59adae723787ea71ca597acae17b9ebe447ece2ff09d47f18b212148bcaa7059", func := "bellows/bellowskeep.Round", spec := "round", unfollowed := true, recurses := true, named := ["bellows/bare.firstOrder", "bellows/bare.again", "bellows/bare.few", "bellows/bare.many"], apart := false, laid := [("bellows/bare.firstOrder", laid_bellows_bare_firstOrder), ("bellows/bare.again", laid_bellows_bare_again), ("bellows/bare.few", laid_bellows_bare_few), ("bellows/bare.many", laid_bellows_bare_many)] }
def RoundSaid : Prop := roundRow.holds Tryz.pinned (OpenSpec.ofChange roundSpec)

/-- ITS FALSE NEIGHBOUR: 'it returns false'. Refute it at one input. -/
def roundWrong : ChangeSpec := { name := "round", fn := fun _ => fun
  | [d1, d2, d3] => { results := [.lit (.bool false)], args := [d1, d2, d3] }
  | _ => none }
def RoundWrongFalsely : Prop := roundRow.holds Tryz.pinned (OpenSpec.ofChange roundWrong)

/-- 'bellowskeep.Ends': WHATEVER THE INPUT: true; the input reads as it did. -/
def endsSpec : ChangeSpec := { name := "ends", fn := fun _ => fun
  | [d1, d2, d3, d4, d5] => { results := [.lit (.bool true)], args := [d1, d2, d3, d4, d5] }
  | _ => none }
def endsRow : OpenClaim := { program := "ytbpahojchgpdnaagreatdoor", sum := "59adae723787ea71ca597acae17b9ebe447ece2ff09d47f18b212148bcaa7059", func := "bellows/bellowskeep.Ends", spec := "ends", unfollowed := true, recurses := true, named := ["bellows/bare.firstOrder", "bellows/bare.again", "bellows/bare.few", "bellows/bare.many"], apart := false, laid := [("bellows/bare.firstOrder", laid_bellows_bare_firstOrder), ("bellows/bare.again", laid_bellows_bare_again), ("bellows/bare.few", laid_bellows_bare_few), ("bellows/bare.many", laid_bellows_bare_many)] }
def EndsSaid : Prop := endsRow.holds Tryz.pinned (OpenSpec.ofChange endsSpec)

/-- ITS FALSE NEIGHBOUR: 'it returns false'. Refute it at one input. -/
def endsWrong : ChangeSpec := { name := "ends", fn := fun _ => fun
  | [d1, d2, d3, d4, d5] => { results := [.lit (.bool false)], args := [d1, d2, d3, d4, d5] }
  | _ => none }
def EndsWrongFalsely : Prop := endsRow.holds Tryz.pinned (OpenSpec.ofChange endsWrong)

/-- 'bellowskeep.Sums': WHATEVER THE INPUT: true; the input reads as it did. -/
def sumsSpec : ChangeSpec := { name := "sums", fn := fun _ => fun
  | [d1, d2, d3] => { results := [.lit (.bool true)], args := [d1, d2, d3] }
  | _ => none }
def sumsRow : OpenClaim := { program := "ytbpahojchgpdnaagreatdoor", sum := "59adae723787ea71ca597acae17b9ebe447ece2ff09d47f18b212148bcaa7059", func := "bellows/bellowskeep.Sums", spec := "sums", unfollowed := true, recurses := true, named := ["bellows/bare.many", "bellows/bare.few", "bellows/bare.again", "bellows/bare.firstOrder"], apart := false, laid := [("bellows/bare.firstOrder", laid_bellows_bare_firstOrder), ("bellows/bare.again", laid_bellows_bare_again), ("bellows/bare.few", laid_bellows_bare_few), ("bellows/bare.many", laid_bellows_bare_many)] }
def SumsSaid : Prop := sumsRow.holds Tryz.pinned (OpenSpec.ofChange sumsSpec)

/-- ITS FALSE NEIGHBOUR: 'it returns false'. Refute it at one input. -/
def sumsWrong : ChangeSpec := { name := "sums", fn := fun _ => fun
  | [d1, d2, d3] => { results := [.lit (.bool false)], args := [d1, d2, d3] }
  | _ => none }
def SumsWrongFalsely : Prop := sumsRow.holds Tryz.pinned (OpenSpec.ofChange sumsWrong)

/-- 'bellowskeep.Named': WHATEVER THE INPUT: true; the input reads as it did. -/
def namedSpec : ChangeSpec := { name := "named", fn := fun _ => fun
  | [d1, d2, d3, d4, d5] => { results := [.lit (.bool true)], args := [d1, d2, d3, d4, d5] }
  | _ => none }
def namedRow : OpenClaim := { program := "ytbpahojchgpdnaagreatdoor", sum := "59adae723787ea71ca597acae17b9ebe447ece2ff09d47f18b212148bcaa7059", func := "bellows/bellowskeep.Named", spec := "named", unfollowed := true, recurses := true, named := ["bellows/bare.firstOrder", "bellows/bare.again", "bellows/bare.few", "bellows/bare.many"], apart := false, laid := [("bellows/bare.firstOrder", laid_bellows_bare_firstOrder), ("bellows/bare.again", laid_bellows_bare_again), ("bellows/bare.few", laid_bellows_bare_few), ("bellows/bare.many", laid_bellows_bare_many)] }
def NamedSaid : Prop := namedRow.holds Tryz.pinned (OpenSpec.ofChange namedSpec)

/-- ITS FALSE NEIGHBOUR: 'it returns false'. Refute it at one input. -/
def namedWrong : ChangeSpec := { name := "named", fn := fun _ => fun
  | [d1, d2, d3, d4, d5] => { results := [.lit (.bool false)], args := [d1, d2, d3, d4, d5] }
  | _ => none }
def NamedWrongFalsely : Prop := namedRow.holds Tryz.pinned (OpenSpec.ofChange namedWrong)

/-- 'bellowslaw.Writes': WHATEVER THE INPUT: true; the input reads as it did. -/
def writesSpec : ChangeSpec := { name := "writes", fn := fun _ => fun
  | [d] => { results := [.lit (.bool true)], args := [d] }
  | _ => none }
def writesRow : OpenClaim := { program := "ytbpahojchgpdnaagreatdoor", sum := "59adae723787ea71ca597acae17b9ebe447ece2ff09d47f18b212148bcaa7059", func := "bellows/bellowslaw.Writes", spec := "writes", unfollowed := true, recurses := true, named := ["bellows/bare.firstOrder", "bellows/bare.again", "bellows/bare.few", "bellows/bare.many"], apart := false, laid := [("bellows/bare.firstOrder", laid_bellows_bare_firstOrder), ("bellows/bare.again", laid_bellows_bare_again), ("bellows/bare.few", laid_bellows_bare_few), ("bellows/bare.many", laid_bellows_bare_many)] }
def WritesSaid : Prop := writesRow.holds Tryz.pinned (OpenSpec.ofChange writesSpec)

/-- ITS FALSE NEIGHBOUR: 'it returns false'. Refute it at one input. -/
def writesWrong : ChangeSpec := { name := "writes", fn := fun _ => fun
  | [d] => { results := [.lit (.bool false)], args := [d] }
  | _ => none }
def WritesWrongFalsely : Prop := writesRow.holds Tryz.pinned (OpenSpec.ofChange writesWrong)

/-- 'bellowskeep.Pieces': WHATEVER THE INPUT: true; the input reads as it did. -/
def piecesSpec : ChangeSpec := { name := "pieces", fn := fun _ => fun
  | [d1, d2, d3, d4] => { results := [.lit (.bool true)], args := [d1, d2, d3, d4] }
  | _ => none }
def piecesRow : OpenClaim := { program := "ytbpahojchgpdnaagreatdoor", sum := "59adae723787ea71ca597acae17b9ebe447ece2ff09d47f18b212148bcaa7059", func := "bellows/bellowskeep.Pieces", spec := "pieces", unfollowed := true, recurses := true, named := ["bellows/bare.firstOrder", "bellows/bare.again", "bellows/bare.few", "bellows/bare.many"], apart := false, laid := [("bellows/bare.firstOrder", laid_bellows_bare_firstOrder), ("bellows/bare.again", laid_bellows_bare_again), ("bellows/bare.few", laid_bellows_bare_few), ("bellows/bare.many", laid_bellows_bare_many)] }
def PiecesSaid : Prop := piecesRow.holds Tryz.pinned (OpenSpec.ofChange piecesSpec)

/-- ITS FALSE NEIGHBOUR: 'it returns false'. Refute it at one input. -/
def piecesWrong : ChangeSpec := { name := "pieces", fn := fun _ => fun
  | [d1, d2, d3, d4] => { results := [.lit (.bool false)], args := [d1, d2, d3, d4] }
  | _ => none }
def PiecesWrongFalsely : Prop := piecesRow.holds Tryz.pinned (OpenSpec.ofChange piecesWrong)

/-- 'bellowslaw.All': WHATEVER THE INPUT: true; the input reads as it did. -/
def allSpec : ChangeSpec := { name := "all", fn := fun _ => fun
  | [d] => { results := [.lit (.bool true)], args := [d] }
  | _ => none }
def allRow : OpenClaim := { program := "ytbpahojchgpdnaagreatdoor", sum := "59adae723787ea71ca597acae17b9ebe447ece2ff09d47f18b212148bcaa7059", func := "bellows/bellowslaw.All", spec := "all", unfollowed := true, recurses := true, named := ["bellows/bare.firstOrder", "bellows/bare.again", "bellows/bare.few", "bellows/bare.many"], apart := false, laid := [("bellows/bare.firstOrder", laid_bellows_bare_firstOrder), ("bellows/bare.again", laid_bellows_bare_again), ("bellows/bare.few", laid_bellows_bare_few), ("bellows/bare.many", laid_bellows_bare_many)] }
def AllSaid : Prop := allRow.holds Tryz.pinned (OpenSpec.ofChange allSpec)

/-- ITS FALSE NEIGHBOUR: 'it returns false'. Refute it at one input. -/
def allWrong : ChangeSpec := { name := "all", fn := fun _ => fun
  | [d] => { results := [.lit (.bool false)], args := [d] }
  | _ => none }
def AllWrongFalsely : Prop := allRow.holds Tryz.pinned (OpenSpec.ofChange allWrong)

/- THE SECOND FORM. 'bulk': how many values and letters a reading holds, each counted each time it is reached (what is shared counts as often as it is met; a slice's spare places count too). A statement '..UptoSaid' is the law's where the arguments, and the package variables that the reading takes, are together of bulk at most 1048576: NARROWER than '..Said'. Prove '..Said' where nothing that the law and all that it calls make is longer than what came in: it says more and counts as full. Else prove '..UptoSaid'. A law counts once. -/
mutual
def uptoBulk {H : Type} : DataW H → Nat
  | .lit (.string bytes) => bytes.length + 1
  | .lit _ => 1
  | .nil => 1
  | .ptr d => uptoBulk d + 1
  | .slice elems spare => uptoBulkAll elems + uptoBulkAll spare + 1
  | .agg parts => uptoBulkAll parts + 1
  | .iface _ d => uptoBulk d + 1
  | .map entries => uptoBulkEntries entries + 1
  | .held _ => 1
def uptoBulkAll {H : Type} : List (DataW H) → Nat
  | [] => 0
  | d :: r => uptoBulk d + uptoBulkAll r
def uptoBulkEntries {H : Type} : List (Lit × DataW H) → Nat
  | [] => 0
  | x :: r => uptoBulkEntry x + uptoBulkEntries r
def uptoBulkEntry {H : Type} : Lit × DataW H → Nat
  | (.string bytes, d) => bytes.length + uptoBulk d + 1
  | (_, d) => uptoBulk d + 1
 end
def uptoSmall : (H : Type) → List (DataW H) → Bool := fun _ ds => decide (uptoBulkAll ds ≤ 1048576)
def OpenSpec.upto (s : _root_.Go.ChangeSpec) : _root_.Go.OpenSpec := { _root_.Go.OpenSpec.ofChange s with cond := some uptoSmall }

/-- 'bellowslaw.Unpacks', WHERE WHAT IT READS IS OF BULK AT MOST 1048576: true; the input reads as it did. -/
def unpacksUptoRow : OpenClaim := { program := "ytbpahojchgpdnaagreatdoor", sum := "59adae723787ea71ca597acae17b9ebe447ece2ff09d47f18b212148bcaa7059", func := "bellows/bellowslaw.Unpacks", spec := "unpacks", unfollowed := true, recurses := true, named := ["bellows/bare.firstOrder", "bellows/bare.again", "bellows/bare.few", "bellows/bare.many"], apart := false, laid := [("bellows/bare.firstOrder", laid_bellows_bare_firstOrder), ("bellows/bare.again", laid_bellows_bare_again), ("bellows/bare.few", laid_bellows_bare_few), ("bellows/bare.many", laid_bellows_bare_many)], narrowed := true }
def UnpacksUptoSaid : Prop := unpacksUptoRow.holds Tryz.pinned (OpenSpec.upto unpacksSpec)

/-- 'bellowslaw.Wraps', WHERE WHAT IT READS IS OF BULK AT MOST 1048576: true; the input reads as it did. -/
def wrapsUptoRow : OpenClaim := { program := "ytbpahojchgpdnaagreatdoor", sum := "59adae723787ea71ca597acae17b9ebe447ece2ff09d47f18b212148bcaa7059", func := "bellows/bellowslaw.Wraps", spec := "wraps", unfollowed := true, recurses := true, named := ["bellows/bare.firstOrder", "bellows/bare.again", "bellows/bare.few", "bellows/bare.many"], apart := false, laid := [("bellows/bare.firstOrder", laid_bellows_bare_firstOrder), ("bellows/bare.again", laid_bellows_bare_again), ("bellows/bare.few", laid_bellows_bare_few), ("bellows/bare.many", laid_bellows_bare_many)], narrowed := true }
def WrapsUptoSaid : Prop := wrapsUptoRow.holds Tryz.pinned (OpenSpec.upto wrapsSpec)

/-- 'bellowslaw.Packs', WHERE WHAT IT READS IS OF BULK AT MOST 1048576: true; the input reads as it did. -/
def packsUptoRow : OpenClaim := { program := "ytbpahojchgpdnaagreatdoor", sum := "59adae723787ea71ca597acae17b9ebe447ece2ff09d47f18b212148bcaa7059", func := "bellows/bellowslaw.Packs", spec := "packs", unfollowed := true, recurses := true, named := ["bellows/bare.firstOrder", "bellows/bare.again", "bellows/bare.few", "bellows/bare.many"], apart := false, laid := [("bellows/bare.firstOrder", laid_bellows_bare_firstOrder), ("bellows/bare.again", laid_bellows_bare_again), ("bellows/bare.few", laid_bellows_bare_few), ("bellows/bare.many", laid_bellows_bare_many)], narrowed := true }
def PacksUptoSaid : Prop := packsUptoRow.holds Tryz.pinned (OpenSpec.upto packsSpec)

/-- 'bellowskeep.Copies', WHERE WHAT IT READS IS OF BULK AT MOST 1048576: true; the input reads as it did. -/
def copiesUptoRow : OpenClaim := { program := "ytbpahojchgpdnaagreatdoor", sum := "59adae723787ea71ca597acae17b9ebe447ece2ff09d47f18b212148bcaa7059", func := "bellows/bellowskeep.Copies", spec := "copies", unfollowed := true, recurses := true, named := ["bellows/bare.firstOrder", "bellows/bare.again", "bellows/bare.few", "bellows/bare.many"], apart := false, laid := [("bellows/bare.firstOrder", laid_bellows_bare_firstOrder), ("bellows/bare.again", laid_bellows_bare_again), ("bellows/bare.few", laid_bellows_bare_few), ("bellows/bare.many", laid_bellows_bare_many)], narrowed := true }
def CopiesUptoSaid : Prop := copiesUptoRow.holds Tryz.pinned (OpenSpec.upto copiesSpec)

/-- 'bellowskeep.Round', WHERE WHAT IT READS IS OF BULK AT MOST 1048576: true; the input reads as it did. -/
def roundUptoRow : OpenClaim := { program := "ytbpahojchgpdnaagreatdoor", sum := "59adae723787ea71ca597acae17b9ebe447ece2ff09d47f18b212148bcaa7059", func := "bellows/bellowskeep.Round", spec := "round", unfollowed := true, recurses := true, named := ["bellows/bare.firstOrder", "bellows/bare.again", "bellows/bare.few", "bellows/bare.many"], apart := false, laid := [("bellows/bare.firstOrder", laid_bellows_bare_firstOrder), ("bellows/bare.again", laid_bellows_bare_again), ("bellows/bare.few", laid_bellows_bare_few), ("bellows/bare.many", laid_bellows_bare_many)], narrowed := true }
def RoundUptoSaid : Prop := roundUptoRow.holds Tryz.pinned (OpenSpec.upto roundSpec)

/-- 'bellowskeep.Ends', WHERE WHAT IT READS IS OF BULK AT MOST 1048576: true; the input reads as it did. -/
def endsUptoRow : OpenClaim := { program := "ytbpahojchgpdnaagreatdoor", sum := "59adae723787ea71ca597acae17b9ebe447ece2ff09d47f18b212148bcaa7059", func := "bellows/bellowskeep.Ends", spec := "ends", unfollowed := true, recurses := true, named := ["bellows/bare.firstOrder", "bellows/bare.again", "bellows/bare.few", "bellows/bare.many"], apart := false, laid := [("bellows/bare.firstOrder", laid_bellows_bare_firstOrder), ("bellows/bare.again", laid_bellows_bare_again), ("bellows/bare.few", laid_bellows_bare_few), ("bellows/bare.many", laid_bellows_bare_many)], narrowed := true }
def EndsUptoSaid : Prop := endsUptoRow.holds Tryz.pinned (OpenSpec.upto endsSpec)

/-- 'bellowskeep.Sums', WHERE WHAT IT READS IS OF BULK AT MOST 1048576: true; the input reads as it did. -/
def sumsUptoRow : OpenClaim := { program := "ytbpahojchgpdnaagreatdoor", sum := "59adae723787ea71ca597acae17b9ebe447ece2ff09d47f18b212148bcaa7059", func := "bellows/bellowskeep.Sums", spec := "sums", unfollowed := true, recurses := true, named := ["bellows/bare.many", "bellows/bare.few", "bellows/bare.again", "bellows/bare.firstOrder"], apart := false, laid := [("bellows/bare.firstOrder", laid_bellows_bare_firstOrder), ("bellows/bare.again", laid_bellows_bare_again), ("bellows/bare.few", laid_bellows_bare_few), ("bellows/bare.many", laid_bellows_bare_many)], narrowed := true }
def SumsUptoSaid : Prop := sumsUptoRow.holds Tryz.pinned (OpenSpec.upto sumsSpec)

/-- 'bellowskeep.Named', WHERE WHAT IT READS IS OF BULK AT MOST 1048576: true; the input reads as it did. -/
def namedUptoRow : OpenClaim := { program := "ytbpahojchgpdnaagreatdoor", sum := "59adae723787ea71ca597acae17b9ebe447ece2ff09d47f18b212148bcaa7059", func := "bellows/bellowskeep.Named", spec := "named", unfollowed := true, recurses := true, named := ["bellows/bare.firstOrder", "bellows/bare.again", "bellows/bare.few", "bellows/bare.many"], apart := false, laid := [("bellows/bare.firstOrder", laid_bellows_bare_firstOrder), ("bellows/bare.again", laid_bellows_bare_again), ("bellows/bare.few", laid_bellows_bare_few), ("bellows/bare.many", laid_bellows_bare_many)], narrowed := true }
def NamedUptoSaid : Prop := namedUptoRow.holds Tryz.pinned (OpenSpec.upto namedSpec)

/-- 'bellowslaw.Writes', WHERE WHAT IT READS IS OF BULK AT MOST 1048576: true; the input reads as it did. -/
def writesUptoRow : OpenClaim := { program := "ytbpahojchgpdnaagreatdoor", sum := "59adae723787ea71ca597acae17b9ebe447ece2ff09d47f18b212148bcaa7059", func := "bellows/bellowslaw.Writes", spec := "writes", unfollowed := true, recurses := true, named := ["bellows/bare.firstOrder", "bellows/bare.again", "bellows/bare.few", "bellows/bare.many"], apart := false, laid := [("bellows/bare.firstOrder", laid_bellows_bare_firstOrder), ("bellows/bare.again", laid_bellows_bare_again), ("bellows/bare.few", laid_bellows_bare_few), ("bellows/bare.many", laid_bellows_bare_many)], narrowed := true }
def WritesUptoSaid : Prop := writesUptoRow.holds Tryz.pinned (OpenSpec.upto writesSpec)

/-- 'bellowskeep.Pieces', WHERE WHAT IT READS IS OF BULK AT MOST 1048576: true; the input reads as it did. -/
def piecesUptoRow : OpenClaim := { program := "ytbpahojchgpdnaagreatdoor", sum := "59adae723787ea71ca597acae17b9ebe447ece2ff09d47f18b212148bcaa7059", func := "bellows/bellowskeep.Pieces", spec := "pieces", unfollowed := true, recurses := true, named := ["bellows/bare.firstOrder", "bellows/bare.again", "bellows/bare.few", "bellows/bare.many"], apart := false, laid := [("bellows/bare.firstOrder", laid_bellows_bare_firstOrder), ("bellows/bare.again", laid_bellows_bare_again), ("bellows/bare.few", laid_bellows_bare_few), ("bellows/bare.many", laid_bellows_bare_many)], narrowed := true }
def PiecesUptoSaid : Prop := piecesUptoRow.holds Tryz.pinned (OpenSpec.upto piecesSpec)

/-- 'bellowslaw.All', WHERE WHAT IT READS IS OF BULK AT MOST 1048576: true; the input reads as it did. -/
def allUptoRow : OpenClaim := { program := "ytbpahojchgpdnaagreatdoor", sum := "59adae723787ea71ca597acae17b9ebe447ece2ff09d47f18b212148bcaa7059", func := "bellows/bellowslaw.All", spec := "all", unfollowed := true, recurses := true, named := ["bellows/bare.firstOrder", "bellows/bare.again", "bellows/bare.few", "bellows/bare.many"], apart := false, laid := [("bellows/bare.firstOrder", laid_bellows_bare_firstOrder), ("bellows/bare.again", laid_bellows_bare_again), ("bellows/bare.few", laid_bellows_bare_few), ("bellows/bare.many", laid_bellows_bare_many)], narrowed := true }
def AllUptoSaid : Prop := allUptoRow.holds Tryz.pinned (OpenSpec.upto allSpec)

end Rows
end Go.Proofs.YtbpahojchgpdnaaGreatDoor
