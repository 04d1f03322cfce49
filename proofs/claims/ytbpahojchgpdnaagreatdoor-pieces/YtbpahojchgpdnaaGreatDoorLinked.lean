/- Proved here: what Unpack does with what is bare, where the decoder's steps are known. -/
import Derived.Test.YtbpahojchgpdnaaGreatDoorMade
import Derived.Test.YtbpahojchgpdnaaGreatDoorBlocks
namespace Go.Proofs.YtbpahojchgpdnaaGreatDoor
open Go.RowKit Go.Bel Go.Maps
def init (most : Nat) : PS := { out := [], most := most, place := 0, last := false, left := 0, tab := fun _ => none, longest := 0, p := 0 }
end Go.Proofs.YtbpahojchgpdnaaGreatDoor
namespace Go.Proofs.YtbpahojchgpdnaaGreatDoor
open Go.RowKit Go.Bel Go.Maps
def allBits (B : List Nat) : List Bool := (List.range (8 * B.length)).map fun p => decide (bitAt B p = 1)
theorem allBits_length (B : List Nat) : (allBits B).length = 8 * B.length := by simp [allBits]
theorem allBits_in (B : List Nat) (h : ∀ i : Nat, B[i]?.getD 0 < 256) : BitsIn (allBits B) B := by
 refine ⟨h, fun p => ?_⟩
 by_cases hp : p < 8 * B.length
 ·unfold allBits
  rw [List.getElem?_map, List.getElem?_range hp]
  have := bitAt_lt B p
  have h2 : bitAt B p = 0 ∨ bitAt B p = 1 := by omega
  rcases h2 with e | e <;> simp [e]
 ·rw [List.getElem?_eq_none (by rw [allBits_length]; omega)]
  unfold bitAt
  rw [List.getElem?_eq_none (by omega)]
  simp
end Go.Proofs.YtbpahojchgpdnaaGreatDoor
