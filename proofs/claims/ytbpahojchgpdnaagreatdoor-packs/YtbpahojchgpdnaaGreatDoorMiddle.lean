/- Proved here: what fixedHead does, both its tables told. -/
import Derived.Test.YtbpahojchgpdnaaGreatDoorFixCod
import Derived.Deep.RegionHeld3
import Derived.Lib.Slices
import Derived.Deep.LoopGhost
import Derived.Defers
import Derived.Recover
import Derived.Test.YtbpahojchgpdnaaGreatDoorBlocks
namespace Go.Proofs.YtbpahojchgpdnaaGreatDoor
open Go.RowKit Go.Bel Go.Maps
theorem fixLensG_eq : fixLensG = fixLens := rfl
end Go.Proofs.YtbpahojchgpdnaaGreatDoor
namespace Go.Proofs.YtbpahojchgpdnaaGreatDoor
open Go.RowKit Go.Bel Go.Maps
theorem rLength_bits (B : List Nat) (q c b l : Nat) (h1 : 265 ≤ c) (h2 : c ≤ 284) (hb : (c - 261) / 4 = b) (hl : (4 + (c - 265) % 4) * 2 ^ b + 3 = l) :
  rLength B q c = if q + b ≤ 8 * B.length then .ok (l + numAt B q b) (q + b) else .miss := by
 unfold rLength
 rw [if_neg (by omega), if_neg (by omega), if_neg (by omega), hb, hl]
end Go.Proofs.YtbpahojchgpdnaaGreatDoor
namespace Go.Proofs.YtbpahojchgpdnaaGreatDoor
open Go.RowKit Go.Bel Go.Maps
theorem rLength_le {B : List Nat} {q c n q' : Nat} (h : rLength B q c = .ok n q') (hc : 257 ≤ c) : 3 ≤ n ∧ n ≤ 258 := by
 unfold rLength at h
 split at h
 ·simp at h
 ·split at h
  ·simp only [R.ok.injEq] at h; obtain ⟨rfl, _⟩ := h; omega
  ·split at h
   ·simp only [R.ok.injEq] at h; obtain ⟨rfl, _⟩ := h; omega
   ·split at h
    ·simp only [R.ok.injEq] at h
     obtain ⟨rfl, _⟩ := h
     have hc2 : c ≤ 284 := by omega
     have hb : (c - 261) / 4 = 1 ∨ (c - 261) / 4 = 2 ∨ (c - 261) / 4 = 3 ∨ (c - 261) / 4 = 4 ∨ (c - 261) / 4 = 5 := by omega
     have hm : (c - 265) % 4 < 4 := Nat.mod_lt _ (by omega)
     have hn := numAt_lt B q ((c - 261) / 4)
     rcases hb with hb | hb | hb | hb | hb <;> rw [hb] at hn ⊢ <;> omega
    ·simp at h
theorem rDist_le {D : Dealt} {B : List Nat} {q n q' : Nat} (h : rDist D B q = .ok n q') : 1 ≤ n ∧ n ≤ 32768 := by
 unfold rDist at h
 split at h
 ·simp at h
 ·simp at h
 ·rename_i s q1 hs
  split at h
  ·simp at h
  ·split at h
   ·simp only [R.ok.injEq] at h; obtain ⟨rfl, _⟩ := h; omega
   ·split at h
    ·simp only [R.ok.injEq] at h
     obtain ⟨rfl, _⟩ := h
     have hn := numAt_lt B q1 (s / 2 - 1)
     have hm : s % 2 < 2 := Nat.mod_lt _ (by omega)
     have hb : s / 2 - 1 ≤ 13 := by omega
     have hp : 2 ^ (s / 2 - 1) ≤ 2 ^ 13 := Nat.pow_le_pow_right (by omega) hb
     have h2 : (2 + s % 2) * 2 ^ (s / 2 - 1) ≤ 3 * 2 ^ (s / 2 - 1) := Nat.mul_le_mul_right _ (by omega)
     omega
    ·simp at h
theorem copied_length (out : List Nat) (dist len : Nat) : (copied out dist len).length = len := by simp [copied]
end Go.Proofs.YtbpahojchgpdnaaGreatDoor
namespace Go.Proofs.YtbpahojchgpdnaaGreatDoor
open Go.RowKit Go.Bel Go.Maps
def asked (most : Int) : Nat := if most < 0 then 0 else if 1048576 < most then 1048576 else most.toNat
theorem asked_le (most : Int) : asked most ≤ 1048576 := by unfold asked; split <;> (try split) <;> omega
end Go.Proofs.YtbpahojchgpdnaaGreatDoor
namespace Go.Proofs.YtbpahojchgpdnaaGreatDoor
open Go.RowKit Go.Bel Go.Maps
def gInit (most : Nat) : GS := { out := [], most := most, place := 0, last := false, left := 0, ls := [], ld := [], p := 0 }
def usedG (z e q : Nat) : Nat := if e = 0 then z + (q + 7) / 8 else 0
end Go.Proofs.YtbpahojchgpdnaaGreatDoor
namespace Go.Proofs.YtbpahojchgpdnaaGreatDoor
open Go.RowKit Go.Bel Go.Maps
def init (most : Nat) : PS := { out := [], most := most, place := 0, last := false, left := 0, tab := fun _ => none, longest := 0, p := 0 }
end Go.Proofs.YtbpahojchgpdnaaGreatDoor
namespace Go.Proofs.YtbpahojchgpdnaaGreatDoor
open Go.RowKit Go.Bel Go.Maps
def allBits (B : List Nat) : List Bool := (List.range (8 * B.length)).map fun p => decide (bitAt B p = 1)
theorem allBits_length (B : List Nat) : (allBits B).length = 8 * B.length := by simp [allBits]
theorem allBits_in (B : List Nat) (h : ∀ i : Nat, B[i]?.getD 0 < 256) : BitsIn (allBits B) B := by
 refine ⟨h, fun p => ?_⟩
 by_cases hp : p < 8 * B.length
 ·unfold allBits
  rw [List.getElem?_map, List.getElem?_range hp]
  have := bitAt_lt B p
  have h2 : bitAt B p = 0 ∨ bitAt B p = 1 := by omega
  rcases h2 with e | e <;> simp [e]
 ·rw [List.getElem?_eq_none (by rw [allBits_length]; omega)]
  unfold bitAt
  rw [List.getElem?_eq_none (by omega)]
  simp
end Go.Proofs.YtbpahojchgpdnaaGreatDoor
