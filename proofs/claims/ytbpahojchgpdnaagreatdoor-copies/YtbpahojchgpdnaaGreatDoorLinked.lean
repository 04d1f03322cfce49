/- Proved here: what Unpack does with what is bare, where the decoder's steps are known. Proved here: what the writer writes for Literals is read again: all of it where it fits, all but the last byte where one less is asked for. -/
import Derived.Test.YtbpahojchgpdnaaGreatDoorRun
import Derived.Test.YtbpahojchgpdnaaGreatDoorMade
import Derived.Test.YtbpahojchgpdnaaGreatDoorBlocks
namespace Go.Proofs.YtbpahojchgpdnaaGreatDoor
open Go.RowKit Go.Bel Go.Maps

def init (most : Nat) : PS := { out := [], most := most, place := 0, last := false, left := 0, tab := fun _ => none, longest := 0, p := 0 }
def usedOf (e : Nat) (s : PS) : Nat := if e = 0 then (s.p + 7) / 8 else 0

theorem link_init (most : Nat) : Link (init most) (gInit most) := ⟨rfl, rfl, rfl, rfl, rfl, rfl, fun h => by simp [init] at h⟩

theorem unpack_ok (g off cap most n e : Nat) (B : List Nat) (s' : PS) (w : World) (hS : Go.Bel.Src w g off B) (hg : g < w.heap.size) (hO : OrderAt w) (h4 : 4 ≤ w.heap.size) (hm : most ≤ 1048576) (hr : PRun B n (init most) e s') :
    Calls Tryz.prog 25 #[.int .i64 0, .slice (some ⟨g, off, none⟩) B.length cap, .int .i64 (most : Nat)] w
      fun r w' => ∃ v', r = .returned (.agg #[.int .i64 (e : Nat), v', .int .i64 (usedOf e s' : Nat), .string ⟨#[]⟩]) ∧ w'.ownsRow w.heap.size 5 1 v' s'.out.length (u8s s'.out) ∧ Step (fun _ => False) w w' := by
  obtain ⟨q, hg2, hq⟩ := hr.grun (gInit most) (link_init most)
  have ha : asked (most : Int) = most := by unfold asked; rw [if_neg (by omega), if_neg (by omega)]; omega
  have hu : usedOf e s' = usedG 0 e q := by
    unfold usedOf usedG
    by_cases he : e = 0
    · rw [if_pos he, if_pos he, hq he]; omega
    · rw [if_neg he, if_neg he]
  rw [hu]
  exact unpackG g off cap n e (most : Int) B s'.out q w hS hg hO h4 (by rw [ha]; exact hg2)
end Go.Proofs.YtbpahojchgpdnaaGreatDoor

namespace Go.Proofs.YtbpahojchgpdnaaGreatDoor
open Go.RowKit Go.Bel Go.Maps

def blockBits (k p : Nat) (l : List Nat) (last : Bool) : List Bool := if k = 0 then storedBits p l last else if k = 1 then litBits l last else toldBits l last

/- all bits of bytes -/
def allBits (B : List Nat) : List Bool := (List.range (8 * B.length)).map fun p => decide (bitAt B p = 1)
theorem allBits_length (B : List Nat) : (allBits B).length = 8 * B.length := by simp [allBits]
theorem allBits_in (B : List Nat) (h : ∀ i : Nat, B[i]?.getD 0 < 256) : BitsIn (allBits B) B := by
  refine ⟨h, fun p => ?_⟩
  by_cases hp : p < 8 * B.length
  · unfold allBits
    rw [List.getElem?_map, List.getElem?_range hp]
    have := bitAt_lt B p
    have h2 : bitAt B p = 0 ∨ bitAt B p = 1 := by omega
    rcases h2 with e | e <;> simp [e]
  · rw [List.getElem?_eq_none (by rw [allBits_length]; omega)]
    unfold bitAt
    rw [List.getElem?_eq_none (by omega)]
    simp
theorem allBits_from {bs : List Bool} {B : List Nat} (hB : BitsIn bs B) (hb : bs.length ≤ 8 * B.length) (X : List Nat) : BitsFrom (allBits (B ++ X)) 0 bs := fun i hi => by
  have h1 : i < 8 * (B ++ X).length := by simp; omega
  have h2 : bitAt (B ++ X) i = bitAt B i := by
    unfold bitAt
    rw [List.getElem?_append_left (by omega)]
  rw [Nat.zero_add]
  unfold allBits
  rw [List.getElem?_map, List.getElem?_range h1]
  show some (decide (bitAt (B ++ X) i = 1)) = bs[i]?
  rw [h2, hB.bit i, List.getElem?_eq_getElem hi]
  cases bs[i] <;> simp

theorem blk_any {bs : List Bool} {B : List Nat} (hB : BitsIn bs B) (hb : bs.length ≤ 8 * B.length) (k p : Nat) (l : List Nat) (last : Bool) (hc : ∀ c ∈ l, c < 256) (hl : l.length ≤ 65535) (h : BitsFrom bs p (blockBits k p l last)) :
    BlkOk B p (p + (blockBits k p l last).length) l last := by
  unfold blockBits at h ⊢
  split
  · rename_i hk; rw [if_pos hk] at h; exact stored_blk hB hb p l last hc hl h
  · rename_i hk
    rw [if_neg hk] at h
    split
    · rename_i hk2; rw [if_pos hk2] at h; exact lit_blk hB hb p l last hc h
    · rename_i hk2; rw [if_neg hk2] at h; exact told_blk hB hb p l last hc h

theorem three {B : List Nat} {p1 p2 p3 : Nat} {l0 l1 l2 : List Nat} (h0 : BlkOk B 0 p1 l0 false) (h1 : BlkOk B p1 p2 l1 false) (h2 : BlkOk B p2 p3 l2 true) (most : Nat) :
    (l0.length + l1.length + l2.length ≤ most → ∃ s', Runs B (init most) 0 s' ∧ s'.out = l0 ++ l1 ++ l2 ∧ s'.p = (p3 + 7) / 8 * 8) ∧
    (l0.length + l1.length + l2.length = most + 1 → ∃ s', Runs B (init most) 11 s' ∧ s'.out = (l0 ++ l1 ++ l2).take most) := by
  constructor
  · intro hm
    obtain ⟨s1, a1, a2, a3, a4, a5⟩ := h0.fits (init most) rfl rfl (by simp [init]; omega)
    have e1 : (init most).out = [] := rfl
    have e2 : (init most).most = most := rfl
    rw [e1, List.nil_append] at a2
    rw [e2] at a3
    obtain ⟨s2, b1, b2, b3, b4, b5⟩ := h1.fits s1 a1 a4 (by rw [a2, a3]; omega)
    rw [a2] at b2
    rw [a3] at b3
    obtain ⟨s3, c1, c2, c3, c4, c5⟩ := h2.fits s2 b1 b4 (by rw [b2, b3, List.length_append]; omega)
    rw [b2] at c2
    exact ⟨s3, a5 _ _ (b5 _ _ (c5 _ _ ⟨0, .done s3 c1⟩)), c2, c4⟩
  · intro hm
    have e1 : (init most).out = [] := rfl
    have e2 : (init most).most = most := rfl
    by_cases k1 : most < l0.length
    · obtain ⟨s', r1, r2⟩ := h0.much (init most) rfl rfl (by rw [e1]; exact Nat.zero_le _) (by rw [e1, e2]; simp; exact k1)
      refine ⟨s', r1, ?_⟩
      rw [r2, e1, e2, List.nil_append, List.append_assoc, List.take_append_of_le_length (by omega)]
      rfl
    obtain ⟨s1, a1, a2, a3, a4, a5⟩ := h0.fits (init most) rfl rfl (by rw [e1, e2]; simp; omega)
    rw [e1, List.nil_append] at a2
    rw [e2] at a3
    by_cases k2 : most < l0.length + l1.length
    · obtain ⟨s', r1, r2⟩ := h1.much s1 a1 a4 (by rw [a2, a3]; omega) (by rw [a2, a3]; exact k2)
      refine ⟨s', a5 _ _ r1, ?_⟩
      have e : (l0 ++ l1 ++ l2).take most = l0 ++ l1.take (most - l0.length) := by
        rw [List.append_assoc, List.take_append, List.take_of_length_le (by omega), List.take_append_of_le_length (by omega)]
      rw [r2, a2, a3, e]
    obtain ⟨s2, b1, b2, b3, b4, b5⟩ := h1.fits s1 a1 a4 (by rw [a2, a3]; omega)
    rw [a2] at b2
    rw [a3] at b3
    obtain ⟨s', r1, r2⟩ := h2.much s2 b1 b4 (by rw [b2, b3, List.length_append]; omega) (by rw [b2, b3, List.length_append]; omega)
    refine ⟨s', a5 _ _ (b5 _ _ r1), ?_⟩
    have e : (l0 ++ l1 ++ l2).take most = (l0 ++ l1) ++ l2.take (most - (l0 ++ l1).length) := by
      rw [List.take_append, List.take_of_length_le (by rw [List.length_append]; omega)]
    rw [r2, b2, b3, e]
end Go.Proofs.YtbpahojchgpdnaaGreatDoor
