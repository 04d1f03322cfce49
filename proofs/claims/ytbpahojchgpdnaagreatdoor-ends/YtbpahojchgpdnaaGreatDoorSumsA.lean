/-  -/
import Derived.Test.YtbpahojchgpdnaaGreatDoorMarksD
namespace Go.Proofs.YtbpahojchgpdnaaGreatDoor
open Go.RowKit Go.Bel Go.Maps
end Go.Proofs.YtbpahojchgpdnaaGreatDoor
namespace Go.Proofs.YtbpahojchgpdnaaGreatDoor
open Go.RowKit Go.Bel Go.Maps
theorem bytesOf_first (x : ByteArray) (k : Nat) : bytesOf (x.extract 0 k) = (bytesOf x).take k := by
 unfold bytesOf
 rw [← List.map_take]
 congr 1
 rw [ByteArray.data_extract, Array.toList_extract, List.extract_eq_take_drop]
 simp
def AnyPb (way : Nat) (ys : List Nat) (bits : List Bool) : Prop := (way = 0 ∧ StoR 0 ys bits) ∨ (way = 1 ∧ FixPk ys bits) ∨ (way = 2 ∧ BestPb ys bits)
theorem any_said (way : Nat) (ys : List Nat) (hw : way ≤ 2) (hl : ys.length ≤ 1048576) : PackSaid way ys (AnyPb way ys) := by
 have h3 : way = 0 ∨ way = 1 ∨ way = 2 := by omega
 intro u w hu hO h4
 rcases h3 with rfl | rfl | rfl
 ·refine (packSaid_stored ys hl u w hu hO h4).mono ?_
  rintro e w' ⟨v', bits, h1, h2, h3⟩
  exact ⟨v', bits, h1, .inl ⟨rfl, h2⟩, h3⟩
 ·refine (packBare_fixed ys u w hu hO h4).mono ?_
  rintro e w' ⟨v', bits, h1, h2, h3⟩
  exact ⟨v', bits, h1, .inr (.inl ⟨rfl, h2⟩), h3⟩
 ·refine (packBare_best ys u w hu hO h4).mono ?_
  rintro e w' ⟨v', bits, h1, h2, h3⟩
  exact ⟨v', bits, h1, .inr (.inr ⟨rfl, h2⟩), h3⟩
theorem any_reads {way : Nat} {ys : List Nat} {bits : List Bool} {P : List Nat} (h : AnyPb way ys bits) (hy : ∀ y ∈ ys, y < 256) (hB : BitsIn bits P) (hl : P.length = (bits.length + 7) / 8) : ReadsAs P ys := by
 have hy2 : ∀ i : Nat, ys[i]?.getD 0 < 256 := all_get hy
 rcases h with ⟨_, h⟩ | ⟨_, h⟩ | ⟨_, h⟩
 ·exact sto_reads h hy hB hl
 ·exact fix_reads h.1 hy2 hB hl
 ·exact best_reads h hy2 hB hl
theorem tolR_pos {ps : List Pc} {bits : List Bool} (h : TolR ps bits) : 3 ≤ bits.length := by
 have key : ∀ {last : Bool} {ps : List Pc} {tb : List Bool}, ToldB last ps tb → 3 ≤ tb.length := fun h => by
  obtain ⟨L1, L2, a, b, c, F, l, bits, _, _, _, _, rfl⟩ := h
  simp only [List.length_append, beginBits_length]
  omega
 cases h with
 | last ps tb h ht => exact key ht
 | more ps tb bits h ht hr => rw [List.length_append]; have := key ht; omega
theorem any_len {way : Nat} {ys : List Nat} {bits : List Bool} (h : AnyPb way ys bits) (hl : ys.length ≤ 1048576) : 3 ≤ bits.length ∧ (bits.length + 7) / 8 ≤ 8388000 := by
 rcases h with ⟨_, h⟩ | ⟨_, h⟩ | ⟨_, h⟩
 ·have h1 := stoR_len h
  have h2 := stoR_pos h
  omega
 ·have h1 := fixPb_length h.1
  have h2 : 3 ≤ bits.length := by
   obtain ⟨ps, pb, _, _, _, rfl⟩ := h.1
   simp only [List.length_append, beginBits_length]
   omega
  omega
 ·obtain ⟨ps, sb, fb, pb, tb, h1, h2, h3, h4, h5, h6, h7, h8, _⟩ := h
  have k1 := stoR_len h2
  have k2 : 3 ≤ bits.length := by
   rcases h7 with rfl | rfl | rfl
   ·exact stoR_pos h2
   ·rw [h5]; simp only [List.length_append, beginBits_length]; omega
   ·exact tolR_pos h6
  omega
end Go.Proofs.YtbpahojchgpdnaaGreatDoor
