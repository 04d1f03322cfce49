/- Proved here: what the reference's told does. -/
import Derived.Test.YtbpahojchgpdnaaGreatDoorToldx
namespace Go.Proofs.YtbpahojchgpdnaaGreatDoor
open Go.RowKit Go.Bel
def Bad {α : Type} (r : R α) (e : Nat) : Prop := (r = .no e ∧ e ≠ 0) ∨ (r = .miss ∧ e = 3)
theorem Bad.ne {α : Type} {r : R α} {e : Nat} (h : Bad r e) : e ≠ 0 := by rcases h with h | h <;> omega
theorem toldX_bad {r : R (List Nat × List Nat)} {e : Nat} (h : Bad r e) {x base : Nat} {b : ByteArray} {s : XS} {w w' : World} {c1 c2 : Value} {a : Nat} (h1 : isSlice c1) (h2 : isSlice c2) (ha : a ≤ 8 * b.size) (hx : XAt w' x base b { s with err := e, at_ := a }) (hw : Wrt x w s.v w' s.v) :
  ToldXP r x base b s w c1 c2 { s with err := e, at_ := a } w' := by
 rcases h with ⟨rfl, he⟩ | ⟨rfl, rfl⟩
 ·exact ⟨hx, hw, he, h1, h2, a, ha, rfl⟩
 ·exact ⟨hx, hw, h1, h2, a, ha, rfl⟩
theorem threeX (b : ByteArray) (s : XS) (h0 : s.err = 0) (ht : s.at_ ≤ 8 * b.size) :
  (s.at_ + 14 ≤ 8 * b.size ∧ numX b (numX b (numX b s 5).2 5).2 4 = (numAt (bytesOf b) (s.at_ + 10) 4, { s with at_ := s.at_ + 14 }) ∧ (numX b s 5).1 = numAt (bytesOf b) s.at_ 5 ∧ (numX b (numX b s 5).2 5).1 = numAt (bytesOf b) (s.at_ + 5) 5) ∨
  (¬ s.at_ + 14 ≤ 8 * b.size ∧ (numX b (numX b (numX b s 5).2 5).2 4).2 = { s with at_ := 8 * b.size, err := 3 }) := by
 by_cases h1 : s.at_ + 5 ≤ 8 * b.size
 ·rw [numX_ok b s h0 5 h1]
  dsimp only
  by_cases h2 : s.at_ + 10 ≤ 8 * b.size
  ·rw [numX_ok b { s with at_ := s.at_ + 5 } h0 5 (by dsimp only; omega)]
   dsimp only
   by_cases h3 : s.at_ + 14 ≤ 8 * b.size
   ·refine .inl ⟨h3, ?_, rfl, rfl⟩
    exact numX_ok b { s with at_ := s.at_ + 10 } h0 4 (by dsimp only; omega)
   ·exact .inr ⟨h3, numX_miss b { s with at_ := s.at_ + 10 } h0 (by dsimp only; omega) 4 (by dsimp only; omega)⟩
  ·have e := numX_miss b { s with at_ := s.at_ + 5 } h0 (by dsimp only; omega) 5 (by dsimp only; omega)
   rw [e, numX_err _ _ (by dsimp only; omega)]
   exact .inr ⟨by omega, rfl⟩
 ·have e := numX_miss b s h0 ht 5 (by omega)
  have e2 := fun k => numX_err b { s with at_ := 8 * b.size, err := 3 } (by show (3 : Nat) ≠ 0; omega) k
  rw [e, e2, e2]
  exact .inr ⟨by omega, rfl⟩
structure Well (b : ByteArray) (s : XS) (m f c : Nat) : Prop where
 there : s.at_ + 14 ≤ 8 * b.size
 m_ : m = numAt (bytesOf b) s.at_ 5 + 257
 f_ : f = numAt (bytesOf b) (s.at_ + 5) 5 + 1
 c_ : c = numAt (bytesOf b) (s.at_ + 10) 4 + 4
 ml : m ≤ 286
 fl : f ≤ 30
def Ill (b : ByteArray) (s s2 : XS) : Prop := ∃ e a, Bad (rCoding (bytesOf b) s.at_) e ∧ a ≤ 8 * b.size ∧ s2 = { s with err := e, at_ := a }
theorem rC_miss (b : ByteArray) (s : XS) (h : ¬ s.at_ + 14 ≤ 8 * b.size) : rCoding (bytesOf b) s.at_ = .miss := by
 unfold rCoding
 rw [bytesOf_length, if_neg h]
theorem rC_many (b : ByteArray) (s : XS) (h : s.at_ + 14 ≤ 8 * b.size) (h2 : 286 < numAt (bytesOf b) s.at_ 5 + 257 ∨ 30 < numAt (bytesOf b) (s.at_ + 5) 5 + 1) : rCoding (bytesOf b) s.at_ = .no 7 := by
 unfold rCoding
 rw [bytesOf_length, if_pos h]
 dsimp only
 rw [if_pos h2]
theorem Well.rC {b : ByteArray} {s : XS} {m f c : Nat} (h : Well b s m f c) : rCoding (bytesOf b) s.at_ = if s.at_ + 14 + 3 * c ≤ 8 * b.size then (if mayB (firstLens (bytesOf b) (s.at_ + 14) c) = true then (match rRow (dealAll (firstLens (bytesOf b) (s.at_ + 14) c)) (bytesOf b) (m + f) (s.at_ + 14 + 3 * c) with | .ok row q => rDealt row m q | .no e => .no e | .miss => .miss) else .no 7) else .miss := by
 unfold rCoding
 rw [bytesOf_length, if_pos h.there]
 dsimp only
 rw [← h.m_, ← h.f_, ← h.c_, if_neg (by have := h.ml; have := h.fl; omega)]
 rfl
theorem headX (b : ByteArray) (s : XS) (h0 : s.err = 0) (ht : s.at_ ≤ 8 * b.size) (v1 v2 : Nat) (p3 : Nat × XS) (e1 : v1 = (numX b s 5).1) (e2 : v2 = (numX b (numX b s 5).2 5).1) (e3 : p3 = numX b (numX b (numX b s 5).2 5).2 4) :
  (p3.2 = { s with at_ := s.at_ + 14 } ∧ Well b s (v1 + 257) (v2 + 1) (p3.1 + 4) ∧ ¬ (286 < v1 + 257 ∨ 30 < v2 + 1)) ∨ (¬ (286 < v1 + 257 ∨ 30 < v2 + 1) ∧ Ill b s p3.2) ∨ ((286 < v1 + 257 ∨ 30 < v2 + 1) ∧ Ill b s { p3.2 with err := if p3.2.err = 0 then 7 else p3.2.err }) := by
 rcases threeX b s h0 ht with ⟨h1, h2, h3, h4⟩ | ⟨h1, h2⟩
 ·rw [h2] at e3
  rw [h3] at e1
  rw [h4] at e2
  subst e3
  dsimp only
  by_cases hb : 286 < v1 + 257 ∨ 30 < v2 + 1
  ·refine .inr (.inr ⟨hb, 7, s.at_ + 14, .inl ⟨rC_many b s h1 (by rw [← e1, ← e2]; exact hb), by omega⟩, h1, ?_⟩)
   rw [if_pos h0]
  ·exact .inl ⟨rfl, ⟨h1, by rw [e1], by rw [e2], rfl, by omega, by omega⟩, hb⟩
 ·rw [← e3] at h2
  by_cases hb : 286 < v1 + 257 ∨ 30 < v2 + 1
  ·refine .inr (.inr ⟨hb, 3, 8 * b.size, .inr ⟨rC_miss b s h1, rfl⟩, Nat.le_refl _, ?_⟩)
   rw [h2]
   rfl
  ·exact .inr (.inl ⟨hb, 3, 8 * b.size, .inr ⟨rC_miss b s h1, rfl⟩, Nat.le_refl _, h2⟩)
def FirstX (b : ByteArray) (s : XS) (m f c k : Nat) (F : Nat → Nat) (s2 : XS) : Prop :=
 (s2 = { s with at_ := s.at_ + 14 + 3 * k } ∧ Well b s m f c ∧ s.at_ + 14 + 3 * k ≤ 8 * b.size ∧ F = fsTo (bytesOf b) (s.at_ + 14) k) ∨ Ill b s s2
theorem firstX_next {b : ByteArray} {s : XS} {m f c k : Nat} {F : Nat → Nat} {s2 : XS} (h0 : s.err = 0) (hk : k < c) (h : FirstX b s m f c k F s2) :
  FirstX b s m f c (k + 1) (fun i => if i = orderList[k]?.getD 0 then (numX b s2 3).1 else F i) (numX b s2 3).2 := by
 rcases h with ⟨rfl, hW, hle, rfl⟩ | ⟨e, a, hb, ha, rfl⟩
 ·by_cases ht : s.at_ + 14 + 3 * k + 3 ≤ 8 * b.size
  ·rw [numX_ok b { s with at_ := s.at_ + 14 + 3 * k } h0 3 ht]
   exact .inl ⟨rfl, hW, by omega, by funext i; rw [fsTo]⟩
  ·rw [numX_miss b { s with at_ := s.at_ + 14 + 3 * k } h0 hle 3 (by dsimp only; omega)]
   refine .inr ⟨3, 8 * b.size, .inr ⟨?_, rfl⟩, Nat.le_refl _, rfl⟩
   rw [hW.rC, if_neg (by omega)]
 ·rw [numX_err _ _ (by exact hb.ne)]
  exact .inr ⟨e, a, hb, ha, rfl⟩
theorem rowStep_no {D : Dealt} {B : List Nat} {n p e : Nat} {row : List Nat} (h : rowStep D B n p row = .no e) : e ≠ 0 := by
 unfold rowStep at h
 split at h
 ·rename_i e' hs
  have := rSym_no hs
  cases h
  omega
 ·cases h
 ·split at h
  ·cases h; omega
  ·split at h
   ·rename_i e' hl
    unfold rLens at hl
    split at hl
    ·cases hl
    ·split at hl
     ·split at hl <;> cases hl
     ·split at hl
      ·split at hl <;> cases hl
      ·split at hl <;> cases hl
   ·cases h
   ·split at h
    ·cases h; omega
    ·cases h
theorem rowStep_ok {D : Dealt} {B : List Nat} {n p q : Nat} {row row' : List Nat} (h : rowStep D B n p row = .ok row' q) : row.length < row'.length ∧ row'.length ≤ n := by
 unfold rowStep at h
 split at h
 ·cases h
 ·cases h
 ·rename_i s q1 hs
  split at h
  ·cases h
  ·split at h
   ·cases h
   ·cases h
   ·rename_i lt q' hl
    have h2 := (rLens_ok hl (rSym_ok hs).2.1).2.2
    split at h
    ·cases h
    ·cases h
     rw [List.length_append, List.length_replicate]
     omega
theorem rRowF_done (D : Dealt) (B : List Nat) (n k p : Nat) (row : List Nat) (h : n ≤ row.length) : rRowF D B n k p row = .ok row p := by
 cases k with
 | zero => rfl
 | succ k => rw [rRowF, if_pos h]
def RowX (D : Dealt) (b : ByteArray) (s : XS) (n p0 g : Nat) (row : List Nat) (s2 : XS) : Prop :=
 (∃ p2, p2 ≤ 8 * b.size ∧ s2 = { s with at_ := p2 } ∧ rRowF D (bytesOf b) n g p2 row = rRow D (bytesOf b) n p0 ∧ n ≤ row.length + g ∧ row.length ≤ n) ∨ ∃ e a, Bad (rRow D (bytesOf b) n p0) e ∧ a ≤ 8 * b.size ∧ s2 = { s with err := e, at_ := a }
theorem Step.past {S : Nat → Prop} {w w1 w2 : World} {lb : Nat} (h : Step S w w1) (hl : w.heap.size ≤ lb) (k : Step (fun k => S k ∨ lb ≤ k) w1 w2) : Step S w w2 :=
 h.trans' k fun i hi hx => hx.elim (fun y => y) (fun y => by omega)
end Go.Proofs.YtbpahojchgpdnaaGreatDoor
