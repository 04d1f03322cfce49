/-  -/
import Derived.Test.YtbpahojchgpdnaaGreatDoorSumsA
import Derived.Test.YtbpahojchgpdnaaGreatDoorNames
import Derived.Deep.DeepCutAuto
set_option maxRecDepth 20000
set_option maxHeartbeats 4000000
namespace Go.Bel
open Go Go.RowKit Go.Proofs.YtbpahojchgpdnaaGreatDoor
structure Sees (B B' : List Nat) (k : Nat) : Prop where
 whole : k % 8 = 0
 fits : k + 8 * B'.length ≤ 8 * B.length
 get : ∀ i, i < B'.length → B[k / 8 + i]?.getD 0 = B'[i]?.getD 0
theorem Sees.take (B : List Nat) (c : Nat) : Sees B (B.take c) 0 :=
 ⟨rfl, by simp; omega, fun i hi => by rw [show 0 / 8 + i = i by omega, List.getElem?_take, if_pos (by simp at hi; omega)]⟩
variable {B B' : List Nat} {k : Nat}
theorem Sees.bit (h : Sees B B' k) {p : Nat} (hp : p < 8 * B'.length) : bitAt B (p + k) = bitAt B' p := by
 have h0 := h.whole
 unfold bitAt
 rw [show (p + k) / 8 = k / 8 + p / 8 by omega, show (p + k) % 8 = p % 8 by omega, h.get _ (by omega)]
theorem Sees.num (h : Sees B B' k) : ∀ {n p : Nat}, p + n ≤ 8 * B'.length → numAt B (p + k) n = numAt B' p n := by
 intro n
 induction n with
 | zero => intro p _; rfl
 | succ n ih =>
  intro p hp
  rw [numAt, numAt, ih (by omega), show p + k + n = p + n + k by omega, h.bit (by omega)]
theorem Sees.key (h : Sees B B' k) : ∀ {n p : Nat}, p + n ≤ 8 * B'.length → keyAt B (p + k) n = keyAt B' p n := by
 intro n
 induction n with
 | zero => intro p _; rfl
 | succ n ih =>
  intro p hp
  rw [keyAt, keyAt, ih (by omega), show p + k + n = p + n + k by omega, h.bit (by omega)]
theorem Sees.fs (h : Sees B B' k) (i : Nat) : ∀ {c p : Nat}, p + 3 * c ≤ 8 * B'.length → fsTo B (p + k) c i = fsTo B' p c i := by
 intro c
 induction c with
 | zero => intro p _; rfl
 | succ c ih =>
  intro p hp
  rw [fsTo, fsTo, ih (by omega), show p + k + 3 * c = p + 3 * c + k by omega, h.num (by omega)]
theorem Sees.firsts (h : Sees B B' k) {c p : Nat} (hp : p + 3 * c ≤ 8 * B'.length) : firstLens B (p + k) c = firstLens B' p c := by
 unfold firstLens
 exact List.map_congr_left fun i _ => h.fs i hp
def R.sh {α : Type} (k : Nat) : R α → R α
 | .ok a q => .ok a (q + k)
 | .no e => .no e
 | .miss => .miss
def GS.sh (k : Nat) (s : GS) : GS := { s with p := s.p + k }
def G.sh (k : Nat) : G → G
 | .go s => .go (s.sh k)
 | .no e out => .no e out
 | .miss => .miss
theorem rSymF_sees (h : Sees B B' k) (D : Dealt) (p : Nat) : ∀ r j, rSymF D B' p r j = .miss ∨ rSymF D B (p + k) r j = (rSymF D B' p r j).sh k := by
 have hf := h.fits
 intro r
 induction r with
 | zero => intro j; exact .inr rfl
 | succ r ih =>
  intro j
  by_cases hj : p + j < 8 * B'.length
  ·rw [rSymF, rSymF, if_pos hj, if_pos (by omega), h.key (by omega)]
   cases D.tab (keyAt B' p (j + 1)) with
   | some s => exact .inr (by simp only [R.sh]; congr 1; omega)
   | none => exact ih (j + 1)
  ·left; rw [rSymF, if_neg hj]
theorem rSym_sees (h : Sees B B' k) (D : Dealt) (p : Nat) : rSym D B' p = .miss ∨ rSym D B (p + k) = (rSym D B' p).sh k := rSymF_sees h D p _ _
theorem rLens_sees (h : Sees B B' k) (q s : Nat) (row : List Nat) : rLens B' q s row = .miss ∨ rLens B (q + k) s row = (rLens B' q s row).sh k := by
 have hf := h.fits
 unfold rLens
 by_cases h1 : s < 16
 ·right; rw [if_pos h1, if_pos h1]; rfl
 ·rw [if_neg h1, if_neg h1]
  have one : ∀ (n x z : Nat), (if q + n ≤ 8 * B'.length then R.ok (x, numAt B' q n + z) (q + n) else .miss) = .miss ∨ (if q + k + n ≤ 8 * B.length then R.ok (x, numAt B (q + k) n + z) (q + k + n) else .miss) = (if q + n ≤ 8 * B'.length then R.ok (x, numAt B' q n + z) (q + n) else .miss).sh k := by
   intro n x z
   by_cases h2 : q + n ≤ 8 * B'.length
   ·right
    rw [if_pos h2, if_pos (by omega), h.num h2]
    simp only [R.sh]
    congr 1; omega
   ·left; rw [if_neg h2]
  by_cases h3 : s = 16
  ·rw [if_pos h3, if_pos h3]; exact one 2 _ _
  ·rw [if_neg h3, if_neg h3]
   by_cases h4 : s = 17
   ·rw [if_pos h4, if_pos h4]; exact one 3 _ _
   ·rw [if_neg h4, if_neg h4]; exact one 7 _ _
theorem rRowF_sees (h : Sees B B' k) (D : Dealt) (n : Nat) : ∀ m p row, rRowF D B' n m p row = .miss ∨ rRowF D B n m (p + k) row = (rRowF D B' n m p row).sh k := by
 intro m
 induction m with
 | zero => intro p row; exact .inr rfl
 | succ m ih =>
  intro p row
  rw [rRowF, rRowF]
  by_cases h1 : n ≤ row.length
  ·right; rw [if_pos h1, if_pos h1]; rfl
  ·rw [if_neg h1, if_neg h1]
   rcases rSym_sees h D p with h2 | h2
   ·left; rw [h2]
   ·rw [h2]
    cases rSym D B' p with
    | no e => exact .inr rfl
    | miss => exact .inl rfl
    | ok s q =>
     simp only [R.sh]
     by_cases h3 : s = 16 ∧ row.length = 0
     ·right; rw [if_pos h3, if_pos h3]
     ·rw [if_neg h3, if_neg h3]
      rcases rLens_sees h q s row with h4 | h4
      ·left; rw [h4]
      ·rw [h4]
       cases rLens B' q s row with
       | no e => exact .inr rfl
       | miss => exact .inl rfl
       | ok lt q' =>
        simp only [R.sh]
        by_cases h5 : n < row.length + lt.2
        ·right; rw [if_pos h5, if_pos h5]
        ·rw [if_neg h5, if_neg h5]
         exact ih q' _
theorem rCoding_sees (h : Sees B B' k) (p : Nat) : rCoding B' p = .miss ∨ rCoding B (p + k) = (rCoding B' p).sh k := by
 have hf := h.fits
 unfold rCoding
 by_cases h1 : p + 14 ≤ 8 * B'.length
 ·rw [if_pos h1, if_pos (show p + k + 14 ≤ 8 * B.length by omega)]
  have e1 : numAt B (p + k) 5 = numAt B' p 5 := h.num (by omega)
  have e2 : numAt B (p + k + 5) 5 = numAt B' (p + 5) 5 := by rw [show p + k + 5 = p + 5 + k by omega]; exact h.num (by omega)
  have e3 : numAt B (p + k + 10) 4 = numAt B' (p + 10) 4 := by rw [show p + k + 10 = p + 10 + k by omega]; exact h.num (by omega)
  dsimp only
  rw [e1, e2, e3]
  by_cases h2 : 286 < numAt B' p 5 + 257 ∨ 30 < numAt B' (p + 5) 5 + 1
  ·right; rw [if_pos h2, if_pos h2]; rfl
  ·rw [if_neg h2, if_neg h2]
   by_cases h3 : p + 14 + 3 * (numAt B' (p + 10) 4 + 4) ≤ 8 * B'.length
   ·rw [if_pos h3, if_pos (show p + k + 14 + 3 * (numAt B' (p + 10) 4 + 4) ≤ 8 * B.length by omega), show p + k + 14 = p + 14 + k by omega, h.firsts h3]
    by_cases h4 : mayB (firstLens B' (p + 14) (numAt B' (p + 10) 4 + 4)) = true
    ·rw [if_pos h4, if_pos h4, show p + 14 + k + 3 * (numAt B' (p + 10) 4 + 4) = p + 14 + 3 * (numAt B' (p + 10) 4 + 4) + k by omega]
     unfold rRow
     rcases rRowF_sees h (dealAll (firstLens B' (p + 14) (numAt B' (p + 10) 4 + 4))) (numAt B' p 5 + 257 + (numAt B' (p + 5) 5 + 1)) (numAt B' p 5 + 257 + (numAt B' (p + 5) 5 + 1)) (p + 14 + 3 * (numAt B' (p + 10) 4 + 4)) [] with h5 | h5
     ·left; rw [h5]
     ·rw [h5]
      cases rRowF (dealAll (firstLens B' (p + 14) (numAt B' (p + 10) 4 + 4))) B' (numAt B' p 5 + 257 + (numAt B' (p + 5) 5 + 1)) (numAt B' p 5 + 257 + (numAt B' (p + 5) 5 + 1)) (p + 14 + 3 * (numAt B' (p + 10) 4 + 4)) [] with
      | no e => exact .inr rfl
      | miss => exact .inl rfl
      | ok row q =>
       right
       simp only [R.sh]
       unfold rDealt
       split <;> rfl
    ·right; rw [if_neg h4, if_neg h4]; rfl
   ·left; rw [if_neg h3]
 ·left; rw [if_neg h1]
theorem rLength_sees (h : Sees B B' k) (q c : Nat) : rLength B' q c = .miss ∨ rLength B (q + k) c = (rLength B' q c).sh k := by
 have hf := h.fits
 unfold rLength
 by_cases h1 : 285 < c
 ·right; rw [if_pos h1, if_pos h1]; rfl
 ·rw [if_neg h1, if_neg h1]
  by_cases h2 : c = 285
  ·right; rw [if_pos h2, if_pos h2]; rfl
  ·rw [if_neg h2, if_neg h2]
   by_cases h3 : c < 265
   ·right; rw [if_pos h3, if_pos h3]; rfl
   ·rw [if_neg h3, if_neg h3]
    by_cases h4 : q + (c - 261) / 4 ≤ 8 * B'.length
    ·right
     rw [if_pos h4, if_pos (by omega), h.num h4]
     simp only [R.sh]
     congr 1; omega
    ·left; rw [if_neg h4]
theorem rDist_sees (h : Sees B B' k) (D : Dealt) (q : Nat) : rDist D B' q = .miss ∨ rDist D B (q + k) = (rDist D B' q).sh k := by
 have hf := h.fits
 unfold rDist
 rcases rSym_sees h D q with h2 | h2
 ·left; rw [h2]
 ·rw [h2]
  cases rSym D B' q with
  | no e => exact .inr rfl
  | miss => exact .inl rfl
  | ok s q' =>
   simp only [R.sh]
   by_cases h3 : 30 ≤ s
   ·right; rw [if_pos h3, if_pos h3]
   ·rw [if_neg h3, if_neg h3]
    by_cases h4 : s < 4
    ·right; rw [if_pos h4, if_pos h4]
    ·rw [if_neg h4, if_neg h4]
     by_cases h5 : q' + (s / 2 - 1) ≤ 8 * B'.length
     ·right
      rw [if_pos h5, if_pos (by omega), h.num h5]
      simp only
      congr 1; omega
     ·left; rw [if_neg h5]
theorem gPut_sh (s : GS) (xs : List Nat) (p : Nat) : gPut (s.sh k) xs (p + k) = (gPut s xs p).sh k := by
 unfold gPut
 by_cases h : s.out.length + xs.length ≤ s.most
 ·rw [if_pos h, if_pos (by exact h)]; rfl
 ·rw [if_neg h, if_neg (by exact h)]; rfl
theorem ended_sh (h8 : k % 8 = 0) (s : GS) (p : Nat) : (s.sh k).ended (p + k) = (s.ended p).sh k := by
 unfold GS.ended GS.sh
 simp only
 cases s.last
 ·rfl
 ·simp only [if_true]
  congr 1
  omega
theorem gCopy_sees (h : Sees B B' k) (s : GS) (c q : Nat) : gCopy B' s c q = .miss ∨ gCopy B (s.sh k) c (q + k) = (gCopy B' s c q).sh k := by
 unfold gCopy
 rcases rLength_sees h q c with h1 | h1
 ·left; rw [h1]
 ·rw [h1]
  cases rLength B' q c with
  | no e => exact .inr rfl
  | miss => exact .inl rfl
  | ok n q1 =>
   simp only [R.sh]
   rcases rDist_sees h (dealAll s.ld) q1 with h2 | h2
   ·left; rw [h2]
   ·rw [show (s.sh k).ld = s.ld from rfl, h2]
    cases rDist (dealAll s.ld) B' q1 with
    | no e => exact .inr rfl
    | miss => exact .inl rfl
    | ok dist q2 =>
     simp only [R.sh]
     rw [show (s.sh k).out = s.out from rfl]
     by_cases h3 : s.out.length < dist
     ·right; rw [if_pos h3, if_pos h3]; rfl
     ·right; rw [if_neg h3, if_neg h3]; exact gPut_sh s _ _
theorem gSym_sees (h : Sees B B' k) (s : GS) : gSym B' s = .miss ∨ gSym B (s.sh k) = (gSym B' s).sh k := by
 unfold gSym
 rw [show (s.sh k).ls = s.ls from rfl, show (s.sh k).p = s.p + k from rfl]
 rcases rSym_sees h (dealAll s.ls) s.p with h1 | h1
 ·left; rw [h1]
 ·rw [h1]
  cases rSym (dealAll s.ls) B' s.p with
  | no e => exact .inr rfl
  | miss => exact .inl rfl
  | ok c q =>
   simp only [R.sh]
   by_cases h2 : c < 256
   ·right; rw [if_pos h2, if_pos h2]; exact gPut_sh s _ _
   ·rw [if_neg h2, if_neg h2]
    by_cases h3 : c = 256
    ·right; rw [if_pos h3, if_pos h3, ended_sh h.whole]; rfl
    ·rw [if_neg h3, if_neg h3]; exact gCopy_sees h s c q
theorem gByte_sees (h : Sees B B' k) (s : GS) : gByte B' s = .miss ∨ gByte B (s.sh k) = (gByte B' s).sh k := by
 have hf := h.fits
 unfold gByte
 rw [show (s.sh k).left = s.left from rfl, show (s.sh k).p = s.p + k from rfl]
 by_cases h1 : s.left = 0
 ·right; rw [if_pos h1, if_pos h1, ended_sh h.whole]; rfl
 ·rw [if_neg h1, if_neg h1]
  by_cases h2 : s.p + 8 ≤ 8 * B'.length
  ·right
   rw [if_pos h2, if_pos (by omega), h.num h2, show s.p + k + 8 = s.p + 8 + k by omega]
   exact gPut_sh { s with left := s.left - 1 } _ _
  ·left; rw [if_neg h2]
theorem gHead_sees (h : Sees B B' k) (s : GS) : gHead B' s = .miss ∨ gHead B (s.sh k) = (gHead B' s).sh k := by
 have hf := h.fits
 have h8 := h.whole
 unfold gHead
 rw [show (s.sh k).p = s.p + k from rfl, show (s.sh k).out = s.out from rfl]
 by_cases h1 : s.p + 3 ≤ 8 * B'.length
 ·rw [if_pos h1, if_pos (show s.p + k + 3 ≤ 8 * B.length by omega)]
  have e1 : numAt B (s.p + k + 1) 2 = numAt B' (s.p + 1) 2 := by rw [show s.p + k + 1 = s.p + 1 + k by omega]; exact h.num (by omega)
  have e2 : bitAt B (s.p + k) = bitAt B' s.p := h.bit (by omega)
  rw [e1, e2]
  by_cases h2 : numAt B' (s.p + 1) 2 = 0
  ·rw [if_pos h2, if_pos h2, show (s.p + k + 3 + 7) / 8 * 8 = (s.p + 3 + 7) / 8 * 8 + k by omega]
   by_cases h3 : (s.p + 3 + 7) / 8 * 8 + 32 ≤ 8 * B'.length
   ·right
    rw [if_pos h3, if_pos (show (s.p + 3 + 7) / 8 * 8 + k + 32 ≤ 8 * B.length by omega), show (s.p + 3 + 7) / 8 * 8 + k + 16 = (s.p + 3 + 7) / 8 * 8 + 16 + k by omega, h.num (by omega), h.num (by omega)]
    by_cases h4 : numAt B' ((s.p + 3 + 7) / 8 * 8 + 16) 16 = 65535 - numAt B' ((s.p + 3 + 7) / 8 * 8) 16
    ·rw [if_pos h4, if_pos h4, show (s.p + 3 + 7) / 8 * 8 + k + 32 = (s.p + 3 + 7) / 8 * 8 + 32 + k by omega]; rfl
    ·rw [if_neg h4, if_neg h4]; rfl
   ·left; rw [if_neg h3]
  ·rw [if_neg h2, if_neg h2]
   by_cases h3 : numAt B' (s.p + 1) 2 = 1
   ·right; rw [if_pos h3, if_pos h3, show s.p + k + 3 = s.p + 3 + k by omega]; rfl
   ·rw [if_neg h3, if_neg h3]
    by_cases h4 : numAt B' (s.p + 1) 2 = 2
    ·rw [if_pos h4, if_pos h4, show s.p + k + 3 = s.p + 3 + k by omega]
     rcases rCoding_sees h (s.p + 3) with h5 | h5
     ·left; rw [h5]
     ·rw [h5]
      cases rCoding B' (s.p + 3) with
      | no e => exact .inr rfl
      | miss => exact .inl rfl
      | ok ab q => exact .inr rfl
    ·right; rw [if_neg h4, if_neg h4]; rfl
 ·left; rw [if_neg h1]
theorem gStep_sees (h : Sees B B' k) (s : GS) : gStep B' s = .miss ∨ gStep B (s.sh k) = (gStep B' s).sh k := by
 unfold gStep
 rw [show (s.sh k).place = s.place from rfl]
 by_cases h1 : s.place = 1
 ·rw [if_pos h1, if_pos h1]; exact gByte_sees h s
 ·rw [if_neg h1, if_neg h1]
  by_cases h2 : s.place = 2
  ·rw [if_pos h2, if_pos h2]; exact gSym_sees h s
  ·rw [if_neg h2, if_neg h2]; exact gHead_sees h s
theorem gPut_out {s : GS} {xs : List Nat} {p : Nat} : (∀ s1, gPut s xs p = .go s1 → s.out <+: s1.out) ∧ (∀ e out, gPut s xs p = .no e out → s.out <+: out) := by
 unfold gPut
 by_cases h : s.out.length + xs.length ≤ s.most
 ·rw [if_pos h]
  exact ⟨fun s1 e => by injection e with e; subst e; exact List.prefix_append _ _, fun e out x => by simp at x⟩
 ·rw [if_neg h]
  exact ⟨fun s1 e => by simp at e, fun e out x => by injection x with x1 x2; subst x2; exact List.prefix_append _ _⟩
theorem gStep_out (B : List Nat) (s : GS) : (∀ s1, gStep B s = .go s1 → s.out <+: s1.out) ∧ (∀ e out, gStep B s = .no e out → s.out <+: out) := by
 have same : ∀ x : G, (x = .miss ∨ (∃ e, x = .no e s.out) ∨ ∃ s1, x = .go s1 ∧ s1.out = s.out) → (∀ s1, x = .go s1 → s.out <+: s1.out) ∧ (∀ e out, x = .no e out → s.out <+: out) := by
  rintro x (rfl | ⟨e, rfl⟩ | ⟨s1, rfl, h⟩)
  ·exact ⟨fun s1 e => by simp at e, fun e out x => by simp at x⟩
  ·exact ⟨fun s1 e => by simp at e, fun e out x => by injection x with x1 x2; subst x2; exact List.prefix_refl _⟩
  ·exact ⟨fun s2 e => by injection e with e; subst e; rw [h]; exact List.prefix_refl _, fun e out x => by simp at x⟩
 unfold gStep
 split
 ·unfold gByte
  split
  ·exact same _ (.inr (.inr ⟨_, rfl, rfl⟩))
  ·split
   ·exact gPut_out (s := { s with left := s.left - 1 })
   ·exact same _ (.inl rfl)
 ·split
  ·unfold gSym
   split
   ·exact same _ (.inr (.inl ⟨_, rfl⟩))
   ·exact same _ (.inl rfl)
   ·split
    ·exact gPut_out
    ·split
     ·exact same _ (.inr (.inr ⟨_, rfl, rfl⟩))
     ·unfold gCopy
      split
      ·exact same _ (.inr (.inl ⟨_, rfl⟩))
      ·exact same _ (.inl rfl)
      ·split
       ·exact same _ (.inr (.inl ⟨_, rfl⟩))
       ·exact same _ (.inl rfl)
       ·split
        ·exact same _ (.inr (.inl ⟨_, rfl⟩))
        ·exact gPut_out
  ·unfold gHead
   split
   ·split
    ·split
     ·split
      ·exact same _ (.inr (.inr ⟨_, rfl, rfl⟩))
      ·exact same _ (.inr (.inl ⟨_, rfl⟩))
     ·exact same _ (.inl rfl)
    ·split
     ·exact same _ (.inr (.inr ⟨_, rfl, rfl⟩))
     ·split
      ·split
       ·exact same _ (.inr (.inr ⟨_, rfl, rfl⟩))
       ·exact same _ (.inr (.inl ⟨_, rfl⟩))
       ·exact same _ (.inl rfl)
      ·exact same _ (.inr (.inl ⟨_, rfl⟩))
   ·exact same _ (.inl rfl)
theorem GRun.begins {B : List Nat} {n e : Nat} {s : GS} {out : List Nat} {q : Nat} (h : GRun B n s e out q) : s.out <+: out := by
 induction h with
 | done s h => exact List.prefix_refl _
 | no s e out h3 h => exact (gStep_out B s).2 _ _ h
 | miss s h3 h => exact List.prefix_refl _
 | go n s s1 e out q h3 h k ih => exact ((gStep_out B s).1 _ h).trans ih
theorem GRun.place {B : List Nat} {n : Nat} {s : GS} {e : Nat} {out : List Nat} {q : Nat} (h : GRun B n s e out q) : s.p ≤ 8 * B.length → q ≤ 8 * B.length := by
 induction h with
 | done s h => exact id
 | no s e out h3 h => exact fun _ => Nat.zero_le _
 | miss s h3 h => exact fun _ => Nat.zero_le _
 | go n s s1 e out q h3 h k ih => exact fun hp => ih (gStep_less hp h).2
theorem run_sees (h : Sees B B' k) : ∀ {n e : Nat} {S : GS} {out : List Nat} {q : Nat}, GRun B n S e out q → ∀ s : GS, S = s.sh k → s.p ≤ 8 * B'.length →
  ∃ n' e' out' q', GRun B' n' s e' out' q' ∧ ((e' = e ∧ out' = out ∧ (q = q' + k ∨ q = 0 ∧ q' = 0)) ∨ (e' = 3 ∧ q' = 0 ∧ out' <+: out)) := by
 intro n e S out q hr
 induction hr with
 | done S h3 =>
  rintro s rfl hp
  exact ⟨_, _, _, _, .done s h3, .inl ⟨rfl, rfl, .inl rfl⟩⟩
 | no S e out h3 hs =>
  rintro s rfl hp
  rcases gStep_sees h s with h1 | h1
  ·exact ⟨_, _, _, _, .miss s h3 h1, .inr ⟨rfl, rfl, (gStep_out B (s.sh k)).2 _ _ hs⟩⟩
  ·rw [hs] at h1
   cases hg : gStep B' s with
   | go s1 => rw [hg] at h1; simp [G.sh] at h1
   | miss => rw [hg] at h1; simp [G.sh] at h1
   | no e1 o1 =>
    rw [hg] at h1
    simp only [G.sh, G.no.injEq] at h1
    obtain ⟨rfl, rfl⟩ := h1
    exact ⟨_, _, _, _, .no s e out h3 hg, .inl ⟨rfl, rfl, .inr ⟨rfl, rfl⟩⟩⟩
 | miss S h3 hs =>
  rintro s rfl hp
  rcases gStep_sees h s with h1 | h1
  ·exact ⟨_, _, _, _, .miss s h3 h1, .inl ⟨rfl, rfl, .inr ⟨rfl, rfl⟩⟩⟩
  ·rw [hs] at h1
   cases hg : gStep B' s with
   | go s1 => rw [hg] at h1; simp [G.sh] at h1
   | miss => exact ⟨_, _, _, _, .miss s h3 hg, .inl ⟨rfl, rfl, .inr ⟨rfl, rfl⟩⟩⟩
   | no e1 o1 => rw [hg] at h1; simp [G.sh] at h1
 | go n S s1 e out q h3 hs hk ih =>
  rintro s rfl hp
  rcases gStep_sees h s with h1 | h1
  ·exact ⟨_, _, _, _, .miss s h3 h1, .inr ⟨rfl, rfl, ((gStep_out B (s.sh k)).1 _ hs).trans hk.begins⟩⟩
  ·rw [hs] at h1
   cases hg : gStep B' s with
   | miss => rw [hg] at h1; simp [G.sh] at h1
   | no e1 o1 => rw [hg] at h1; simp [G.sh] at h1
   | go s2 =>
    rw [hg] at h1
    simp only [G.sh, G.go.injEq] at h1
    obtain ⟨n', e', out', q', hr', hd⟩ := ih s2 h1 (gStep_less hp hg).2
    exact ⟨_, _, _, _, .go n' s s2 e' out' q' h3 hg hr', hd⟩
end Go.Bel
namespace Go.Proofs.YtbpahojchgpdnaaGreatDoor
open Go.RowKit Go.Bel Go.Maps
theorem sh_zero (s : GS) : s.sh 0 = s := rfl
theorem run_take {B : List Nat} {n e : Nat} {s : GS} {out : List Nat} {q : Nat} (c : Nat) (hr : GRun B n s e out q) (hp : s.p ≤ 8 * (B.take c).length) :
  ∃ n' e' out' q', GRun (B.take c) n' s e' out' q' ∧ ((e' = e ∧ out' = out ∧ q' = q) ∨ (e' = 3 ∧ q' = 0 ∧ out' <+: out)) := by
 obtain ⟨n', e', out', q', h1, h2⟩ := run_sees (Sees.take B c) hr s (sh_zero s).symm hp
 refine ⟨n', e', out', q', h1, h2.imp (fun h => ⟨h.1, h.2.1, ?_⟩) id⟩
 rcases h.2.2 with x | x <;> omega
theorem bare_cut {P ys : List Nat} {most c : Nat} (hR : ReadsAs P ys) (hB : AllB P) (hm : ys.length ≤ most) (hc : c < P.length) : ∃ n out, GRun (P.take c) n (gInit most) 3 out 0 ∧ out <+: ys := by
 obtain ⟨n, hr⟩ := (hR [] [] (by simpa using all_get hB) most).1 hm
 have hr' : GRun P n (gInit most) 0 ys (8 * P.length) := by simpa [gAt, gInit] using hr
 obtain ⟨n', e', out', q', h1, h2⟩ := run_take c hr' (by simp [gInit])
 rcases h2 with ⟨rfl, rfl, rfl⟩ | ⟨rfl, rfl, h3⟩
 ·have := h1.place (by simp [gInit])
  simp at this
  omega
 ·exact ⟨n', out', h1, h3⟩
theorem take_num (B : List Nat) {c p n : Nat} (h : p + n ≤ 8 * (B.take c).length) : numAt (B.take c) p n = numAt B p n := ((Sees.take B c).num h).symm
theorem z_cut {P ys : List Nat} {most c : Nat} (hR : ReadsAs P ys) (hB : AllB (aroundZ P ys)) (hm : ys.length ≤ most) (hc : c < (aroundZ P ys).length) : ∃ out, zAll ((aroundZ P ys).take c) most 3 out 0 ∧ out <+: ys := by
 have e : aroundZ P ys = [120, 1] ++ (P ++ be4 (adWith 1 ys)) := by simp [aroundZ]
 have hl : (aroundZ P ys).length = 2 + P.length + 4 := by simp [aroundZ, be4]; omega
 obtain ⟨n, hg⟩ := (hR [120, 1] (be4 (adWith 1 ys)) (by rw [← e]; exact all_get hB) most).1 hm
 rw [← e] at hg
 have hct : ((aroundZ P ys).take c).length = c := by simp; omega
 have n0 : numAt (aroundZ P ys) 0 8 = 120 := by rw [e, show 0 = 8 * 0 from rfl, num_at]; rfl
 have n1 : numAt (aroundZ P ys) 8 8 = 1 := by rw [e, show 8 = 8 * 1 from rfl, num_at]; rfl
 unfold zAll
 by_cases c1 : c < 1
 ·exact ⟨[], by rw [if_neg (by omega)]; exact ⟨rfl, rfl, rfl⟩, List.nil_prefix⟩
 ·have z1 : zOk1 120 := by decide
  have z2 : zOk2 120 1 := by decide
  simp only [if_pos (show 0 + 8 ≤ 8 * ((aroundZ P ys).take c).length by omega), take_num (aroundZ P ys) (show 0 + 8 ≤ 8 * ((aroundZ P ys).take c).length by omega), n0, if_pos z1]
  unfold zSec
  by_cases c2 : c < 2
  ·exact ⟨[], by rw [if_neg (by omega)]; exact ⟨rfl, rfl, rfl⟩, List.nil_prefix⟩
  ·simp only [if_pos (show 0 + 8 + 8 ≤ 8 * ((aroundZ P ys).take c).length by omega), take_num (aroundZ P ys) (show 0 + 8 + 8 ≤ 8 * ((aroundZ P ys).take c).length by omega), show 0 + 8 = 8 from rfl, n1, if_pos z2]
   obtain ⟨n', e', out', q', h1, h2⟩ := run_take c hg (by rw [hct]; simp [gAt]; omega)
   rcases h2 with ⟨rfl, rfl, rfl⟩ | ⟨rfl, rfl, h3⟩
   ·refine ⟨out', ⟨n', 0, out', _, h1, ?_⟩, List.prefix_refl _⟩
    rw [if_pos rfl]
    unfold zTail
    refine ⟨rfl, ?_⟩
    rw [if_neg (by rw [hct]; simp; omega)]
    exact ⟨rfl, rfl⟩
   ·exact ⟨out', ⟨n', 3, out', _, h1, by rw [if_neg (by omega)]; exact ⟨rfl, rfl, rfl⟩⟩, h3⟩
theorem gz_cut {P ys : List Nat} {most c : Nat} (hR : ReadsAs P ys) (hB : AllB (aroundG P ys)) (hm : ys.length ≤ most) (hc : c < (aroundG P ys).length) : ∃ out, gzAll ((aroundG P ys).take c) most 3 out 0 [] ∧ out <+: ys := by
 have e : aroundG P ys = ([31, 139, 8] ++ List.replicate 7 0) ++ (P ++ (le4 (crcWith 0 ys) ++ le4 ys.length)) := by simp [aroundG]
 have hl : (aroundG P ys).length = 10 + P.length + 8 := by simp [aroundG, le4]; omega
 obtain ⟨n, hg⟩ := (hR ([31, 139, 8] ++ List.replicate 7 0) (le4 (crcWith 0 ys) ++ le4 ys.length) (by rw [← e]; exact all_get hB) most).1 hm
 rw [← e] at hg
 have hct : ((aroundG P ys).take c).length = c := by simp; omega
 have n0 : numAt (aroundG P ys) 0 8 = 31 := by rw [e, show 0 = 8 * 0 from rfl, num_at]; rfl
 have n1 : numAt (aroundG P ys) 8 8 = 139 := by rw [e, show 8 = 8 * 1 from rfl, num_at]; rfl
 have n2 : numAt (aroundG P ys) 16 8 = 8 := by rw [e, show 16 = 8 * 2 from rfl, num_at]; rfl
 have n3 : numAt (aroundG P ys) 24 8 = 0 := by rw [e, show 24 = 8 * 3 from rfl, num_at]; rfl
 have no : ∃ out, gzNo 3 [] 3 out 0 [] ∧ out <+: ys := ⟨[], ⟨rfl, rfl, rfl, rfl⟩, List.nil_prefix⟩
 unfold gzAll gzMark
 by_cases c1 : c < 1
 ·simp only [if_neg (show ¬ 0 + 8 ≤ 8 * ((aroundG P ys).take c).length by omega)]; exact no
 ·simp only [if_pos (show 0 + 8 ≤ 8 * ((aroundG P ys).take c).length by omega), take_num (aroundG P ys) (show 0 + 8 ≤ 8 * ((aroundG P ys).take c).length by omega), n0, if_true]
  unfold gz1 gzMark
  by_cases c2 : c < 2
  ·simp only [if_neg (show ¬ 8 + 8 ≤ 8 * ((aroundG P ys).take c).length by omega)]; exact no
  ·simp only [if_pos (show 8 + 8 ≤ 8 * ((aroundG P ys).take c).length by omega), take_num (aroundG P ys) (show 8 + 8 ≤ 8 * ((aroundG P ys).take c).length by omega), n1, if_true]
   unfold gz2 gzMark
   by_cases c3 : c < 3
   ·simp only [if_neg (show ¬ 16 + 8 ≤ 8 * ((aroundG P ys).take c).length by omega)]; exact no
   ·simp only [if_pos (show 16 + 8 ≤ 8 * ((aroundG P ys).take c).length by omega), take_num (aroundG P ys) (show 16 + 8 ≤ 8 * ((aroundG P ys).take c).length by omega), n2, if_true]
    unfold gzFlags
    by_cases c4 : c < 4
    ·simp only [if_neg (show ¬ 24 + 8 ≤ 8 * ((aroundG P ys).take c).length by omega)]; exact no
    ·simp only [if_pos (show 24 + 8 ≤ 8 * ((aroundG P ys).take c).length by omega), take_num (aroundG P ys) (show 24 + 8 ≤ 8 * ((aroundG P ys).take c).length by omega), n3, if_pos (show (0 : Nat) < 32 by omega)]
     unfold gzSkip
     by_cases c5 : c < 10
     ·simp only [if_neg (show ¬ 24 + 8 + 8 * 6 ≤ 8 * ((aroundG P ys).take c).length by omega)]; exact no
     ·simp only [if_pos (show 24 + 8 + 8 * 6 ≤ 8 * ((aroundG P ys).take c).length by omega)]
      suffices h : ∃ out, gzBody ((aroundG P ys).take c) most 80 [] 3 out 0 [] ∧ out <+: ys by
       obtain ⟨out, h1, h2⟩ := h
       exact ⟨out, gz_plain h1, h2⟩
      have e10 : ([31, 139, 8] ++ List.replicate 7 0 : List Nat).length = 10 := rfl
      rw [e10] at hg
      obtain ⟨n', e', out', q', h1, h2⟩ := run_take c hg (by rw [hct]; simp [gAt]; omega)
      rcases h2 with ⟨rfl, rfl, rfl⟩ | ⟨rfl, rfl, h3⟩
      ·refine ⟨out', ⟨n', 0, out', _, h1, ?_⟩, List.prefix_refl _⟩
       rw [if_pos rfl]
       unfold gzTail
       by_cases c6 : 8 * (10 + P.length) + 32 ≤ 8 * ((aroundG P out').take c).length
       ·rw [if_pos c6, take_num _ c6]
        have n4 := num_le4 (([31, 139, 8] ++ List.replicate 7 0) ++ P) (le4 out'.length) (crcWith 0 out') (crc_lt out')
        rw [List.append_assoc, ← e, List.length_append, e10] at n4
        rw [if_pos n4]
        unfold gzSize
        refine ⟨rfl, rfl, ?_⟩
        rw [if_neg (by rw [hct]; omega)]
        exact ⟨rfl, rfl⟩
       ·rw [if_neg c6]
        exact ⟨rfl, rfl, rfl, rfl⟩
      ·exact ⟨out', ⟨n', 3, out', _, h1, by rw [if_neg (by omega)]; exact ⟨rfl, rfl, rfl, rfl⟩⟩, h3⟩
end Go.Proofs.YtbpahojchgpdnaaGreatDoor
namespace Go.Proofs.YtbpahojchgpdnaaGreatDoor
open Go.RowKit Go.Bel Go.Maps
theorem unpackK_cut (kind g cap c : Nat) (hk : kind ≤ 2) (P ys : List Nat) (w : World) (hS : Go.Bel.Src w g 0 ((aroundK kind P ys).take c)) (hg : g < w.heap.size) (hR : ReadsAs P ys) (hP : AllB P) (hc : c < (aroundK kind P ys).length) (hPl : P.length ≤ 8388000) (hO : OrderAt w) (h4 : 4 ≤ w.heap.size) (hy : ys.length ≤ 1048576) :
  Calls Tryz.prog 25 #[.int .i64 (kind : Nat), .slice (some ⟨g, 0, none⟩) c cap, .int .i64 1048576] w
   fun r w' => ∃ v' out, r = .returned (.agg #[.int .i64 3, v', .int .i64 0, .string ⟨#[]⟩]) ∧ out <+: ys ∧ w'.ownsRow w.heap.size 5 1 v' out.length (u8s out) ∧ Step (fun _ => False) w w' := by
 have ha : asked ((1048576 : Nat) : Int) = 1048576 := asked_nat 1048576 (Nat.le_refl _)
 have hB : AllB (aroundK kind P ys) := around_byte kind P ys hP
 have hct : ((aroundK kind P ys).take c).length = c := by simp; omega
 have hBt : AllB ((aroundK kind P ys).take c) := fun y hy => hB y (List.mem_of_mem_take hy)
 have hal := around_len kind P ys
 have h3 : kind = 1 ∨ kind = 2 ∨ kind = 0 := by omega
 rcases h3 with rfl | rfl | rfl
 ·have e : aroundK 1 P ys = aroundZ P ys := rfl
  rw [e] at hS hct hB hBt hc
  obtain ⟨out, hz, hp⟩ := z_cut (most := 1048576) hR hB hy hc
  have := unpackZ g 0 cap 3 ((1048576 : Nat) : Int) _ out 0 w hS hg hO h4 (by rw [ha]; exact hz)
  rw [hct] at this
  refine this.mono ?_
  rintro r w' ⟨v', h1, h2, h3⟩
  exact ⟨v', out, h1, hp, h2, h3⟩
 ·have e : aroundK 2 P ys = aroundG P ys := rfl
  rw [e] at hS hct hB hBt hc hal
  obtain ⟨out, hz, hp⟩ := gz_cut (most := 1048576) hR hB hy hc
  have := unpackGz g 0 cap 3 ((1048576 : Nat) : Int) _ out 0 [] w hS hg hO h4 hBt (by omega) (by rw [ha]; exact hz)
  rw [hct] at this
  refine this.mono ?_
  rintro r w' ⟨v', h1, h2, h3⟩
  exact ⟨v', out, h1, hp, h2, h3⟩
 ·have e : aroundK 0 P ys = P := rfl
  rw [e] at hS hct hB hBt hc
  obtain ⟨n, out, hr, hp⟩ := bare_cut (most := 1048576) hR hP hy hc
  have := unpackG g 0 cap n 3 ((1048576 : Nat) : Int) _ out 0 w hS hg hO h4 (by rw [ha]; exact hr)
  rw [hct] at this
  refine this.mono ?_
  rintro r w' ⟨v', h1, h2, h3⟩
  exact ⟨v', out, h1, hp, h2, h3⟩
end Go.Proofs.YtbpahojchgpdnaaGreatDoor
namespace Go.Proofs.YtbpahojchgpdnaaGreatDoor
open Go.RowKit Go.Bel Go.Maps
theorem any_short {way : Nat} {ys : List Nat} {bits : List Bool} (h : AnyPb way ys bits) (hl : ys.length ≤ 4000) : (bits.length + 7) / 8 ≤ 100000 := by
 rcases h with ⟨_, h⟩ | ⟨_, h⟩ | ⟨_, h⟩
 ·have h1 := stoR_len h
  omega
 ·have h1 := fixPb_length h.1
  omega
 ·obtain ⟨ps, sb, fb, pb, tb, h1, h2, h3, h4, h5, h6, h7, h8, _⟩ := h
  have k1 := stoR_len h2
  omega
theorem ends_true (kd wy ct : Int) (sb sm : ByteArray) (w : World) (h1 : -9223372036854775808 ≤ kd ∧ kd ≤ 9223372036854775807) (h2 : -9223372036854775808 ≤ wy ∧ wy ≤ 9223372036854775807) (h3 : -9223372036854775808 ≤ ct ∧ ct ≤ 9223372036854775807) (hm : sm.size ≤ 1048576) (hO : OrderAt w) (h4 : 4 ≤ w.heap.size) :
    Calls Tryz.prog 8 #[.int .i64 kd, .int .i64 wy, .string sb, .int .i64 ct, .string sm] w fun e w' => e = .returned (.bool true) ∧ Step (fun _ => False) w w' := by
  have HKN := hide (known_ok w hO h4)
  obtain ⟨k, hk, hpk⟩ := pick_ex kd 3 h1.1 h1.2 (by omega) (by omega)
  obtain ⟨v, hv, hpv⟩ := pick_ex wy 3 h2.1 h2.2 (by omega) (by omega)
  have HPK := hide hpk
  have HPV := hide hpv
  have HO := hide hO
  clear hpk hpv hO
  go_enter Tryz.func8, Tryz.ntmps8
  go_wp2_with fail
  refine (unhide HKN).mono ?_
  rintro r w1 ⟨rfl, hs1⟩
  have HS1 := hide hs1
  have hz1 := hs1.size
  clear hs1 HKN
  go_wp2_with fail
  refine (unhide HPK w1).mono ?_
  rintro r wq ⟨rfl, rfl⟩
  by_cases hbig : 4000 < sb.size
  · have hbigz : (sb.size : Int) > 4000 := by omega
    go_wp2_with fail
    go_ret
    exact ⟨rfl, unhide HS1⟩
  · have hbigz : ¬ (sb.size : Int) > 4000 := by omega
    have hconv := conv_str wq sb
    have hcap := grownCap_ge wq sb.size 0 5
    generalize grownCap wq sb.size 0 5 = kc at hconv hcap
    have hbi := str_bytes wq sb kc ((bytesRow sb kc).size, (bytesRow sb kc).size + 1) hcap (by omega)
    have hst5 := str_step wq (.cells (bytesRow sb kc) 5 ((bytesRow sb kc).size, (bytesRow sb kc).size + 1))
    obtain ⟨w5, hw5⟩ : ∃ w5, w5 = wq.drew.alloc (.cells (bytesRow sb kc) 5 ((bytesRow sb kc).size, (bytesRow sb kc).size + 1)) := ⟨_, rfl⟩
    rw [← hw5] at hconv hbi hst5
    clear hw5
    have hz5 := hst5.size
    have hst05 := (unhide HS1).trans hst5
    have HP5 := hide (pack_say k v (by omega) (by omega) _ _ _ (any_said v (bytesOf sb) (by omega) (by rw [bytesOf_length]; omega)) w5 hbi ((unhide HO).step hst05 (fun _ _ x => x)) (by omega))
    have HST5 := hide hst05
    clear hbi hst5 hst05
    have mixed : Tryz.prog.follows .mixedOrders = true := by kernel_rfl
    go_upto_region 6 with (first
          | (go_at_call 19; refine (unhide HPV _).mono ?_; rintro e wq ⟨rfl, rfl⟩)
          | (go_at_call 26; refine (unhide HP5).mono ?_; rintro r w6 ⟨v6, bits6, P6, rfl, hp⟩))
    have hal := any_len hp.pb (by rw [bytesOf_length]; omega)
    have hplen := hp.len
    have hsh := any_short hp.pb (by rw [bytesOf_length]; omega)
    have hR := any_reads hp.pb (fun y hy => bytesOf_lt sb y hy) hp.bin hp.len
    have hPb : AllB P6 := fun y hy => by
      obtain ⟨i, hi, rfl⟩ := List.getElem_of_mem hy
      have := hp.bin.byte i
      rw [List.getElem?_eq_getElem hi] at this
      exact this
    have hQB := around_byte k P6 (bytesOf sb) hPb
    have hQl := around_len k P6 (bytesOf sb)
    obtain ⟨QQ, hQQ⟩ : ∃ QQ, QQ = aroundK k P6 (bytesOf sb) := ⟨_, rfl⟩
    have hrow6 := hp.row
    rw [← hQQ] at hQB hQl hrow6
    obtain ⟨gp, cp, hv6, hS6, hgp, hgb⟩ := src_own hrow6 hQB (by omega) (by omega)
    have hcp : QQ.length ≤ cp := by
      rcases hrow6.2 with ⟨h8, _⟩ | ⟨g, cap, cur, h9, _, _, h8, _⟩
      · rw [hv6] at h8; cases h8
      · rw [hv6] at h9
        simp only [Value.slice.injEq, Option.some.injEq, Addr.mk.injEq, and_true] at h9
        omega
    obtain ⟨L, hL⟩ : ∃ L, L = QQ.length := ⟨_, rfl⟩
    rw [← hL] at hv6 hcp hQl
    subst hv6
    have hst6 := (unhide HST5).trans hp.st
    have hz6 := hst6.size
    obtain ⟨c, hc, hpc⟩ := pick_ex ct L h3.1 h3.2 (by omega) (by omega)
    have hSc : Go.Bel.Src w6 gp 0 (QQ.take c) := ⟨fun i hi => by
      have hi2 : i < c ∧ i < QQ.length := by simp at hi; omega
      rw [hS6.cell i hi2.2, List.getElem?_take, if_pos hi2.1], fun i => by
      rw [List.getElem?_take]
      split
      · exact hS6.byte i
      · decide, by have := hS6.much; simp; omega⟩
    have kt := unpackK_cut k gp cp c (by omega) P6 (bytesOf sb) w6 (by rw [← hQQ]; exact hSc) hgp hR hPb (by rw [← hQQ]; omega) (by omega) ((unhide HO).step hst6 (fun _ _ x => x)) (by omega) (by rw [bytesOf_length]; omega)
    have HPC := hide hpc
    have KT := hide kt
    have HS6 := hide hS6
    have HST6 := hide hst6
    have HQB := hide hQB
    have HRR := hide (And.intro hR hPb)
    have HL := hide hL
    have HQQ := hide hQQ
    have hL0 : ¬ (L : Int) = 0 := by omega
    have hL0b : ((L : Int) == 0) = false := beq_eq_false_iff_ne.2 hL0
    have hLb : L ≤ 200000 := by omega
    have hPl6 : P6.length ≤ 8388000 := by omega
    have hc0 : (0 : Int) ≤ (c : Int) := by omega
    have hc1 : (c : Int) ≤ (cp : Int) := by omega
    clear hp hal hsh hplen hR hPb hQB hQl hQQ hrow6 hL hst6 hpc hSc kt hS6 HP5 HST5 hconv
    have hz0L : (0 : Int) ≤ (L : Int) := by omega
    go_upto_region 10 with (first
      | (go_at_call 19; refine (unhide HPC _).mono ?_; rintro e wz ⟨rfl, hwz⟩; rw [hwz]; clear hwz wz)
      | (go_at_call 25; refine (unhide KT).mono ?_; rintro r w7 ⟨v7, out, rfl, hpre, hown7, hst7⟩; obtain ⟨xa, xc, hv7⟩ := own_slice hown7; subst hv7; have HX7 := hide (And.intro hpre (And.intro hown7 hst7)); clear hpre hown7 hst7))
    obtain ⟨w8, hw8⟩ : ∃ w8, w8 = w7.alloc (.cells #[.int .i64 3, .slice xa out.length xc, .int .i64 0, .string ⟨#[]⟩] 45) := ⟨_, rfl⟩
    rw [← hw8]
    have hst78 : Step (fun _ => False) w7 w8 := by rw [hw8]; exact (Step.refl _ _).alloc _
    have hT8 : w8.heap[w7.heap.size]? = some (.cells #[.int .i64 3, .slice xa out.length xc, .int .i64 0, .string ⟨#[]⟩] 45 (0, 0)) := by rw [hw8]; exact heap_alloc_new _ _
    obtain ⟨hpre, hown7, hst7⟩ := unhide HX7
    have hst68 := hst7.trans hst78
    have hS8 := (unhide HS6).step hst68 (fun x => x)
    have hst8 := (unhide HST6).trans hst68
    have hgp8 : gp < w8.heap.size := by have := hst68.size; omega
    obtain ⟨T, hT⟩ : ∃ T, T = w7.heap.size := ⟨_, rfl⟩
    rw [← hT] at hT8 ⊢
    have hTw : w.heap.size ≤ T := by have := ((unhide HST6).trans hst7).size; omega
    have hT8l := lt_of_block hT8
    have hz8 := hst8.size
    have hlv7 : ∀ k, (Value.slice xa out.length xc).ownBlock = some k → k < T := fun k hk => by rw [hT]; exact (hown7.lt k hk).2
    have hown8 := ownsRow_of_block (w' := w8) hown7 (fun k hk => hst78.block k (hown7.lt k hk).2 (fun x => x))
    have HOWN8 := hide hown8
    have HLV7 := hide hlv7
    have HPRE := hide hpre
    have HST8 := hide hst8
    have HS8 := hide hS8
    have HT8 := hide hT8
    clear hw8 hst78 hown7 hst7 hst68 hS8 hst8 hT8 hown8 hlv7 hpre HX7 KT HPC HS6 HST6 hT
    obtain ⟨i0, hi, hz0, hz1', hz2⟩ := info_parts Tryz.info5
    have hsrc : ∀ j u, (u8s QQ)[j]? = some u → w8.cell? ((⟨gp, 0, none⟩ : Addr).add j) = some u := by
      intro j u hj
      have hjl : j < QQ.length := by have := (List.getElem?_eq_some_iff.1 hj).1; simpa [u8s] using this
      have e : (⟨gp, 0, none⟩ : Addr).add j = ⟨gp, 0 + j, none⟩ := by unfold Addr.add; split <;> simp_all
      rw [u8s_get QQ j hjl] at hj
      simp only [Option.some.injEq] at hj
      rw [e, (unhide HS8).cell j hjl, hj]
    have HSRC := hide hsrc
    clear hsrc
    go_wp2_with (first
      | (at_builtin; refine wpList_append_row _ rfl (.tmp 54) (.tmp 55) 31 rfl w8.heap.size 5 i0 (.int .u8 0) 1 1 Tryz.underlying31 hi hz0 hz1' hz2 rfl (by decide) _ 0 [] rfl (World.ownsRow_nil _ _ _ _) ⟨gp, 0, none⟩ L cp (u8s QQ) rfl ?a1 (unhide HSRC) ?a3 ?a4 ?a5 ?a6 (Nat.le_refl _) ?_))
    case a1 => have := unhide HL; simp [u8s]; omega
    case a3 => intro u hu; simp [u8s] at hu; obtain ⟨x, _, rfl⟩ := hu; rfl
    case a4 => omega
    case a5 => unfold maxLen; omega
    case a6 => omega
    intro g9 c9 w9 hown9 hgr9 hg9
    try simp only [Nat.zero_add, List.nil_append] at hown9
    try rw [Nat.zero_add]
    have hH9 : HdAt w8 w9 (.slice (some ⟨g9, 0, none⟩) L c9) QQ := ⟨by rw [← unhide HL]; exact hown9, (Step.refl _ _).grown hgr9 (fun k hk => by simp [Value.ownBlock] at hk)⟩
    have HH9 := hide hH9
    clear hown9 hgr9 hg9 hH9 HSRC
    go_wp2_with (first
      | (at_builtin; refine Lib.wpList_append_own_string _ rfl (.tmp 57) (.tmp 58) 31 9 rfl w8.heap.size 5 i0 Tryz.underlying31 Tryz.underlying9 hi hz0 hz1' hz2 _ L (u8s QQ) rfl ?b0 sm rfl ?b1 ?b2 ?b3 ?_))
    case b0 => have h9 := (unhide HH9).row; rw [← unhide HL] at h9; exact h9
    case b1 => unfold maxLen; omega
    case b2 => omega
    case b3 => exact (unhide HH9).st.size
    intro va wa howna hgra _
    have hHa := (unhide HH9).grown (N := bytesOf sm) (v' := va) (Step.refl _ _) hgra (by rw [← strCells_u8s, bytesOf_length, ← unhide HL]; exact howna)
    have HHA := hide hHa
    have hza := (unhide HHA).st.size
    have hXl : (aroundK k P6 (bytesOf sb) ++ bytesOf sm).length = L + sm.size := by rw [List.length_append, bytesOf_length, ← unhide HQQ, ← unhide HL]
    have hXB : AllB (aroundK k P6 (bytesOf sb) ++ bytesOf sm) := fun y hy => by
      rcases List.mem_append.1 hy with hy | hy
      · exact unhide HQB y (by rw [unhide HQQ]; exact hy)
      · exact bytesOf_lt sm y hy
    have hrowa := (unhide HHA).row
    rw [unhide HQQ] at hrowa
    obtain ⟨ga, ca, hva, hSa, hga, _⟩ := src_own hrowa hXB (by omega) (by omega)
    rw [hXl] at hva
    subst hva
    have hsta := (unhide HST8).trans (unhide HHA).st
    have ku := unpackK_src k ga ca (by omega) P6 (bytesOf sb) (bytesOf sm) 1048576 wa hSa hga (unhide HRR).1 hXB (by omega) ((unhide HO).step hsta (fun _ _ x => x)) (by omega) (by rw [bytesOf_length]; omega) (Nat.le_refl _)
    rw [hXl, if_pos (show (bytesOf sb).length ≤ 1048576 by rw [bytesOf_length]; omega), if_pos (show (bytesOf sb).length ≤ 1048576 by rw [bytesOf_length]; omega), List.take_of_length_le (show (bytesOf sb).length ≤ 1048576 by rw [bytesOf_length]; omega), ← unhide HQQ, ← unhide HL] at ku
    have KU := hide ku
    have HSTA := hide hsta
    have hTa := (unhide HHA).st.at_ (unhide HT8) (fun x => x)
    have HTA := hide hTa
    have howna2 := ownsRow_of_block (w' := wa) (unhide HOWN8) (fun k hk => (unhide HHA).st.block k (by have := unhide HLV7 k hk; omega) (fun x => x))
    have HOWNA := hide howna2
    clear howna hgra hHa HH9 hXl hXB hrowa hSa hsta ku hTa howna2 HOWN8 HT8 HS8
    go_upto_region 13 with (first
      | (go_at_call 25; refine (unhide KU).mono ?_; rintro r wb ⟨vb, rfl, hownb, hstb⟩; obtain ⟨ya, yc, hvb⟩ := own_slice hownb; subst hvb; have HXB := hide (And.intro hownb hstb); clear hownb hstb))
    obtain ⟨hownb, hstb⟩ := unhide HXB
    obtain ⟨wd, hwd⟩ : ∃ wd, wd = wb.alloc (.cells #[.int .i64 0, .slice ya (bytesOf sb).length yc, .int .i64 (L : Nat), .string ⟨#[]⟩] 45) := ⟨_, rfl⟩
    have hsd : Step (fun _ => False) wb wd := by rw [hwd]; exact (Step.refl _ _).alloc _
    have hTd : wd.heap[wb.heap.size]? = some (.cells #[.int .i64 0, .slice ya (bytesOf sb).length yc, .int .i64 (L : Nat), .string ⟨#[]⟩] 45 (0, 0)) := by rw [hwd]; exact heap_alloc_new _ _
    rw [← hwd]
    obtain ⟨U, hU⟩ : ∃ U, U = wb.heap.size := ⟨_, rfl⟩
    rw [← hU] at hTd ⊢
    have hsad := hstb.trans hsd
    have hTb := hsad.at_ (unhide HTA) (fun x => x)
    have hTbl := lt_of_block hTb
    have hTdl := lt_of_block hTd
    have howb := ownsRow_of_block (w' := wd) hownb (fun k hk => hsd.block k (hownb.lt k hk).2 (fun x => x))
    have how7 := ownsRow_of_block (w' := wd) (unhide HOWNA) (fun k hk => hsad.block k (by have := (unhide HOWNA).lt k hk; omega) (fun x => x))
    have hfin := (unhide HSTA).trans hsad
    have t0 : wd.cell? ⟨T, 0, none⟩ = some (.int .i64 3) := blk_cell hTb 0 _ rfl
    have t1 : wd.cell? ⟨T, 1, none⟩ = some (.slice xa out.length xc) := blk_cell hTb 1 _ rfl
    have t2 : wd.cell? ⟨T, 2, none⟩ = some (.int .i64 0) := blk_cell hTb 2 _ rfl
    have u0 : wd.cell? ⟨U, 0, none⟩ = some (.int .i64 0) := blk_cell hTd 0 _ rfl
    have u1 : wd.cell? ⟨U, 1, none⟩ = some (.slice ya sb.size yc) := by have h9 := blk_cell hTd 1 _ rfl; rw [bytesOf_length] at h9; exact h9
    have u2 : wd.cell? ⟨U, 2, none⟩ = some (.int .i64 (L : Nat)) := blk_cell hTd 2 _ rfl
    have hol : out.length ≤ sb.size := by have := (unhide HPRE).length_le; rw [bytesOf_length] at this; exact this
    have hoe : bytesOf (sb.extract 0 out.length) = out := by
      obtain ⟨r, hr⟩ := unhide HPRE
      rw [bytesOf_first, ← hr, List.take_left]
    have hoi : (out.length : Int) ≤ (sb.size : Int) := by omega
    have ho0 : (0 : Int) ≤ (out.length : Int) := by omega
    have cv1 : ∀ W : World, W.heap = wd.heap → (convert 31 9 (.slice xa out.length xc)).run Tryz.prog W = .ok (.string (sb.extract 0 out.length)) W := fun W hW => owned_string (s := sb.extract 0 out.length) (W := W) (by rw [hoe]; exact how7) (fun _ _ => by rw [hW])
    have cv2 : ∀ W : World, W.heap = wd.heap → (convert 31 9 (.slice ya sb.size yc)).run Tryz.prog W = .ok (.string sb) W := fun W hW => by
      have h9 := owned_string (s := sb) (W := W) howb (fun _ _ => by rw [hW])
      rw [bytesOf_length] at h9
      exact h9
    have cv11 := cv1 wd.drew rfl
    have cv20 := cv2 wd rfl
    have cv21 := cv2 wd.drew rfl
    have cv22 := cv2 wd.drew.drew rfl
    have HFIN := hide hfin
    clear hsad hTb hTd howb how7 hfin hU hwd hsd hownb hstb HXB HTA HOWNA HSTA KU hoe cv1 cv2
    go_big_region_o
    go_wp2_with fail
    go_ret
    exact ⟨rfl, (unhide HFIN).drew⟩
end Go.Proofs.YtbpahojchgpdnaaGreatDoor
