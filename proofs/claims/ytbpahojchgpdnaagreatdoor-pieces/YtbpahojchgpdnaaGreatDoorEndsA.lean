/- Proved here: a part of some bytes is read as the whole is, or bits are missing; so a run over the part is the whole's, or ends where bits are missing with a beginning of what the whole puts out; nothing of the program. -/
import Derived.Test.YtbpahojchgpdnaaGreatDoorFrame
namespace Go.Bel
open Go Go.RowKit Go.Proofs.YtbpahojchgpdnaaGreatDoor
structure Sees (B B' : List Nat) (k : Nat) : Prop where
 whole : k % 8 = 0
 fits : k + 8 * B'.length ≤ 8 * B.length
 get : ∀ i, i < B'.length → B[k / 8 + i]?.getD 0 = B'[i]?.getD 0
theorem Sees.part (H B' Y : List Nat) : Sees (H ++ (B' ++ Y)) B' (8 * H.length) :=
 ⟨by omega, by simp; omega, fun i hi => by rw [show 8 * H.length / 8 + i = H.length + i by omega, List.getElem?_append_right (by omega), Nat.add_sub_cancel_left, List.getElem?_append_left hi]⟩
variable {B B' : List Nat} {k : Nat}
theorem Sees.bit (h : Sees B B' k) {p : Nat} (hp : p < 8 * B'.length) : bitAt B (p + k) = bitAt B' p := by
 have h0 := h.whole
 unfold bitAt
 rw [show (p + k) / 8 = k / 8 + p / 8 by omega, show (p + k) % 8 = p % 8 by omega, h.get _ (by omega)]
theorem Sees.num (h : Sees B B' k) : ∀ {n p : Nat}, p + n ≤ 8 * B'.length → numAt B (p + k) n = numAt B' p n := by
 intro n
 induction n with
 | zero => intro p _; rfl
 | succ n ih =>
  intro p hp
  rw [numAt, numAt, ih (by omega), show p + k + n = p + n + k by omega, h.bit (by omega)]
theorem Sees.key (h : Sees B B' k) : ∀ {n p : Nat}, p + n ≤ 8 * B'.length → keyAt B (p + k) n = keyAt B' p n := by
 intro n
 induction n with
 | zero => intro p _; rfl
 | succ n ih =>
  intro p hp
  rw [keyAt, keyAt, ih (by omega), show p + k + n = p + n + k by omega, h.bit (by omega)]
theorem Sees.fs (h : Sees B B' k) (i : Nat) : ∀ {c p : Nat}, p + 3 * c ≤ 8 * B'.length → fsTo B (p + k) c i = fsTo B' p c i := by
 intro c
 induction c with
 | zero => intro p _; rfl
 | succ c ih =>
  intro p hp
  rw [fsTo, fsTo, ih (by omega), show p + k + 3 * c = p + 3 * c + k by omega, h.num (by omega)]
theorem Sees.firsts (h : Sees B B' k) {c p : Nat} (hp : p + 3 * c ≤ 8 * B'.length) : firstLens B (p + k) c = firstLens B' p c := by
 unfold firstLens
 exact List.map_congr_left fun i _ => h.fs i hp
def R.sh {α : Type} (k : Nat) : R α → R α
 | .ok a q => .ok a (q + k)
 | .no e => .no e
 | .miss => .miss
def GS.sh (k : Nat) (s : GS) : GS := { s with p := s.p + k }
def G.sh (k : Nat) : G → G
 | .go s => .go (s.sh k)
 | .no e out => .no e out
 | .miss => .miss
theorem rSymF_sees (h : Sees B B' k) (D : Dealt) (p : Nat) : ∀ r j, rSymF D B' p r j = .miss ∨ rSymF D B (p + k) r j = (rSymF D B' p r j).sh k := by
 have hf := h.fits
 intro r
 induction r with
 | zero => intro j; exact .inr rfl
 | succ r ih =>
  intro j
  by_cases hj : p + j < 8 * B'.length
  ·rw [rSymF, rSymF, if_pos hj, if_pos (by omega), h.key (by omega)]
   cases D.tab (keyAt B' p (j + 1)) with
   | some s => exact .inr (by simp only [R.sh]; congr 1; omega)
   | none => exact ih (j + 1)
  ·left; rw [rSymF, if_neg hj]
theorem rSym_sees (h : Sees B B' k) (D : Dealt) (p : Nat) : rSym D B' p = .miss ∨ rSym D B (p + k) = (rSym D B' p).sh k := rSymF_sees h D p _ _
theorem rLens_sees (h : Sees B B' k) (q s : Nat) (row : List Nat) : rLens B' q s row = .miss ∨ rLens B (q + k) s row = (rLens B' q s row).sh k := by
 have hf := h.fits
 unfold rLens
 by_cases h1 : s < 16
 ·right; rw [if_pos h1, if_pos h1]; rfl
 ·rw [if_neg h1, if_neg h1]
  have one : ∀ (n x z : Nat), (if q + n ≤ 8 * B'.length then R.ok (x, numAt B' q n + z) (q + n) else .miss) = .miss ∨ (if q + k + n ≤ 8 * B.length then R.ok (x, numAt B (q + k) n + z) (q + k + n) else .miss) = (if q + n ≤ 8 * B'.length then R.ok (x, numAt B' q n + z) (q + n) else .miss).sh k := by
   intro n x z
   by_cases h2 : q + n ≤ 8 * B'.length
   ·right
    rw [if_pos h2, if_pos (by omega), h.num h2]
    simp only [R.sh]
    congr 1; omega
   ·left; rw [if_neg h2]
  by_cases h3 : s = 16
  ·rw [if_pos h3, if_pos h3]; exact one 2 _ _
  ·rw [if_neg h3, if_neg h3]
   by_cases h4 : s = 17
   ·rw [if_pos h4, if_pos h4]; exact one 3 _ _
   ·rw [if_neg h4, if_neg h4]; exact one 7 _ _
theorem rRowF_sees (h : Sees B B' k) (D : Dealt) (n : Nat) : ∀ m p row, rRowF D B' n m p row = .miss ∨ rRowF D B n m (p + k) row = (rRowF D B' n m p row).sh k := by
 intro m
 induction m with
 | zero => intro p row; exact .inr rfl
 | succ m ih =>
  intro p row
  rw [rRowF, rRowF]
  by_cases h1 : n ≤ row.length
  ·right; rw [if_pos h1, if_pos h1]; rfl
  ·rw [if_neg h1, if_neg h1]
   rcases rSym_sees h D p with h2 | h2
   ·left; rw [h2]
   ·rw [h2]
    cases rSym D B' p with
    | no e => exact .inr rfl
    | miss => exact .inl rfl
    | ok s q =>
     simp only [R.sh]
     by_cases h3 : s = 16 ∧ row.length = 0
     ·right; rw [if_pos h3, if_pos h3]
     ·rw [if_neg h3, if_neg h3]
      rcases rLens_sees h q s row with h4 | h4
      ·left; rw [h4]
      ·rw [h4]
       cases rLens B' q s row with
       | no e => exact .inr rfl
       | miss => exact .inl rfl
       | ok lt q' =>
        simp only [R.sh]
        by_cases h5 : n < row.length + lt.2
        ·right; rw [if_pos h5, if_pos h5]
        ·rw [if_neg h5, if_neg h5]
         exact ih q' _
theorem rCoding_sees (h : Sees B B' k) (p : Nat) : rCoding B' p = .miss ∨ rCoding B (p + k) = (rCoding B' p).sh k := by
 have hf := h.fits
 unfold rCoding
 by_cases h1 : p + 14 ≤ 8 * B'.length
 ·rw [if_pos h1, if_pos (show p + k + 14 ≤ 8 * B.length by omega)]
  have e1 : numAt B (p + k) 5 = numAt B' p 5 := h.num (by omega)
  have e2 : numAt B (p + k + 5) 5 = numAt B' (p + 5) 5 := by rw [show p + k + 5 = p + 5 + k by omega]; exact h.num (by omega)
  have e3 : numAt B (p + k + 10) 4 = numAt B' (p + 10) 4 := by rw [show p + k + 10 = p + 10 + k by omega]; exact h.num (by omega)
  dsimp only
  rw [e1, e2, e3]
  by_cases h2 : 286 < numAt B' p 5 + 257 ∨ 30 < numAt B' (p + 5) 5 + 1
  ·right; rw [if_pos h2, if_pos h2]; rfl
  ·rw [if_neg h2, if_neg h2]
   by_cases h3 : p + 14 + 3 * (numAt B' (p + 10) 4 + 4) ≤ 8 * B'.length
   ·rw [if_pos h3, if_pos (show p + k + 14 + 3 * (numAt B' (p + 10) 4 + 4) ≤ 8 * B.length by omega), show p + k + 14 = p + 14 + k by omega, h.firsts h3]
    by_cases h4 : mayB (firstLens B' (p + 14) (numAt B' (p + 10) 4 + 4)) = true
    ·rw [if_pos h4, if_pos h4, show p + 14 + k + 3 * (numAt B' (p + 10) 4 + 4) = p + 14 + 3 * (numAt B' (p + 10) 4 + 4) + k by omega]
     unfold rRow
     rcases rRowF_sees h (dealAll (firstLens B' (p + 14) (numAt B' (p + 10) 4 + 4))) (numAt B' p 5 + 257 + (numAt B' (p + 5) 5 + 1)) (numAt B' p 5 + 257 + (numAt B' (p + 5) 5 + 1)) (p + 14 + 3 * (numAt B' (p + 10) 4 + 4)) [] with h5 | h5
     ·left; rw [h5]
     ·rw [h5]
      cases rRowF (dealAll (firstLens B' (p + 14) (numAt B' (p + 10) 4 + 4))) B' (numAt B' p 5 + 257 + (numAt B' (p + 5) 5 + 1)) (numAt B' p 5 + 257 + (numAt B' (p + 5) 5 + 1)) (p + 14 + 3 * (numAt B' (p + 10) 4 + 4)) [] with
      | no e => exact .inr rfl
      | miss => exact .inl rfl
      | ok row q =>
       right
       simp only [R.sh]
       unfold rDealt
       split <;> rfl
    ·right; rw [if_neg h4, if_neg h4]; rfl
   ·left; rw [if_neg h3]
 ·left; rw [if_neg h1]
theorem rLength_sees (h : Sees B B' k) (q c : Nat) : rLength B' q c = .miss ∨ rLength B (q + k) c = (rLength B' q c).sh k := by
 have hf := h.fits
 unfold rLength
 by_cases h1 : 285 < c
 ·right; rw [if_pos h1, if_pos h1]; rfl
 ·rw [if_neg h1, if_neg h1]
  by_cases h2 : c = 285
  ·right; rw [if_pos h2, if_pos h2]; rfl
  ·rw [if_neg h2, if_neg h2]
   by_cases h3 : c < 265
   ·right; rw [if_pos h3, if_pos h3]; rfl
   ·rw [if_neg h3, if_neg h3]
    by_cases h4 : q + (c - 261) / 4 ≤ 8 * B'.length
    ·right
     rw [if_pos h4, if_pos (by omega), h.num h4]
     simp only [R.sh]
     congr 1; omega
    ·left; rw [if_neg h4]
theorem rDist_sees (h : Sees B B' k) (D : Dealt) (q : Nat) : rDist D B' q = .miss ∨ rDist D B (q + k) = (rDist D B' q).sh k := by
 have hf := h.fits
 unfold rDist
 rcases rSym_sees h D q with h2 | h2
 ·left; rw [h2]
 ·rw [h2]
  cases rSym D B' q with
  | no e => exact .inr rfl
  | miss => exact .inl rfl
  | ok s q' =>
   simp only [R.sh]
   by_cases h3 : 30 ≤ s
   ·right; rw [if_pos h3, if_pos h3]
   ·rw [if_neg h3, if_neg h3]
    by_cases h4 : s < 4
    ·right; rw [if_pos h4, if_pos h4]
    ·rw [if_neg h4, if_neg h4]
     by_cases h5 : q' + (s / 2 - 1) ≤ 8 * B'.length
     ·right
      rw [if_pos h5, if_pos (by omega), h.num h5]
      simp only
      congr 1; omega
     ·left; rw [if_neg h5]
theorem gPut_sh (s : GS) (xs : List Nat) (p : Nat) : gPut (s.sh k) xs (p + k) = (gPut s xs p).sh k := by
 unfold gPut
 by_cases h : s.out.length + xs.length ≤ s.most
 ·rw [if_pos h, if_pos (by exact h)]; rfl
 ·rw [if_neg h, if_neg (by exact h)]; rfl
theorem ended_sh (h8 : k % 8 = 0) (s : GS) (p : Nat) : (s.sh k).ended (p + k) = (s.ended p).sh k := by
 unfold GS.ended GS.sh
 simp only
 cases s.last
 ·rfl
 ·simp only [if_true]
  congr 1
  omega
theorem gCopy_sees (h : Sees B B' k) (s : GS) (c q : Nat) : gCopy B' s c q = .miss ∨ gCopy B (s.sh k) c (q + k) = (gCopy B' s c q).sh k := by
 unfold gCopy
 rcases rLength_sees h q c with h1 | h1
 ·left; rw [h1]
 ·rw [h1]
  cases rLength B' q c with
  | no e => exact .inr rfl
  | miss => exact .inl rfl
  | ok n q1 =>
   simp only [R.sh]
   rcases rDist_sees h (dealAll s.ld) q1 with h2 | h2
   ·left; rw [h2]
   ·rw [show (s.sh k).ld = s.ld from rfl, h2]
    cases rDist (dealAll s.ld) B' q1 with
    | no e => exact .inr rfl
    | miss => exact .inl rfl
    | ok dist q2 =>
     simp only [R.sh]
     rw [show (s.sh k).out = s.out from rfl]
     by_cases h3 : s.out.length < dist
     ·right; rw [if_pos h3, if_pos h3]; rfl
     ·right; rw [if_neg h3, if_neg h3]; exact gPut_sh s _ _
theorem gSym_sees (h : Sees B B' k) (s : GS) : gSym B' s = .miss ∨ gSym B (s.sh k) = (gSym B' s).sh k := by
 unfold gSym
 rw [show (s.sh k).ls = s.ls from rfl, show (s.sh k).p = s.p + k from rfl]
 rcases rSym_sees h (dealAll s.ls) s.p with h1 | h1
 ·left; rw [h1]
 ·rw [h1]
  cases rSym (dealAll s.ls) B' s.p with
  | no e => exact .inr rfl
  | miss => exact .inl rfl
  | ok c q =>
   simp only [R.sh]
   by_cases h2 : c < 256
   ·right; rw [if_pos h2, if_pos h2]; exact gPut_sh s _ _
   ·rw [if_neg h2, if_neg h2]
    by_cases h3 : c = 256
    ·right; rw [if_pos h3, if_pos h3, ended_sh h.whole]; rfl
    ·rw [if_neg h3, if_neg h3]; exact gCopy_sees h s c q
theorem gByte_sees (h : Sees B B' k) (s : GS) : gByte B' s = .miss ∨ gByte B (s.sh k) = (gByte B' s).sh k := by
 have hf := h.fits
 unfold gByte
 rw [show (s.sh k).left = s.left from rfl, show (s.sh k).p = s.p + k from rfl]
 by_cases h1 : s.left = 0
 ·right; rw [if_pos h1, if_pos h1, ended_sh h.whole]; rfl
 ·rw [if_neg h1, if_neg h1]
  by_cases h2 : s.p + 8 ≤ 8 * B'.length
  ·right
   rw [if_pos h2, if_pos (by omega), h.num h2, show s.p + k + 8 = s.p + 8 + k by omega]
   exact gPut_sh { s with left := s.left - 1 } _ _
  ·left; rw [if_neg h2]
theorem gHead_sees (h : Sees B B' k) (s : GS) : gHead B' s = .miss ∨ gHead B (s.sh k) = (gHead B' s).sh k := by
 have hf := h.fits
 have h8 := h.whole
 unfold gHead
 rw [show (s.sh k).p = s.p + k from rfl, show (s.sh k).out = s.out from rfl]
 by_cases h1 : s.p + 3 ≤ 8 * B'.length
 ·rw [if_pos h1, if_pos (show s.p + k + 3 ≤ 8 * B.length by omega)]
  have e1 : numAt B (s.p + k + 1) 2 = numAt B' (s.p + 1) 2 := by rw [show s.p + k + 1 = s.p + 1 + k by omega]; exact h.num (by omega)
  have e2 : bitAt B (s.p + k) = bitAt B' s.p := h.bit (by omega)
  rw [e1, e2]
  by_cases h2 : numAt B' (s.p + 1) 2 = 0
  ·rw [if_pos h2, if_pos h2, show (s.p + k + 3 + 7) / 8 * 8 = (s.p + 3 + 7) / 8 * 8 + k by omega]
   by_cases h3 : (s.p + 3 + 7) / 8 * 8 + 32 ≤ 8 * B'.length
   ·right
    rw [if_pos h3, if_pos (show (s.p + 3 + 7) / 8 * 8 + k + 32 ≤ 8 * B.length by omega), show (s.p + 3 + 7) / 8 * 8 + k + 16 = (s.p + 3 + 7) / 8 * 8 + 16 + k by omega, h.num (by omega), h.num (by omega)]
    by_cases h4 : numAt B' ((s.p + 3 + 7) / 8 * 8 + 16) 16 = 65535 - numAt B' ((s.p + 3 + 7) / 8 * 8) 16
    ·rw [if_pos h4, if_pos h4, show (s.p + 3 + 7) / 8 * 8 + k + 32 = (s.p + 3 + 7) / 8 * 8 + 32 + k by omega]; rfl
    ·rw [if_neg h4, if_neg h4]; rfl
   ·left; rw [if_neg h3]
  ·rw [if_neg h2, if_neg h2]
   by_cases h3 : numAt B' (s.p + 1) 2 = 1
   ·right; rw [if_pos h3, if_pos h3, show s.p + k + 3 = s.p + 3 + k by omega]; rfl
   ·rw [if_neg h3, if_neg h3]
    by_cases h4 : numAt B' (s.p + 1) 2 = 2
    ·rw [if_pos h4, if_pos h4, show s.p + k + 3 = s.p + 3 + k by omega]
     rcases rCoding_sees h (s.p + 3) with h5 | h5
     ·left; rw [h5]
     ·rw [h5]
      cases rCoding B' (s.p + 3) with
      | no e => exact .inr rfl
      | miss => exact .inl rfl
      | ok ab q => exact .inr rfl
    ·right; rw [if_neg h4, if_neg h4]; rfl
 ·left; rw [if_neg h1]
theorem gStep_sees (h : Sees B B' k) (s : GS) : gStep B' s = .miss ∨ gStep B (s.sh k) = (gStep B' s).sh k := by
 unfold gStep
 rw [show (s.sh k).place = s.place from rfl]
 by_cases h1 : s.place = 1
 ·rw [if_pos h1, if_pos h1]; exact gByte_sees h s
 ·rw [if_neg h1, if_neg h1]
  by_cases h2 : s.place = 2
  ·rw [if_pos h2, if_pos h2]; exact gSym_sees h s
  ·rw [if_neg h2, if_neg h2]; exact gHead_sees h s
theorem gPut_out {s : GS} {xs : List Nat} {p : Nat} : (∀ s1, gPut s xs p = .go s1 → s.out <+: s1.out) ∧ (∀ e out, gPut s xs p = .no e out → s.out <+: out) := by
 unfold gPut
 by_cases h : s.out.length + xs.length ≤ s.most
 ·rw [if_pos h]
  exact ⟨fun s1 e => by injection e with e; subst e; exact List.prefix_append _ _, fun e out x => by simp at x⟩
 ·rw [if_neg h]
  exact ⟨fun s1 e => by simp at e, fun e out x => by injection x with x1 x2; subst x2; exact List.prefix_append _ _⟩
theorem gStep_out (B : List Nat) (s : GS) : (∀ s1, gStep B s = .go s1 → s.out <+: s1.out) ∧ (∀ e out, gStep B s = .no e out → s.out <+: out) := by
 have same : ∀ x : G, (x = .miss ∨ (∃ e, x = .no e s.out) ∨ ∃ s1, x = .go s1 ∧ s1.out = s.out) → (∀ s1, x = .go s1 → s.out <+: s1.out) ∧ (∀ e out, x = .no e out → s.out <+: out) := by
  rintro x (rfl | ⟨e, rfl⟩ | ⟨s1, rfl, h⟩)
  ·exact ⟨fun s1 e => by simp at e, fun e out x => by simp at x⟩
  ·exact ⟨fun s1 e => by simp at e, fun e out x => by injection x with x1 x2; subst x2; exact List.prefix_refl _⟩
  ·exact ⟨fun s2 e => by injection e with e; subst e; rw [h]; exact List.prefix_refl _, fun e out x => by simp at x⟩
 unfold gStep
 split
 ·unfold gByte
  split
  ·exact same _ (.inr (.inr ⟨_, rfl, rfl⟩))
  ·split
   ·exact gPut_out (s := { s with left := s.left - 1 })
   ·exact same _ (.inl rfl)
 ·split
  ·unfold gSym
   split
   ·exact same _ (.inr (.inl ⟨_, rfl⟩))
   ·exact same _ (.inl rfl)
   ·split
    ·exact gPut_out
    ·split
     ·exact same _ (.inr (.inr ⟨_, rfl, rfl⟩))
     ·unfold gCopy
      split
      ·exact same _ (.inr (.inl ⟨_, rfl⟩))
      ·exact same _ (.inl rfl)
      ·split
       ·exact same _ (.inr (.inl ⟨_, rfl⟩))
       ·exact same _ (.inl rfl)
       ·split
        ·exact same _ (.inr (.inl ⟨_, rfl⟩))
        ·exact gPut_out
  ·unfold gHead
   split
   ·split
    ·split
     ·split
      ·exact same _ (.inr (.inr ⟨_, rfl, rfl⟩))
      ·exact same _ (.inr (.inl ⟨_, rfl⟩))
     ·exact same _ (.inl rfl)
    ·split
     ·exact same _ (.inr (.inr ⟨_, rfl, rfl⟩))
     ·split
      ·split
       ·exact same _ (.inr (.inr ⟨_, rfl, rfl⟩))
       ·exact same _ (.inr (.inl ⟨_, rfl⟩))
       ·exact same _ (.inl rfl)
      ·exact same _ (.inr (.inl ⟨_, rfl⟩))
   ·exact same _ (.inl rfl)
theorem GRun.begins {B : List Nat} {n e : Nat} {s : GS} {out : List Nat} {q : Nat} (h : GRun B n s e out q) : s.out <+: out := by
 induction h with
 | done s h => exact List.prefix_refl _
 | no s e out h3 h => exact (gStep_out B s).2 _ _ h
 | miss s h3 h => exact List.prefix_refl _
 | go n s s1 e out q h3 h k ih => exact ((gStep_out B s).1 _ h).trans ih
end Go.Bel
