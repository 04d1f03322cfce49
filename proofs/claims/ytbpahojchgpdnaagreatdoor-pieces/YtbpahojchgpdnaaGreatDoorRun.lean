/- Proved here: steps of the decoder that are known to go well are steps of the plain functions; nothing of the program. -/
import Derived.Test.YtbpahojchgpdnaaGreatDoorGSym
namespace Go.Proofs.YtbpahojchgpdnaaGreatDoor
open Go.RowKit Go.Bel Go.Maps
inductive PRun (B : List Nat) : Nat → PS → Nat → PS → Prop
 | done (s : PS) (h : s.place = 3) : PRun B 0 s 0 s
 | much (s s' : PS) (h : PMuch B s s') (h3 : s.place ≠ 3) : PRun B 1 s 11 s'
 | step (n : Nat) (s s1 s' : PS) (e : Nat) (h : PStep B s s1) (h3 : s.place ≠ 3) (k : PRun B n s1 e s') : PRun B (n + 1) s e s'
theorem rSymF_of {D : Dealt} {B : List Nat} {p q c : Nat} (h : CodeAt D.longest D.tab B p q c) : ∀ r j, j < q - p → D.longest = r + j → rSymF D B p r j = .ok c q := by
 intro r
 induction r with
 | zero => intro j hj hr; have := h.le; omega
 | succ r ih =>
  intro j hj hr
  have h1 := h.lt
  have h2 := h.there
  rw [rSymF, if_pos (by omega)]
  by_cases he : j + 1 = q - p
  ·rw [he, h.is]
   dsimp only
   rw [show p + (q - p) = q by omega]
  ·rw [h.no (j + 1) (by omega) (by omega)]
   exact ih (j + 1) (by omega) (by omega)
theorem rSym_of {D : Dealt} {B : List Nat} {p q c : Nat} (h : CodeAt D.longest D.tab B p q c) : rSym D B p = .ok c q :=
 rSymF_of h D.longest 0 (by have := h.lt; omega) (by omega)
theorem rRowF_of {D : Dealt} {B : List Nat} {pos : Nat → Nat} {L : List Nat} {n : Nat} (hl : L.length = n) (h16 : ∀ i : Nat, L[i]?.getD 0 < 16) (hC : ∀ i, i < n → CodeAt D.longest D.tab B (pos i) (pos (i + 1)) (L[i]?.getD 0)) :
  ∀ k i, i + k = n → rRowF D B n k (pos i) (L.take i) = .ok L (pos n) := by
 intro k
 induction k with
 | zero =>
  intro i hi
  have : i = n := by omega
  subst this
  rw [rRowF, ← hl, List.take_length]
 | succ k ih =>
  intro i hi
  have hlen : (L.take i).length = i := by rw [List.length_take]; omega
  rw [rRowF, if_neg (by omega), rSym_of (hC i (by omega))]
  dsimp only
  have h1 := h16 i
  rw [if_neg (fun hx => by omega)]
  unfold rLens
  rw [if_pos h1]
  dsimp only
  rw [if_neg (by omega)]
  have e : L.take i ++ List.replicate 1 (L[i]?.getD 0) = L.take (i + 1) := by
   have hi2 : i < L.length := by omega
   rw [List.take_succ_eq_append_getElem hi2, List.getElem?_eq_getElem hi2]
   rfl
  rw [e]
  exact ih (i + 1) (by omega)
theorem rCoding_of {B : List Nat} {p : Nat} {pos : Nat → Nat} {L : List Nat} (h : ToldAt B p pos L) : rCoding B p = .ok (L.take 257, L.drop 257) (pos 258) := by
 have h1 := h.there
 unfold rCoding
 rw [if_pos (by omega)]
 dsimp only
 rw [h.n1, h.n2, h.n3, if_neg (by omega), if_pos (by omega), if_pos h.may1]
 have hr := rRowF_of (D := dealAll (firstLens B (p + 14) 19)) (B := B) (pos := pos) (L := L) (n := 258) h.len h.lt h.code 258 0 (by omega)
 rw [h.pos0, List.take_zero] at hr
 have e : rRow (dealAll (firstLens B (p + 14) (15 + 4))) B (0 + 257 + (0 + 1)) (p + 14 + 3 * (15 + 4)) = .ok L (pos 258) := hr
 rw [e]
 dsimp only
 unfold rDealt
 have h256 := h.end_
 rw [List.getElem?_take_of_lt (by omega)] at h256
 have hf : farB (L.drop (0 + 257)) = true := by
  unfold farB
  rw [show L.drop (0 + 257) = L.drop 257 from rfl, h.none_]
  rfl
 rw [if_pos ⟨h256, h.may, hf⟩]
structure Link (s : PS) (t : GS) : Prop where
 out : t.out = s.out
 most : t.most = s.most
 place : t.place = s.place
 last : t.last = s.last
 left : t.left = s.left
 p : t.p = s.p
 tab : s.place = 2 → s.tab = (dealAll t.ls).tab ∧ s.longest = (dealAll t.ls).longest
theorem Link.ended {s : PS} {t : GS} (h : Link s t) (q : Nat) : Link (s.ended q) (t.ended q) := by
 refine ⟨h.out, h.most, ?_, h.last, h.left, ?_, fun hx => ?_⟩
 ·unfold GS.ended PS.ended; dsimp only; rw [h.last]
 ·unfold GS.ended PS.ended; dsimp only; rw [h.last]
 ·exfalso
  unfold PS.ended at hx
  dsimp only at hx
  split at hx <;> omega
theorem link_step {B : List Nat} {s s1 : PS} {t : GS} (h : PStep B s s1) (hl : Link s t) : ∃ t1, gStep B t = .go t1 ∧ Link s1 t1 := by
 have hp := hl.p
 have hpl := hl.place
 cases h with
 | stored q n last h0 hh hq hqp hn hm hn2 =>
  refine ⟨{ t with last := last, left := n, place := 1, p := q + 32 }, ?_, hl.out, hl.most, rfl, rfl, rfl, rfl, fun hx => by simp at hx⟩
  unfold gStep
  rw [if_neg (by omega), if_neg (by omega)]
  unfold gHead
  rw [hp, if_pos hh.there, if_pos hh.kind_, ← hq, if_pos hqp, hn, if_pos hm]
  have : (bitAt B s.p == 1) = last := by rw [hh.last_]; cases last <;> rfl
  rw [this]
 | told last pos L h0 hh ht =>
  refine ⟨{ t with last := last, place := 2, ls := L.take 257, ld := L.drop 257, p := pos 258 }, ?_, hl.out, hl.most, rfl, rfl, hl.left, rfl, fun _ => ⟨rfl, rfl⟩⟩
  unfold gStep
  rw [if_neg (by omega), if_neg (by omega)]
  unfold gHead
  rw [hp, if_pos hh.there, if_neg (by rw [hh.kind_]; omega), if_neg (by rw [hh.kind_]; omega), if_pos hh.kind_, rCoding_of ht]
  have : (bitAt B s.p == 1) = last := by rw [hh.last_]; cases last <;> rfl
  rw [this]
 | fixed last h0 hh =>
  have e : fixLensG = fixLens := rfl
  refine ⟨{ t with last := last, place := 2, ls := fixLensG, ld := fixDist, p := s.p + 3 }, ?_, hl.out, hl.most, rfl, rfl, hl.left, rfl, fun _ => ⟨by dsimp only; rw [e], by dsimp only; rw [e]⟩⟩
  unfold gStep
  rw [if_neg (by omega), if_neg (by omega)]
  unfold gHead
  rw [hp, if_pos hh.there, if_neg (by rw [hh.kind_]; omega), if_pos hh.kind_]
  have : (bitAt B s.p == 1) = last := by rw [hh.last_]; cases last <;> rfl
  rw [this]
 | byte h0 hl1 hl2 hp8 hr =>
  refine ⟨{ t with left := t.left - 1, out := t.out ++ [numAt B s.p 8], p := s.p + 8 }, ?_, by rw [hl.out], hl.most, hl.place, hl.last, by rw [hl.left], rfl, fun hx => by simp only at hx; omega⟩
  unfold gStep
  rw [if_pos (by omega)]
  unfold gByte
  rw [if_neg (by rw [hl.left]; omega), hp, if_pos hp8]
  unfold gPut
  dsimp only
  rw [if_pos (by rw [hl.out, hl.most, List.length_singleton]; omega)]
 | bytes h0 hl1 hp8 =>
  refine ⟨t.ended t.p, ?_, by rw [hp]; exact hl.ended s.p⟩
  unfold gStep
  rw [if_pos (by omega)]
  unfold gByte
  rw [if_pos (by rw [hl.left]; exact hl1)]
 | sym q c h0 hc h256 hr =>
  have ht := hl.tab h0
  rw [ht.1, ht.2] at hc
  refine ⟨{ t with out := t.out ++ [c], p := q }, ?_, by rw [hl.out], hl.most, hl.place, hl.last, hl.left, rfl, hl.tab⟩
  unfold gStep
  rw [if_neg (by omega), if_pos (by omega)]
  unfold gSym
  rw [hp, rSym_of hc]
  dsimp only
  rw [if_pos h256]
  unfold gPut
  rw [if_pos (by rw [hl.out, hl.most, List.length_singleton]; omega)]
 | syms q h0 hc =>
  have ht := hl.tab h0
  rw [ht.1, ht.2] at hc
  refine ⟨t.ended q, ?_, hl.ended q⟩
  unfold gStep
  rw [if_neg (by omega), if_pos (by omega)]
  unfold gSym
  rw [hp, rSym_of hc]
  dsimp only
  rw [if_neg (by omega), if_pos rfl]
theorem link_much {B : List Nat} {s s1 : PS} {t : GS} (h : PMuch B s s1) (hl : Link s t) : gStep B t = .no 11 s1.out := by
 have hp := hl.p
 have hpl := hl.place
 cases h with
 | byte h0 hl1 hl2 hp8 hr =>
  unfold gStep
  rw [if_pos (by omega)]
  unfold gByte
  rw [if_neg (by rw [hl.left]; omega), hp, if_pos hp8]
  unfold gPut
  dsimp only
  rw [if_neg (by rw [hl.out, hl.most, List.length_singleton]; omega), hl.out, hl.most, hr, Nat.sub_self, List.take_zero, List.append_nil]
 | sym q c h0 hc h256 hr =>
  have ht := hl.tab h0
  rw [ht.1, ht.2] at hc
  unfold gStep
  rw [if_neg (by omega), if_pos (by omega)]
  unfold gSym
  rw [hp, rSym_of hc]
  dsimp only
  rw [if_pos h256]
  unfold gPut
  rw [if_neg (by rw [hl.out, hl.most, List.length_singleton]; omega), hl.out, hl.most, hr, Nat.sub_self, List.take_zero, List.append_nil]
theorem PRun.grun {B : List Nat} {n e : Nat} {s s' : PS} (h : PRun B n s e s') : ∀ t, Link s t → ∃ q, GRun B n t e s'.out q ∧ (e = 0 → q = s'.p) := by
 induction h with
 | done s h =>
  intro t hl
  refine ⟨t.p, ?_, fun _ => hl.p⟩
  rw [← hl.out]
  exact .done t (by rw [hl.place]; exact h)
 | much s s' h h3 =>
  intro t hl
  exact ⟨0, .no t 11 s'.out (by rw [hl.place]; exact h3) (link_much h hl), fun hx => by omega⟩
 | step n s s1 s' e h h3 k ih =>
  intro t hl
  obtain ⟨t1, ht, hl1⟩ := link_step h hl
  obtain ⟨q, hr, hq⟩ := ih t1 hl1
  exact ⟨q, .go n t t1 e s'.out q (by rw [hl.place]; exact h3) ht hr, hq⟩
end Go.Proofs.YtbpahojchgpdnaaGreatDoor
