/- Proved here: from the bits that the writer writes, the decoder's steps read the bytes again: symbols one after the other, stored bytes, whole blocks. -/
import Derived.Test.YtbpahojchgpdnaaGreatDoorRun
namespace Go.Proofs.YtbpahojchgpdnaaGreatDoor
open Go.RowKit Go.Bel Go.Maps
theorem codeTo_prefix {bs : List Bool} {p x n j : Nat} (h : BitsFrom bs p (codeBits x n)) (hj : j ≤ n) : BitsFrom bs p (codeTo x n j) := fun i hi => by
 rw [codeTo_length] at hi
 have := h i (by rw [codeBits_length]; omega)
 rw [this]
 simp [codeBits, codeTo, hi, show i < n by omega]
theorem code_at {L : List Nat} {bs : List Bool} {B : List Nat} {s x n p : Nat} (hB : BitsIn bs B) (hL : ∀ i : Nat, L[i]?.getD 0 ≤ 15) (hs : s < L.length) (hn : L[s]?.getD 0 = n) (h1 : 1 ≤ n) (hk : Bel.keyOf L s = 2 ^ n + x) (hx : x < 2 ^ n) (hm : mayB L = true) (hb : BitsFrom bs p (codeBits x n)) (hp : p + n ≤ 8 * B.length) :
  CodeAt (dealAll L).longest (dealAll L).tab B p (p + n) s := by
 have hl := hL s
 have e : p + n - p = n := by omega
 refine ⟨by omega, ?_, hp, ?_, ?_⟩
 ·rw [e, ← hn]; exact longest_ge L 15 s hs (by omega) hl
 ·rw [e, key_from hB p x n n hx (Nat.le_refl _) hb, Nat.sub_self, Nat.pow_zero, Nat.div_one, ← hk]
  exact found L s hs (by omega) hl
 ·intro j hj1 hj2
  rw [e] at hj2
  rw [key_from hB p x n j hx (by omega) (codeTo_prefix hb (by omega)), ← hk, ← hn]
  exact prefix_none L (room L hL hm) s j hs (by omega) hl hj1 (by omega)
def Runs (B : List Nat) (s : PS) (e : Nat) (s' : PS) : Prop := ∃ n, PRun B n s e s'
theorem Runs.step {B : List Nat} {s s1 s' : PS} {e : Nat} (h : PStep B s s1) (h3 : s.place ≠ 3) (k : Runs B s1 e s') : Runs B s e s' := by
 obtain ⟨n, hn⟩ := k
 exact ⟨n + 1, .step n s s1 s' e h h3 hn⟩
theorem Runs.much {B : List Nat} {s s' : PS} (h : PMuch B s s') (h3 : s.place ≠ 3) : Runs B s 11 s' := ⟨1, .much s s' h h3⟩
def SymOk (bs : List Bool) (B : List Nat) (longest : Nat) (M : Tab) (sym : Nat → List Bool) (c : Nat) : Prop :=
 ∀ p, BitsFrom bs p (sym c) → p + (sym c).length ≤ 8 * B.length → CodeAt longest M B p (p + (sym c).length) c
theorem from_le {bs : List Bool} {B : List Nat} {p : Nat} {l : List Bool} (h : BitsFrom bs p l) (hl : l ≠ []) (hb : bs.length ≤ 8 * B.length) : p + l.length ≤ 8 * B.length := by
 have h0 : 0 < l.length := by cases l <;> simp_all
 have := h (l.length - 1) (by omega)
 rw [List.getElem?_eq_getElem (show l.length - 1 < l.length by omega)] at this
 have h2 := (List.getElem?_eq_some_iff.1 this).1
 omega
theorem syms_run {bs : List Bool} {B : List Nat} {longest : Nat} {M : Tab} {sym : Nat → List Bool} (hb : bs.length ≤ 8 * B.length) (l : List Nat) :
  ∀ (p : Nat) (s : PS), (∀ c ∈ l, c < 256 ∧ SymOk bs B longest M sym c ∧ sym c ≠ []) → s.place = 2 → s.tab = M → s.longest = longest → s.p = p → BitsFrom bs p (l.flatMap sym) → s.out.length + l.length ≤ s.most →
   ∀ e s', Runs B { s with out := s.out ++ l, p := p + (l.flatMap sym).length } e s' → Runs B s e s' := by
 induction l with
 | nil =>
  intro p s _ _ _ _ hp _ _ e s' h
  have : ({ s with out := s.out ++ [], p := p + (List.flatMap sym []).length } : PS) = s := by cases s; simp_all
  rw [this] at h
  exact h
 | cons c l ih =>
  intro p s hc hpl ht hl hp hf hm e s' h
  have hcc := hc c (by simp)
  rw [List.flatMap_cons] at hf
  have hle := from_le hf.left hcc.2.2 hb
  have hcode := hcc.2.1 p hf.left hle
  rw [← ht, ← hl, ← hp] at hcode
  refine Runs.step (.sym s (s.p + (sym c).length) c hpl hcode hcc.1 (by simp at hm; omega)) (by omega) ?_
  refine ih (s.p + (sym c).length) { s with out := s.out ++ [c], p := s.p + (sym c).length } (fun x hx => hc x (by simp [hx])) hpl ht hl rfl (by rw [hp]; exact hf.right) (by simp at hm ⊢; omega) e s' ?_
  have e1 : (s.out ++ [c]) ++ l = s.out ++ c :: l := by simp
  have e2 : s.p + (sym c).length + (l.flatMap sym).length = p + ((c :: l).flatMap sym).length := by rw [List.flatMap_cons, List.length_append, hp]; omega
  show Runs B { s with out := (s.out ++ [c]) ++ l, p := s.p + (sym c).length + (l.flatMap sym).length } e s'
  rw [e1, e2]
  exact h
theorem syms_much {bs : List Bool} {B : List Nat} {longest : Nat} {M : Tab} {sym : Nat → List Bool} (hb : bs.length ≤ 8 * B.length) (l : List Nat) :
  ∀ (p : Nat) (s : PS), (∀ c ∈ l, c < 256 ∧ SymOk bs B longest M sym c ∧ sym c ≠ []) → s.place = 2 → s.tab = M → s.longest = longest → s.p = p → BitsFrom bs p (l.flatMap sym) → s.out.length ≤ s.most → s.most < s.out.length + l.length →
   ∃ s', Runs B s 11 s' ∧ s'.out = s.out ++ l.take (s.most - s.out.length) := by
 induction l with
 | nil => intro p s _ _ _ _ _ _ h1 h2; simp at h2; omega
 | cons c l ih =>
  intro p s hc hpl ht hl hp hf h1 h2
  have hcc := hc c (by simp)
  rw [List.flatMap_cons] at hf
  have hle := from_le hf.left hcc.2.2 hb
  have hcode := hcc.2.1 p hf.left hle
  rw [← ht, ← hl, ← hp] at hcode
  by_cases hr : s.out.length = s.most
  ·exact ⟨_, Runs.much (.sym s (s.p + (sym c).length) c hpl hcode hcc.1 hr) (by omega), by simp [hr]⟩
  ·obtain ⟨s', h3, h4⟩ := ih (s.p + (sym c).length) { s with out := s.out ++ [c], p := s.p + (sym c).length } (fun x hx => hc x (by simp [hx])) hpl ht hl rfl (by rw [hp]; exact hf.right) (by simp; omega) (by simp at h2 ⊢; omega)
   refine ⟨s', Runs.step (.sym s (s.p + (sym c).length) c hpl hcode hcc.1 (by omega)) (by omega) h3, ?_⟩
   rw [h4]
   obtain ⟨m, hm⟩ : ∃ m, s.most - s.out.length = m + 1 := ⟨s.most - s.out.length - 1, by omega⟩
   show (s.out ++ [c]) ++ l.take (s.most - (s.out ++ [c]).length) = _
   rw [hm, List.length_append, List.length_cons, List.length_nil, show s.most - (s.out.length + (0 + 1)) = m by omega]
   simp
end Go.Proofs.YtbpahojchgpdnaaGreatDoor
namespace Go.Proofs.YtbpahojchgpdnaaGreatDoor
open Go.RowKit Go.Bel Go.Maps
structure BlkOk (B : List Nat) (p q : Nat) (l : List Nat) (last : Bool) : Prop where
 fits : ∀ s : PS, s.place = 0 → s.p = p → s.out.length + l.length ≤ s.most → ∃ s1 : PS, s1.place = (if last then 3 else 0) ∧ s1.out = s.out ++ l ∧ s1.most = s.most ∧ s1.p = (if last then (q + 7) / 8 * 8 else q) ∧ ∀ e s', Runs B s1 e s' → Runs B s e s'
 much : ∀ s : PS, s.place = 0 → s.p = p → s.out.length ≤ s.most → s.most < s.out.length + l.length → ∃ s' : PS, Runs B s 11 s' ∧ s'.out = s.out ++ l.take (s.most - s.out.length)
theorem head_from {bs : List Bool} {B : List Nat} (hB : BitsIn bs B) (hb : bs.length ≤ 8 * B.length) (p kind : Nat) (last : Bool) (hk : kind < 4) (h : BitsFrom bs p (beginBits last kind)) : HeadAt B p last kind := by
 have h1 : BitsFrom bs p [last] := BitsFrom.left (b := numBits kind 2) h
 have h2 : BitsFrom bs (p + 1) (numBits kind 2) := BitsFrom.right (a := [last]) h
 have hle := from_le h (by simp [beginBits]) hb
 rw [beginBits_length] at hle
 refine ⟨hle, ?_, ?_⟩
 ·have := h1 0 (by simp)
  rw [Nat.add_zero] at this
  rw [hB.bit, this]
  rfl
 ·rw [num_from hB (p + 1) kind 2 h2]
  exact Nat.mod_eq_of_lt (by omega)
end Go.Proofs.YtbpahojchgpdnaaGreatDoor
namespace Go.Proofs.YtbpahojchgpdnaaGreatDoor
open Go.RowKit Go.Bel Go.Maps
theorem sym_blk {bs : List Bool} {B : List Nat} {lg p p1 : Nat} {M : Tab} {sym : Nat → List Bool} (hb : bs.length ≤ 8 * B.length) (hne : sym 256 ≠ []) (l : List Nat) (last : Bool)
  (hstep : ∀ s : PS, s.place = 0 → s.p = p → PStep B s { s with last := last, place := 2, tab := M, longest := lg, p := p1 }) (hsym : ∀ c ∈ l, c < 256 ∧ SymOk bs B lg M sym c ∧ sym c ≠ []) (hend : SymOk bs B lg M sym 256)
  (hf : BitsFrom bs p1 (l.flatMap sym ++ sym 256)) : BlkOk B p (p1 + (l.flatMap sym ++ sym 256).length) l last := by
 have hle := from_le hf.right hne hb
 have hcode := hend _ hf.right hle
 rw [List.length_append]
 rw [← Nat.add_assoc]
 refine ⟨fun s h0 hp hm => ?_, fun s h0 hp hm1 hm2 => ?_⟩
 ·refine ⟨PS.ended { s with last := last, place := 2, tab := M, longest := lg, out := s.out ++ l, p := p1 + (l.flatMap sym).length } (p1 + (l.flatMap sym).length + (sym 256).length), rfl, rfl, rfl, rfl, fun e s' hr => ?_⟩
  refine Runs.step (hstep s h0 hp) (by omega) ?_
  refine syms_run hb l p1 { s with last := last, place := 2, tab := M, longest := lg, p := p1 } hsym rfl rfl rfl rfl hf.left hm e s' ?_
  exact Runs.step (.syms { s with last := last, place := 2, tab := M, longest := lg, out := s.out ++ l, p := p1 + (l.flatMap sym).length } _ rfl hcode) (by simp) hr
 ·obtain ⟨s', h5, h6⟩ := syms_much hb l p1 { s with last := last, place := 2, tab := M, longest := lg, p := p1 } hsym rfl rfl rfl rfl hf.left hm1 hm2
  exact ⟨s', Runs.step (hstep s h0 hp) (by omega) h5, h6⟩
end Go.Proofs.YtbpahojchgpdnaaGreatDoor
namespace Go.Proofs.YtbpahojchgpdnaaGreatDoor
open Go.RowKit Go.Bel Go.Maps
theorem fix_sym {bs : List Bool} {B : List Nat} (hB : BitsIn bs B) (c : Nat) (hc : c < 288) : SymOk bs B (dealAll fixLens).longest (dealAll fixLens).tab fixedBits c := by
 intro p hf hp
 have hs : c < fixLens.length := by rw [fixLens_length]; exact hc
 unfold fixedBits at hf hp ⊢
 by_cases h1 : c < 144
 ·rw [if_pos h1] at hf hp ⊢
  rw [codeBits_length] at hp ⊢
  have hg : fixLens[c]?.getD 0 = 8 := by rw [fixLens_get, fixG, if_pos h1]
  refine code_at hB fix_le hs hg (by omega) ?_ (by omega) fix_may hf hp
  rw [Bel.keyOf, hg, show 8 - 1 = 7 from rfl, fix_nx7, fix_cnt8 c (by omega)]; omega
 rw [if_neg h1] at hf hp ⊢
 by_cases h2 : c < 256
 ·rw [if_pos h2] at hf hp ⊢
  rw [codeBits_length] at hp ⊢
  have hg : fixLens[c]?.getD 0 = 9 := by rw [fixLens_get, fixG, if_neg h1, if_pos h2]
  refine code_at hB fix_le hs hg (by omega) ?_ (by omega) fix_may hf hp
  rw [Bel.keyOf, hg, show 9 - 1 = 8 from rfl, fix_nx8, fix_cnt9 c (by omega)]; omega
 rw [if_neg h2] at hf hp ⊢
 by_cases h3 : c < 280
 ·rw [if_pos h3] at hf hp ⊢
  rw [codeBits_length] at hp ⊢
  have hg : fixLens[c]?.getD 0 = 7 := by rw [fixLens_get, fixG, if_neg h1, if_neg h2, if_pos h3]
  refine code_at hB fix_le hs hg (by omega) ?_ (by omega) fix_may hf hp
  rw [Bel.keyOf, hg, show 7 - 1 = 6 from rfl, fix_nx6, fix_cnt7 c (by omega)]; omega
 ·rw [if_neg h3] at hf hp ⊢
  rw [codeBits_length] at hp ⊢
  have hg : fixLens[c]?.getD 0 = 8 := by rw [fixLens_get, fixG, if_neg h1, if_neg h2, if_neg h3, if_pos hc]
  refine code_at hB fix_le hs hg (by omega) ?_ (by omega) fix_may hf hp
  rw [Bel.keyOf, hg, show 8 - 1 = 7 from rfl, fix_nx7, fix_cnt8 c (by omega)]; omega
theorem fixedBits_ne (c : Nat) : fixedBits c ≠ [] := by
 intro e
 have : (fixedBits c).length = 0 := by rw [e]; rfl
 unfold fixedBits at this
 split at this
 ·rw [codeBits_length] at this; omega
 ·split at this
  ·rw [codeBits_length] at this; omega
  ·split at this <;> (rw [codeBits_length] at this; omega)
theorem lit_blk {bs : List Bool} {B : List Nat} (hB : BitsIn bs B) (hb : bs.length ≤ 8 * B.length) (p : Nat) (l : List Nat) (last : Bool) (hc : ∀ c ∈ l, c < 256) (h : BitsFrom bs p (litBits l last)) :
  BlkOk B p (p + (litBits l last).length) l last := by
 have e : litBits l last = beginBits last 1 ++ (l.flatMap fixedBits ++ fixedBits 256) := by unfold litBits fixedAll; simp [List.append_assoc]
 rw [e] at h ⊢
 have hhd := head_from hB hb p 1 last (by omega) h.left
 have hr := h.right
 rw [beginBits_length] at hr
 rw [List.length_append, beginBits_length, ← Nat.add_assoc]
 refine sym_blk hb (fixedBits_ne 256) l last ?_ (fun c hcl => ⟨hc c hcl, fix_sym hB c (by have := hc c hcl; omega), fixedBits_ne c⟩) (fix_sym hB 256 (by omega)) hr
 intro s h0 hp
 subst hp
 exact .fixed s last h0 hhd
end Go.Proofs.YtbpahojchgpdnaaGreatDoor
