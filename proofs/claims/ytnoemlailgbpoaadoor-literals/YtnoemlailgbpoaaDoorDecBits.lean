/- Proved here: from the bits that the writer writes, the decoder's steps read the bytes again: symbols one after the other, stored bytes, whole blocks. -/
import Derived.Test.YtnoemlailgbpoaaDoorRun
import Derived.Test.YtnoemlailgbpoaaDoorToldLens
namespace Go.Proofs.YtnoemlailgbpoaaDoor
open Go.RowKit Go.Bel Go.Maps

theorem codeTo_prefix {bs : List Bool} {p x n j : Nat} (h : BitsFrom bs p (codeBits x n)) (hj : j ≤ n) : BitsFrom bs p (codeTo x n j) := fun i hi => by
  rw [codeTo_length] at hi
  have := h i (by rw [codeBits_length]; omega)
  rw [this]
  simp [codeBits, codeTo, hi, show i < n by omega]

theorem code_at {L : List Nat} {bs : List Bool} {B : List Nat} {s x n p : Nat} (hB : BitsIn bs B) (hL : ∀ i : Nat, L[i]?.getD 0 ≤ 15) (hs : s < L.length) (hn : L[s]?.getD 0 = n) (h1 : 1 ≤ n) (hk : Bel.keyOf L s = 2 ^ n + x) (hx : x < 2 ^ n) (hm : mayB L = true) (hb : BitsFrom bs p (codeBits x n)) (hp : p + n ≤ 8 * B.length) :
    CodeAt (dealAll L).longest (dealAll L).tab B p (p + n) s := by
  have hl := hL s
  have e : p + n - p = n := by omega
  refine ⟨by omega, ?_, hp, ?_, ?_⟩
  · rw [e, ← hn]; exact longest_ge L 15 s hs (by omega) hl
  · rw [e, key_from hB p x n n hx (Nat.le_refl _) hb, Nat.sub_self, Nat.pow_zero, Nat.div_one, ← hk]
    exact found L s hs (by omega) hl
  · intro j hj1 hj2
    rw [e] at hj2
    rw [key_from hB p x n j hx (by omega) (codeTo_prefix hb (by omega)), ← hk, ← hn]
    exact prefix_none L (room L hL hm) s j hs (by omega) hl hj1 (by omega)

/- some steps lead from s to the answer e and the state s' -/
def Runs (B : List Nat) (s : PS) (e : Nat) (s' : PS) : Prop := ∃ n, PRun B n s e s'
theorem Runs.step {B : List Nat} {s s1 s' : PS} {e : Nat} (h : PStep B s s1) (h3 : s.place ≠ 3) (k : Runs B s1 e s') : Runs B s e s' := by
  obtain ⟨n, hn⟩ := k
  exact ⟨n + 1, .step n s s1 s' e h h3 hn⟩
theorem Runs.much {B : List Nat} {s s' : PS} (h : PMuch B s s') (h3 : s.place ≠ 3) : Runs B s 11 s' := ⟨1, .much s s' h h3⟩

/- each symbol's bits are its code in a table -/
def SymOk (bs : List Bool) (B : List Nat) (longest : Nat) (M : Tab) (sym : Nat → List Bool) (c : Nat) : Prop :=
  ∀ p, BitsFrom bs p (sym c) → p + (sym c).length ≤ 8 * B.length → CodeAt longest M B p (p + (sym c).length) c

theorem from_le {bs : List Bool} {B : List Nat} {p : Nat} {l : List Bool} (h : BitsFrom bs p l) (hl : l ≠ []) (hb : bs.length ≤ 8 * B.length) : p + l.length ≤ 8 * B.length := by
  have h0 : 0 < l.length := by cases l <;> simp_all
  have := h (l.length - 1) (by omega)
  rw [List.getElem?_eq_getElem (show l.length - 1 < l.length by omega)] at this
  have h2 := (List.getElem?_eq_some_iff.1 this).1
  omega

theorem syms_run {bs : List Bool} {B : List Nat} {longest : Nat} {M : Tab} {sym : Nat → List Bool} (hb : bs.length ≤ 8 * B.length) (l : List Nat) :
    ∀ (p : Nat) (s : PS), (∀ c ∈ l, c < 256 ∧ SymOk bs B longest M sym c ∧ sym c ≠ []) → s.place = 2 → s.tab = M → s.longest = longest → s.p = p → BitsFrom bs p (l.flatMap sym) → s.out.length + l.length ≤ s.most →
      ∀ e s', Runs B { s with out := s.out ++ l, p := p + (l.flatMap sym).length } e s' → Runs B s e s' := by
  induction l with
  | nil =>
    intro p s _ _ _ _ hp _ _ e s' h
    have : ({ s with out := s.out ++ [], p := p + (List.flatMap sym []).length } : PS) = s := by cases s; simp_all
    rw [this] at h
    exact h
  | cons c l ih =>
    intro p s hc hpl ht hl hp hf hm e s' h
    have hcc := hc c (by simp)
    rw [List.flatMap_cons] at hf
    have hle := from_le hf.left hcc.2.2 hb
    have hcode := hcc.2.1 p hf.left hle
    rw [← ht, ← hl, ← hp] at hcode
    refine Runs.step (.sym s (s.p + (sym c).length) c hpl hcode hcc.1 (by simp at hm; omega)) (by omega) ?_
    refine ih (s.p + (sym c).length) { s with out := s.out ++ [c], p := s.p + (sym c).length } (fun x hx => hc x (by simp [hx])) hpl ht hl rfl (by rw [hp]; exact hf.right) (by simp at hm ⊢; omega) e s' ?_
    have e1 : (s.out ++ [c]) ++ l = s.out ++ c :: l := by simp
    have e2 : s.p + (sym c).length + (l.flatMap sym).length = p + ((c :: l).flatMap sym).length := by rw [List.flatMap_cons, List.length_append, hp]; omega
    show Runs B { s with out := (s.out ++ [c]) ++ l, p := s.p + (sym c).length + (l.flatMap sym).length } e s'
    rw [e1, e2]
    exact h

theorem syms_much {bs : List Bool} {B : List Nat} {longest : Nat} {M : Tab} {sym : Nat → List Bool} (hb : bs.length ≤ 8 * B.length) (l : List Nat) :
    ∀ (p : Nat) (s : PS), (∀ c ∈ l, c < 256 ∧ SymOk bs B longest M sym c ∧ sym c ≠ []) → s.place = 2 → s.tab = M → s.longest = longest → s.p = p → BitsFrom bs p (l.flatMap sym) → s.out.length ≤ s.most → s.most < s.out.length + l.length →
      ∃ s', Runs B s 11 s' ∧ s'.out = s.out ++ l.take (s.most - s.out.length) := by
  induction l with
  | nil => intro p s _ _ _ _ _ _ h1 h2; simp at h2; omega
  | cons c l ih =>
    intro p s hc hpl ht hl hp hf h1 h2
    have hcc := hc c (by simp)
    rw [List.flatMap_cons] at hf
    have hle := from_le hf.left hcc.2.2 hb
    have hcode := hcc.2.1 p hf.left hle
    rw [← ht, ← hl, ← hp] at hcode
    by_cases hr : s.out.length = s.most
    · exact ⟨_, Runs.much (.sym s (s.p + (sym c).length) c hpl hcode hcc.1 hr) (by omega), by simp [hr]⟩
    · obtain ⟨s', h3, h4⟩ := ih (s.p + (sym c).length) { s with out := s.out ++ [c], p := s.p + (sym c).length } (fun x hx => hc x (by simp [hx])) hpl ht hl rfl (by rw [hp]; exact hf.right) (by simp; omega) (by simp at h2 ⊢; omega)
      refine ⟨s', Runs.step (.sym s (s.p + (sym c).length) c hpl hcode hcc.1 (by omega)) (by omega) h3, ?_⟩
      rw [h4]
      obtain ⟨m, hm⟩ : ∃ m, s.most - s.out.length = m + 1 := ⟨s.most - s.out.length - 1, by omega⟩
      show (s.out ++ [c]) ++ l.take (s.most - (s.out ++ [c]).length) = _
      rw [hm, List.length_append, List.length_cons, List.length_nil, show s.most - (s.out.length + (0 + 1)) = m by omega]
      simp
end Go.Proofs.YtnoemlailgbpoaaDoor
