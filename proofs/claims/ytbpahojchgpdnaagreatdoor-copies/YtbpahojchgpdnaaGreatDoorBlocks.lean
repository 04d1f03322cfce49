/- Proved here: the lengths that the writer's told gives may be, and its codes are those that are dealt out for them; nothing of the program. Proved here: from the bits that the writer writes, the decoder's steps read the bytes again: symbols one after the other, stored bytes, whole blocks. Proved here: a block that the writer writes, of type 0 or, by a table whose codes are known, of another type, is read to its bytes. Proved here: a block of type 2 that the writer writes is read to its bytes; and one of type 1, by the codes of its lengths. Proved here: a block of type 1 that the writer writes is read to its bytes. -/
import Derived.Test.YtbpahojchgpdnaaGreatDoorGround
import Derived.Test.YtbpahojchgpdnaaGreatDoorRun
import Derived.Test.YtbpahojchgpdnaaGreatDoorPlain
namespace Go.Bel
open Go Go.RowKit

def lens (f : Nat → Bool) : List Nat := (List.range 257).map (lenOf f)
theorem lens_length (f : Nat → Bool) : (lens f).length = 257 := by simp [lens]
theorem lens_get (f : Nat → Bool) (i : Nat) (h : i < 257) : (lens f)[i]?.getD 0 = lenOf f i := by simp [lens, h]
theorem lens_le (f : Nat → Bool) (i : Nat) : (lens f)[i]?.getD 0 ≤ 15 := by
  by_cases h : i < 257
  · rw [lens_get f i h]; have := lenOf_le f i; omega
  · rw [List.getElem?_eq_none (by rw [lens_length]; omega)]; simp

theorem need_ne (f : Nat → Bool) (h1 : ¬ manyTo f 257 = 1) (k : Nat) : manyTo (need f) k = manyTo f k := by
  have hn : ∀ i, need f i = f i := fun i => by
    have e : (manyTo f 257 == 1) = false := by simpa using h1
    unfold need; rw [e]; simp
  induction k with
  | zero => rfl
  | succ k ih => rw [manyTo, manyTo, ih, hn]
theorem need_eq (f : Nat → Bool) (h1 : manyTo f 257 = 1) (h0 : f 0 = false) (k : Nat) : manyTo (need f) (k + 1) = manyTo f (k + 1) + 1 := by
  have hn : ∀ i, need f i = (f i || i == 0) := fun i => by unfold need; rw [h1]; simp
  induction k with
  | zero =>
    have a : manyTo (need f) 1 = 1 := by simp [manyTo, hn]
    have b : manyTo f 1 = 0 := by simp [manyTo, h0]
    rw [a, b]
  | succ k ih =>
    have e : (k + 1 == 0) = false := by simp
    have a : manyTo (need f) (k + 1 + 1) = manyTo (need f) (k + 1) + (if need f (k + 1) then 1 else 0) := rfl
    have b : manyTo f (k + 1 + 1) = manyTo f (k + 1) + (if f (k + 1) then 1 else 0) := rfl
    rw [a, b, ih, hn, e, Bool.or_false]
    omega
theorem manyTo_two (f : Nat → Bool) (h0 : f 0 = true) (h : f 256 = true) : 2 ≤ manyTo f 257 := by
  have : ∀ k, 1 ≤ k → k ≤ 256 → 1 ≤ manyTo f k := fun k h1 h2 => manyTo_pos f k 0 (by omega) h0
  have h3 := this 256 (by omega) (by omega)
  rw [manyTo, if_pos h]
  omega
theorem rank_all (f : Nat → Bool) (h : f 256 = true) : rank f 257 = manyOf f := by
  unfold rank manyOf
  by_cases h1 : manyTo f 257 = 1
  · have hf : f 0 = false := by
      cases hf : f 0 with
      | false => rfl
      | true => have := manyTo_two f hf h; omega
    rw [if_pos h1, need_eq f h1 hf, h1]
  · rw [if_neg h1, need_ne f h1]
theorem manyOf_ge (f : Nat → Bool) (h : f 256 = true) : 2 ≤ manyOf f := by
  have := manyTo_pos f 257 256 (by omega) h
  unfold manyOf; split <;> omega
theorem shortLen_bd (f : Nat → Bool) (h : f 256 = true) : 1 ≤ shortLen f ∧ 2 ^ shortLen f ≤ manyOf f ∧ manyOf f < 2 ^ (shortLen f + 1) := by
  have h2 := manyOf_ge f h
  have h0 : manyOf f ≠ 0 := by omega
  refine ⟨?_, ?_, ?_⟩
  · exact (Nat.le_log2 h0).2 (by omega)
  · exact (Nat.le_log2 h0).1 (Nat.le_refl _)
  · exact (Nat.log2_lt h0).1 (Nat.lt_succ_self _)

theorem cnt_short (f : Nat → Bool) (h : f 256 = true) (s : Nat) (hs : s ≤ 257) : cntEq (lens f) (shortLen f) s = min (rank f s) (shortMany f) ∧ cntEq (lens f) (shortLen f + 1) s = rank f s - shortMany f := by
  have hb := shortLen_bd f h
  induction s with
  | zero => simp [cntEq, rank, manyTo]
  | succ s ih =>
    obtain ⟨i1, i2⟩ := ih (by omega)
    rw [cntEq, cntEq, i1, i2, lens_get f s (by omega), rank_succ]
    unfold lenOf
    by_cases hn : need f s = true
    · rw [if_pos hn, if_pos hn]
      by_cases hr : rank f s < shortMany f
      · rw [if_pos hr, if_pos rfl, if_neg (by omega)]; omega
      · rw [if_neg hr, if_neg (by omega), if_pos rfl]; omega
    · rw [if_neg hn, if_neg hn, if_neg (by omega), if_neg (by omega)]; omega
theorem cnt_other (f : Nat → Bool) (l : Nat) (h1 : 1 ≤ l) (hl : l ≠ shortLen f) (hl2 : l ≠ shortLen f + 1) (s : Nat) (hs : s ≤ 257) : cntEq (lens f) l s = 0 := by
  induction s with
  | zero => rfl
  | succ s ih =>
    rw [cntEq, ih (by omega), lens_get f s (by omega)]
    unfold lenOf
    split
    · split
      · rw [if_neg (by omega)]
      · rw [if_neg (by omega)]
    · rw [if_neg (by omega)]
theorem nx_low (f : Nat → Bool) (l : Nat) (hl : l < shortLen f) : nx (lens f) l = 2 ^ l := by
  induction l with
  | zero => rfl
  | succ l ih => rw [nx, ih (by omega), cnt_other f (l + 1) (by omega) (by omega) (by omega) _ (by rw [lens_length]; omega), Nat.pow_succ]; omega
theorem nx_short (f : Nat → Bool) (h : f 256 = true) : nx (lens f) (shortLen f) = 2 ^ shortLen f + shortMany f := by
  have hb := shortLen_bd f h
  obtain ⟨n, hn⟩ : ∃ n, shortLen f = n + 1 := ⟨shortLen f - 1, by omega⟩
  have hc := (cnt_short f h 257 (by omega)).1
  rw [rank_all f h] at hc
  have hsm : shortMany f ≤ manyOf f := by
    unfold shortMany
    rw [Nat.pow_succ]
    omega
  rw [hn] at hc ⊢
  rw [nx, nx_low f n (by omega), lens_length, hc, Nat.pow_succ]
  omega
theorem nx_long (f : Nat → Bool) (h : f 256 = true) : nx (lens f) (shortLen f + 1) = 2 ^ (shortLen f + 2) := by
  have hb := shortLen_bd f h
  have hc := (cnt_short f h 257 (by omega)).2
  rw [rank_all f h] at hc
  have e : shortMany f = 2 ^ (shortLen f + 1) - manyOf f := rfl
  rw [nx, nx_short f h, lens_length, hc, show shortLen f + 2 = shortLen f + 1 + 1 from rfl, Nat.pow_succ 2 (shortLen f + 1), Nat.pow_succ]
  rw [Nat.pow_succ] at e hb
  omega
theorem nx_high (f : Nat → Bool) (h : f 256 = true) (k : Nat) : nx (lens f) (shortLen f + 1 + k) = 2 ^ (shortLen f + 2 + k) := by
  induction k with
  | zero => exact nx_long f h
  | succ k ih =>
    rw [show shortLen f + 1 + (k + 1) = (shortLen f + 1 + k) + 1 from rfl, nx, ih, cnt_other f _ (by omega) (by omega) (by omega) _ (by rw [lens_length]; omega), show shortLen f + 2 + (k + 1) = (shortLen f + 2 + k) + 1 from rfl, Nat.pow_succ]
    omega
theorem lens_may (f : Nat → Bool) (h : f 256 = true) : mayB (lens f) = true := by
  have h8 := shortLen_le f
  have h1 := nx_high f h (14 - shortLen f)
  rw [show shortLen f + 1 + (14 - shortLen f) = 15 by omega, show shortLen f + 2 + (14 - shortLen f) = 16 by omega, nx_eq, wTo_wgt (lens f) (lens_le f)] at h1
  have h2 : wgtTo (lens f) (lens f).length = 32768 := by omega
  unfold mayB
  rw [h2]
  rfl
theorem key_told (f : Nat → Bool) (h : f 256 = true) (s : Nat) (hs : s < 257) (hn : need f s = true) : keyOf (lens f) s = 2 ^ lenOf f s + codeOf f s ∧ codeOf f s < 2 ^ lenOf f s ∧ 1 ≤ lenOf f s := by
  have hb := shortLen_bd f h
  obtain ⟨c1, c2⟩ := cnt_short f h s (by omega)
  have hrk : rank f s < manyOf f := by
    rw [← rank_all f h]
    have : ∀ k, s < k → rank f s < rank f k := by
      intro k
      induction k with
      | zero => omega
      | succ k ih =>
        intro hk
        rw [rank_succ]
        by_cases e : s = k
        · subst e; rw [if_pos hn]; omega
        · have := ih (by omega); omega
    exact this 257 hs
  have e : shortMany f = 2 ^ (shortLen f + 1) - manyOf f := rfl
  unfold keyOf
  rw [lens_get f s hs]
  by_cases hr : rank f s < shortMany f
  · have el : lenOf f s = shortLen f := by rw [lenOf, if_pos hn, if_pos hr]
    have ec : codeOf f s = rank f s := by rw [codeOf, if_pos hn, if_pos hr]
    rw [el, ec, c1, nx_low f _ (by omega)]
    obtain ⟨n, hn2⟩ : ∃ n, shortLen f = n + 1 := ⟨shortLen f - 1, by omega⟩
    rw [hn2] at hb e ⊢
    rw [Nat.add_sub_cancel]
    rw [Nat.pow_succ 2 (n + 1)] at e hb
    rw [Nat.pow_succ] at e hb ⊢
    omega
  · have el : lenOf f s = shortLen f + 1 := by rw [lenOf, if_pos hn, if_neg hr]
    have ec : codeOf f s = shortMany f + rank f s := by rw [codeOf, if_pos hn, if_neg hr]
    rw [el, ec, c2, Nat.add_sub_cancel, nx_short f h]
    rw [Nat.pow_succ] at e hb ⊢
    omega
end Go.Bel

namespace Go.Proofs.YtbpahojchgpdnaaGreatDoor
open Go.RowKit Go.Bel Go.Maps

theorem codeTo_prefix {bs : List Bool} {p x n j : Nat} (h : BitsFrom bs p (codeBits x n)) (hj : j ≤ n) : BitsFrom bs p (codeTo x n j) := fun i hi => by
  rw [codeTo_length] at hi
  have := h i (by rw [codeBits_length]; omega)
  rw [this]
  simp [codeBits, codeTo, hi, show i < n by omega]

theorem code_at {L : List Nat} {bs : List Bool} {B : List Nat} {s x n p : Nat} (hB : BitsIn bs B) (hL : ∀ i : Nat, L[i]?.getD 0 ≤ 15) (hs : s < L.length) (hn : L[s]?.getD 0 = n) (h1 : 1 ≤ n) (hk : Bel.keyOf L s = 2 ^ n + x) (hx : x < 2 ^ n) (hm : mayB L = true) (hb : BitsFrom bs p (codeBits x n)) (hp : p + n ≤ 8 * B.length) :
    CodeAt (dealAll L).longest (dealAll L).tab B p (p + n) s := by
  have hl := hL s
  have e : p + n - p = n := by omega
  refine ⟨by omega, ?_, hp, ?_, ?_⟩
  · rw [e, ← hn]; exact longest_ge L 15 s hs (by omega) hl
  · rw [e, key_from hB p x n n hx (Nat.le_refl _) hb, Nat.sub_self, Nat.pow_zero, Nat.div_one, ← hk]
    exact found L s hs (by omega) hl
  · intro j hj1 hj2
    rw [e] at hj2
    rw [key_from hB p x n j hx (by omega) (codeTo_prefix hb (by omega)), ← hk, ← hn]
    exact prefix_none L (room L hL hm) s j hs (by omega) hl hj1 (by omega)

/- some steps lead from s to the answer e and the state s' -/
def Runs (B : List Nat) (s : PS) (e : Nat) (s' : PS) : Prop := ∃ n, PRun B n s e s'
theorem Runs.step {B : List Nat} {s s1 s' : PS} {e : Nat} (h : PStep B s s1) (h3 : s.place ≠ 3) (k : Runs B s1 e s') : Runs B s e s' := by
  obtain ⟨n, hn⟩ := k
  exact ⟨n + 1, .step n s s1 s' e h h3 hn⟩
theorem Runs.much {B : List Nat} {s s' : PS} (h : PMuch B s s') (h3 : s.place ≠ 3) : Runs B s 11 s' := ⟨1, .much s s' h h3⟩

/- each symbol's bits are its code in a table -/
def SymOk (bs : List Bool) (B : List Nat) (longest : Nat) (M : Tab) (sym : Nat → List Bool) (c : Nat) : Prop :=
  ∀ p, BitsFrom bs p (sym c) → p + (sym c).length ≤ 8 * B.length → CodeAt longest M B p (p + (sym c).length) c

theorem from_le {bs : List Bool} {B : List Nat} {p : Nat} {l : List Bool} (h : BitsFrom bs p l) (hl : l ≠ []) (hb : bs.length ≤ 8 * B.length) : p + l.length ≤ 8 * B.length := by
  have h0 : 0 < l.length := by cases l <;> simp_all
  have := h (l.length - 1) (by omega)
  rw [List.getElem?_eq_getElem (show l.length - 1 < l.length by omega)] at this
  have h2 := (List.getElem?_eq_some_iff.1 this).1
  omega

theorem syms_run {bs : List Bool} {B : List Nat} {longest : Nat} {M : Tab} {sym : Nat → List Bool} (hb : bs.length ≤ 8 * B.length) (l : List Nat) :
    ∀ (p : Nat) (s : PS), (∀ c ∈ l, c < 256 ∧ SymOk bs B longest M sym c ∧ sym c ≠ []) → s.place = 2 → s.tab = M → s.longest = longest → s.p = p → BitsFrom bs p (l.flatMap sym) → s.out.length + l.length ≤ s.most →
      ∀ e s', Runs B { s with out := s.out ++ l, p := p + (l.flatMap sym).length } e s' → Runs B s e s' := by
  induction l with
  | nil =>
    intro p s _ _ _ _ hp _ _ e s' h
    have : ({ s with out := s.out ++ [], p := p + (List.flatMap sym []).length } : PS) = s := by cases s; simp_all
    rw [this] at h
    exact h
  | cons c l ih =>
    intro p s hc hpl ht hl hp hf hm e s' h
    have hcc := hc c (by simp)
    rw [List.flatMap_cons] at hf
    have hle := from_le hf.left hcc.2.2 hb
    have hcode := hcc.2.1 p hf.left hle
    rw [← ht, ← hl, ← hp] at hcode
    refine Runs.step (.sym s (s.p + (sym c).length) c hpl hcode hcc.1 (by simp at hm; omega)) (by omega) ?_
    refine ih (s.p + (sym c).length) { s with out := s.out ++ [c], p := s.p + (sym c).length } (fun x hx => hc x (by simp [hx])) hpl ht hl rfl (by rw [hp]; exact hf.right) (by simp at hm ⊢; omega) e s' ?_
    have e1 : (s.out ++ [c]) ++ l = s.out ++ c :: l := by simp
    have e2 : s.p + (sym c).length + (l.flatMap sym).length = p + ((c :: l).flatMap sym).length := by rw [List.flatMap_cons, List.length_append, hp]; omega
    show Runs B { s with out := (s.out ++ [c]) ++ l, p := s.p + (sym c).length + (l.flatMap sym).length } e s'
    rw [e1, e2]
    exact h

theorem syms_much {bs : List Bool} {B : List Nat} {longest : Nat} {M : Tab} {sym : Nat → List Bool} (hb : bs.length ≤ 8 * B.length) (l : List Nat) :
    ∀ (p : Nat) (s : PS), (∀ c ∈ l, c < 256 ∧ SymOk bs B longest M sym c ∧ sym c ≠ []) → s.place = 2 → s.tab = M → s.longest = longest → s.p = p → BitsFrom bs p (l.flatMap sym) → s.out.length ≤ s.most → s.most < s.out.length + l.length →
      ∃ s', Runs B s 11 s' ∧ s'.out = s.out ++ l.take (s.most - s.out.length) := by
  induction l with
  | nil => intro p s _ _ _ _ _ _ h1 h2; simp at h2; omega
  | cons c l ih =>
    intro p s hc hpl ht hl hp hf h1 h2
    have hcc := hc c (by simp)
    rw [List.flatMap_cons] at hf
    have hle := from_le hf.left hcc.2.2 hb
    have hcode := hcc.2.1 p hf.left hle
    rw [← ht, ← hl, ← hp] at hcode
    by_cases hr : s.out.length = s.most
    · exact ⟨_, Runs.much (.sym s (s.p + (sym c).length) c hpl hcode hcc.1 hr) (by omega), by simp [hr]⟩
    · obtain ⟨s', h3, h4⟩ := ih (s.p + (sym c).length) { s with out := s.out ++ [c], p := s.p + (sym c).length } (fun x hx => hc x (by simp [hx])) hpl ht hl rfl (by rw [hp]; exact hf.right) (by simp; omega) (by simp at h2 ⊢; omega)
      refine ⟨s', Runs.step (.sym s (s.p + (sym c).length) c hpl hcode hcc.1 (by omega)) (by omega) h3, ?_⟩
      rw [h4]
      obtain ⟨m, hm⟩ : ∃ m, s.most - s.out.length = m + 1 := ⟨s.most - s.out.length - 1, by omega⟩
      show (s.out ++ [c]) ++ l.take (s.most - (s.out ++ [c]).length) = _
      rw [hm, List.length_append, List.length_cons, List.length_nil, show s.most - (s.out.length + (0 + 1)) = m by omega]
      simp
end Go.Proofs.YtbpahojchgpdnaaGreatDoor

namespace Go.Proofs.YtbpahojchgpdnaaGreatDoor
open Go.RowKit Go.Bel Go.Maps

/- from bit p up to bit q stands a block of the bytes l -/
structure BlkOk (B : List Nat) (p q : Nat) (l : List Nat) (last : Bool) : Prop where
  fits : ∀ s : PS, s.place = 0 → s.p = p → s.out.length + l.length ≤ s.most → ∃ s1 : PS, s1.place = (if last then 3 else 0) ∧ s1.out = s.out ++ l ∧ s1.most = s.most ∧ s1.p = (if last then (q + 7) / 8 * 8 else q) ∧ ∀ e s', Runs B s1 e s' → Runs B s e s'
  much : ∀ s : PS, s.place = 0 → s.p = p → s.out.length ≤ s.most → s.most < s.out.length + l.length → ∃ s' : PS, Runs B s 11 s' ∧ s'.out = s.out ++ l.take (s.most - s.out.length)

theorem head_from {bs : List Bool} {B : List Nat} (hB : BitsIn bs B) (hb : bs.length ≤ 8 * B.length) (p kind : Nat) (last : Bool) (hk : kind < 4) (h : BitsFrom bs p (beginBits last kind)) : HeadAt B p last kind := by
  have h1 : BitsFrom bs p [last] := BitsFrom.left (b := numBits kind 2) h
  have h2 : BitsFrom bs (p + 1) (numBits kind 2) := BitsFrom.right (a := [last]) h
  have hle := from_le h (by simp [beginBits]) hb
  rw [beginBits_length] at hle
  refine ⟨hle, ?_, ?_⟩
  · have := h1 0 (by simp)
    rw [Nat.add_zero] at this
    rw [hB.bit, this]
    rfl
  · rw [num_from hB (p + 1) kind 2 h2]
    exact Nat.mod_eq_of_lt (by omega)

theorem bytes_run {bs : List Bool} {B : List Nat} (hB : BitsIn bs B) (hb : bs.length ≤ 8 * B.length) (l : List Nat) :
    ∀ (s : PS), (∀ c ∈ l, c < 256) → s.place = 1 → s.left = l.length → l.length ≤ 65535 → BitsFrom bs s.p (byteBits l) → s.out.length + l.length ≤ s.most →
      ∀ e s', Runs B { s with out := s.out ++ l, left := 0, p := s.p + 8 * l.length } e s' → Runs B s e s' := by
  induction l with
  | nil =>
    intro s _ _ hl _ _ _ e s' h
    have : ({ s with out := s.out ++ [], left := 0, p := s.p + 8 * ([] : List Nat).length } : PS) = s := by cases s; simp_all
    rw [this] at h
    exact h
  | cons c l ih =>
    intro s hc hpl hl hlm hf hm e s' h
    have hf' : BitsFrom bs s.p (numBits c 8 ++ byteBits l) := by simpa [byteBits] using hf
    have hle := from_le hf'.left (by simp [numBits]) hb
    rw [numBits_length] at hle
    have hn : numAt B s.p 8 = c := by rw [num_from hB s.p c 8 hf'.left]; exact Nat.mod_eq_of_lt (hc c (by simp))
    have hr := hf'.right
    rw [numBits_length] at hr
    simp only [List.length_cons] at hl hm hlm
    refine Runs.step (.byte s hpl (by omega) (by omega) hle (by omega)) (by omega) ?_
    rw [hn]
    refine ih { s with out := s.out ++ [c], left := s.left - 1, p := s.p + 8 } (fun x hx => hc x (by simp [hx])) hpl (by show s.left - 1 = _; omega) (by omega) hr (by show (s.out ++ [c]).length + l.length ≤ s.most; simp; omega) e s' ?_
    have e1 : (s.out ++ [c]) ++ l = s.out ++ c :: l := by simp
    show Runs B { s with out := (s.out ++ [c]) ++ l, left := 0, p := s.p + 8 + 8 * l.length } e s'
    rw [e1, show s.p + 8 + 8 * l.length = s.p + 8 * (c :: l).length by simp; omega]
    exact h

theorem bytes_much {bs : List Bool} {B : List Nat} (hB : BitsIn bs B) (hb : bs.length ≤ 8 * B.length) (l : List Nat) :
    ∀ (s : PS), (∀ c ∈ l, c < 256) → s.place = 1 → s.left = l.length → l.length ≤ 65535 → BitsFrom bs s.p (byteBits l) → s.out.length ≤ s.most → s.most < s.out.length + l.length →
      ∃ s', Runs B s 11 s' ∧ s'.out = s.out ++ l.take (s.most - s.out.length) := by
  induction l with
  | nil => intro s _ _ _ _ _ h1 h2; simp at h2; omega
  | cons c l ih =>
    intro s hc hpl hl hlm hf h1 h2
    have hf' : BitsFrom bs s.p (numBits c 8 ++ byteBits l) := by simpa [byteBits] using hf
    have hle := from_le hf'.left (by simp [numBits]) hb
    rw [numBits_length] at hle
    have hn : numAt B s.p 8 = c := by rw [num_from hB s.p c 8 hf'.left]; exact Nat.mod_eq_of_lt (hc c (by simp))
    have hr := hf'.right
    rw [numBits_length] at hr
    simp only [List.length_cons] at hl h2 hlm
    by_cases hrm : s.out.length = s.most
    · exact ⟨_, Runs.much (.byte s hpl (by omega) (by omega) hle hrm) (by omega), by simp [hrm]⟩
    · have hst := PStep.byte (B := B) s hpl (by omega) (by omega) hle (by omega)
      rw [hn] at hst
      obtain ⟨s', h3, h4⟩ := ih { s with out := s.out ++ [c], left := s.left - 1, p := s.p + 8 } (fun x hx => hc x (by simp [hx])) hpl (by show s.left - 1 = _; omega) (by omega) hr (by show (s.out ++ [c]).length ≤ s.most; simp; omega) (by show s.most < (s.out ++ [c]).length + l.length; simp; omega)
      refine ⟨s', Runs.step hst (by omega) h3, ?_⟩
      rw [h4]
      obtain ⟨m, hm⟩ : ∃ m, s.most - s.out.length = m + 1 := ⟨s.most - s.out.length - 1, by omega⟩
      show (s.out ++ [c]) ++ l.take (s.most - (s.out ++ [c]).length) = _
      rw [hm, List.length_append, List.length_cons, List.length_nil, show s.most - (s.out.length + (0 + 1)) = m by omega]
      simp

theorem stored_blk {bs : List Bool} {B : List Nat} (hB : BitsIn bs B) (hb : bs.length ≤ 8 * B.length) (p : Nat) (l : List Nat) (last : Bool) (hc : ∀ c ∈ l, c < 256) (hl : l.length ≤ 65535) (h : BitsFrom bs p (storedBits p l last)) :
    BlkOk B p (p + (storedBits p l last).length) l last := by
  obtain ⟨q, hq⟩ : ∃ q, q = (p + 3 + 7) / 8 * 8 := ⟨_, rfl⟩
  have e1 : (padBits (p + 3)).length = q - (p + 3) := by simp [padBits]; omega
  have hlen : (storedBits p l last).length = q - p + 32 + 8 * l.length := by
    unfold storedBits
    simp only [List.length_append, beginBits_length, numBits_length, byteBits_length, e1]
    omega
  have hbyte := h.right (a := beginBits last 0 ++ padBits (p + 3) ++ numBits l.length 16 ++ numBits (65535 - l.length) 16) (b := byteBits l)
  have h4 := BitsFrom.left (a := beginBits last 0 ++ padBits (p + 3) ++ numBits l.length 16 ++ numBits (65535 - l.length) 16) (b := byteBits l) h
  have hn2 := BitsFrom.right (a := beginBits last 0 ++ padBits (p + 3) ++ numBits l.length 16) (b := numBits (65535 - l.length) 16) h4
  have h3 := BitsFrom.left (a := beginBits last 0 ++ padBits (p + 3) ++ numBits l.length 16) (b := numBits (65535 - l.length) 16) h4
  have hn1 := BitsFrom.right (a := beginBits last 0 ++ padBits (p + 3)) (b := numBits l.length 16) h3
  have hhd := head_from hB hb p 0 last (by omega) (BitsFrom.left (a := beginBits last 0) (b := padBits (p + 3)) (BitsFrom.left (a := beginBits last 0 ++ padBits (p + 3)) (b := numBits l.length 16) h3))
  have hle := from_le h4 (by simp [beginBits]) hb
  simp only [List.length_append, beginBits_length, numBits_length, e1] at hbyte hn2 hn1 hle
  rw [show p + (3 + (q - (p + 3))) = q by omega] at hn1
  rw [show p + (3 + (q - (p + 3)) + 16) = q + 16 by omega] at hn2
  rw [show p + (3 + (q - (p + 3)) + 16 + 16) = q + 32 by omega] at hbyte
  have a1 : numAt B q 16 = l.length := by rw [num_from hB q _ 16 hn1]; exact Nat.mod_eq_of_lt (by omega)
  have a2 : numAt B (q + 16) 16 = 65535 - l.length := by rw [num_from hB (q + 16) _ 16 hn2]; exact Nat.mod_eq_of_lt (by omega)
  have hend : p + (storedBits p l last).length = q + 32 + 8 * l.length := by rw [hlen]; omega
  have hendle := from_le h (by simp [storedBits, beginBits]) hb
  rw [hend] at hendle ⊢
  refine ⟨fun s h0 hp hm => ?_, fun s h0 hp hm1 hm2 => ?_⟩
  · subst hp
    refine ⟨PS.ended { s with last := last, place := 1, out := s.out ++ l, left := 0, p := q + 32 + 8 * l.length } (q + 32 + 8 * l.length), rfl, rfl, rfl, rfl, fun e s' hr => ?_⟩
    refine Runs.step (.stored s q l.length last h0 hhd hq (by omega) a1 a2 hl) (by omega) ?_
    refine bytes_run hB hb l { s with last := last, left := l.length, place := 1, p := q + 32 } hc rfl rfl hl hbyte hm e s' ?_
    refine Runs.step (.bytes { s with last := last, place := 1, out := s.out ++ l, left := 0, p := q + 32 + 8 * l.length } rfl rfl hendle) (by simp) hr
  · subst hp
    obtain ⟨s', h5, h6⟩ := bytes_much hB hb l { s with last := last, left := l.length, place := 1, p := q + 32 } hc rfl rfl hl hbyte hm1 hm2
    exact ⟨s', Runs.step (.stored s q l.length last h0 hhd hq (by omega) a1 a2 hl) (by omega) h5, h6⟩
end Go.Proofs.YtbpahojchgpdnaaGreatDoor

namespace Go.Proofs.YtbpahojchgpdnaaGreatDoor
open Go.RowKit Go.Bel Go.Maps

theorem sym_blk {bs : List Bool} {B : List Nat} {lg p p1 : Nat} {M : Tab} {sym : Nat → List Bool} (hb : bs.length ≤ 8 * B.length) (hne : sym 256 ≠ []) (l : List Nat) (last : Bool)
    (hstep : ∀ s : PS, s.place = 0 → s.p = p → PStep B s { s with last := last, place := 2, tab := M, longest := lg, p := p1 }) (hsym : ∀ c ∈ l, c < 256 ∧ SymOk bs B lg M sym c ∧ sym c ≠ []) (hend : SymOk bs B lg M sym 256)
    (hf : BitsFrom bs p1 (l.flatMap sym ++ sym 256)) : BlkOk B p (p1 + (l.flatMap sym ++ sym 256).length) l last := by
  have hle := from_le hf.right hne hb
  have hcode := hend _ hf.right hle
  rw [List.length_append]
  rw [← Nat.add_assoc]
  refine ⟨fun s h0 hp hm => ?_, fun s h0 hp hm1 hm2 => ?_⟩
  · refine ⟨PS.ended { s with last := last, place := 2, tab := M, longest := lg, out := s.out ++ l, p := p1 + (l.flatMap sym).length } (p1 + (l.flatMap sym).length + (sym 256).length), rfl, rfl, rfl, rfl, fun e s' hr => ?_⟩
    refine Runs.step (hstep s h0 hp) (by omega) ?_
    refine syms_run hb l p1 { s with last := last, place := 2, tab := M, longest := lg, p := p1 } hsym rfl rfl rfl rfl hf.left hm e s' ?_
    exact Runs.step (.syms { s with last := last, place := 2, tab := M, longest := lg, out := s.out ++ l, p := p1 + (l.flatMap sym).length } _ rfl hcode) (by simp) hr
  · obtain ⟨s', h5, h6⟩ := syms_much hb l p1 { s with last := last, place := 2, tab := M, longest := lg, p := p1 } hsym rfl rfl rfl rfl hf.left hm1 hm2
    exact ⟨s', Runs.step (hstep s h0 hp) (by omega) h5, h6⟩

/- the first lengths that told tells -/
def firstL : List Nat := [4, 4, 4, 4, 4, 4, 4, 4, 4, 4, 4, 4, 4, 4, 4, 4, 0, 0, 0]
theorem firstL_may : mayB firstL = true := by decide
theorem firstL_le (i : Nat) : firstL[i]?.getD 0 ≤ 15 := by
  by_cases h : i < 19
  · have : ∀ j : Fin 19, firstL[j.val]?.getD 0 ≤ 15 := by decide
    exact this ⟨i, h⟩
  · rw [List.getElem?_eq_none (by simp [firstL]; omega)]; simp
theorem firstL_key : ∀ s : Fin 16, Bel.keyOf firstL s.val = 16 + s.val ∧ firstL[s.val]?.getD 0 = 4 := by decide

def fs2 : Nat → Nat → Nat
  | 0, _ => 0
  | k + 1, i => if i = orderList[k]?.getD 0 then firstNum k else fs2 k i
theorem fs2_all : (List.range 19).map (fs2 19) = firstL := by decide
theorem firsts_from {bs : List Bool} {B : List Nat} (hB : BitsIn bs B) (q : Nat) (h : BitsFrom bs q (firstBits 19)) : firstLens B q 19 = firstL := by
  have hk : ∀ k, k ≤ 19 → BitsFrom bs q (firstBits k) := by
    intro k hk i hi
    rw [firstBits_length] at hi
    have h1 := h i (by rw [firstBits_length]; omega)
    rw [h1]
    have : ∀ m, k ≤ m → (firstBits m)[i]? = (firstBits k)[i]? := by
      intro m hm
      induction m with
      | zero => have : k = 0 := by omega
                subst this; rfl
      | succ m ih =>
        by_cases e : k = m + 1
        · subst e; rfl
        · rw [firstBits_succ, List.getElem?_append_left (by rw [firstBits_length]; omega)]
          exact ih (by omega)
    exact this 19 hk
  have hn : ∀ k, k < 19 → numAt B (q + 3 * k) 3 = firstNum k := by
    intro k hk19
    have h1 := hk (k + 1) (by omega)
    rw [firstBits_succ] at h1
    have h2 := h1.right
    rw [firstBits_length] at h2
    rw [num_from hB _ _ 3 h2]
    apply Nat.mod_eq_of_lt
    unfold firstNum; split <;> omega
  have he : ∀ k, k ≤ 19 → ∀ i, fsTo B q k i = fs2 k i := by
    intro k
    induction k with
    | zero => intro _ i; rfl
    | succ k ih => intro hk19 i; rw [fsTo, fs2, hn k (by omega), ih (by omega)]
  rw [← fs2_all]
  unfold firstLens
  apply List.map_congr_left
  intro i _
  exact he 19 (by omega) i

def rowBits (L : List Nat) : List Bool := L.flatMap (codeBits · 4)
theorem rowBits_length (L : List Nat) : (rowBits L).length = 4 * L.length := by
  induction L with
  | nil => rfl
  | cons a L ih =>
    have e : rowBits (a :: L) = codeBits a 4 ++ rowBits L := by simp [rowBits]
    rw [e, List.length_append, codeBits_length, ih, List.length_cons]; omega
theorem row_from {bs : List Bool} (L : List Nat) : ∀ q, BitsFrom bs q (rowBits L) → ∀ i, i < L.length → BitsFrom bs (q + 4 * i) (codeBits (L[i]?.getD 0) 4) := by
  induction L with
  | nil => intro q _ i hi; simp at hi
  | cons a L ih =>
    intro q h i hi
    have e : rowBits (a :: L) = codeBits a 4 ++ rowBits L := by simp [rowBits]
    rw [e] at h
    cases i with
    | zero => simpa using h.left
    | succ i =>
      have h2 := h.right
      rw [codeBits_length] at h2
      have := ih (q + 4) h2 i (by simp at hi; omega)
      rw [show q + 4 * (i + 1) = q + 4 + 4 * i by omega]
      simpa using this

def toldRow (f : Nat → Bool) : List Nat := lens f ++ [0]
theorem toldRow_bits (f : Nat → Bool) : lensBits f 257 ++ codeBits 0 4 = rowBits (toldRow f) := by
  unfold toldRow rowBits lensBits lens
  rw [List.flatMap_append, List.flatMap_map]
  simp
theorem toldRow_take (f : Nat → Bool) : (toldRow f).take 257 = lens f := by
  unfold toldRow
  rw [List.take_append_of_le_length (by rw [lens_length]; omega), List.take_of_length_le (by rw [lens_length]; omega)]
theorem toldRow_drop (f : Nat → Bool) : (toldRow f).drop 257 = [0] := by
  unfold toldRow
  rw [List.drop_append_of_le_length (by rw [lens_length]; omega), List.drop_of_length_le (by rw [lens_length]; omega)]
  rfl
theorem toldRow_lt (f : Nat → Bool) (i : Nat) : (toldRow f)[i]?.getD 0 < 16 := by
  unfold toldRow
  by_cases h : i < 257
  · rw [List.getElem?_append_left (by rw [lens_length]; exact h)]
    have := lens_le f i; omega
  · rw [List.getElem?_append_right (by rw [lens_length]; omega)]
    by_cases h2 : i = 257
    · subst h2; simp [lens_length]
    · rw [List.getElem?_eq_none (by simp [lens_length]; omega)]; simp

theorem told_at {bs : List Bool} {B : List Nat} (hB : BitsIn bs B) (hb : bs.length ≤ 8 * B.length) (f : Nat → Bool) (h256 : f 256 = true) (p : Nat)
    (h : BitsFrom bs p (numBits 0 5 ++ numBits 0 5 ++ numBits 15 4 ++ firstBits 19 ++ rowBits (toldRow f))) : ToldAt B p (fun i => p + 71 + 4 * i) (toldRow f) := by
  have hrow := h.right
  have h4 := h.left
  have hfi := h4.right
  have h3 := h4.left
  have hn3 := h3.right
  have hn2 := h3.left.right
  have hn1 := h3.left.left
  have hle := from_le h (by simp [numBits]) hb
  simp only [List.length_append, numBits_length, firstBits_length, rowBits_length] at hrow hfi hn3 hn2 hn1 hle
  have htl : (toldRow f).length = 258 := by simp [toldRow, lens_length]
  have hfl := firsts_from hB (p + 14) hfi
  rw [htl] at hle
  refine ⟨by omega, ?_, ?_, ?_, ?_, by simp, htl, toldRow_lt f, ?_, ?_, ?_, ?_⟩
  · rw [num_from hB p 0 5 hn1]
  · rw [num_from hB (p + 5) 0 5 hn2]
  · rw [num_from hB (p + 10) 15 4 hn3]
  · rw [hfl]; exact firstL_may
  · intro i hi
    rw [hfl]
    have hri := row_from (toldRow f) (p + 71) hrow i (by omega)
    have hlt := toldRow_lt f i
    obtain ⟨x, hx⟩ : ∃ x, x = (toldRow f)[i]?.getD 0 := ⟨_, rfl⟩
    rw [← hx] at hri hlt ⊢
    have hk := firstL_key ⟨x, hlt⟩
    have := code_at hB firstL_le (show x < firstL.length by simp [firstL]; omega) hk.2 (by omega) hk.1 (by omega) firstL_may hri (by omega)
    simpa [Nat.mul_add, Nat.add_assoc] using this
  · rw [toldRow_take, lens_get f 256 (by omega)]
    have hn : need f 256 = true := by unfold need; rw [h256]; rfl
    have := (key_told f h256 256 (by omega) hn).2.2
    omega
  · rw [toldRow_take]; exact lens_may f h256
  · rw [toldRow_drop]; rfl

theorem told_blk {bs : List Bool} {B : List Nat} (hB : BitsIn bs B) (hb : bs.length ≤ 8 * B.length) (p : Nat) (l : List Nat) (last : Bool) (hc : ∀ c ∈ l, c < 256) (h : BitsFrom bs p (toldBits l last)) :
    BlkOk B p (p + (toldBits l last).length) l last := by
  have h256 : inText l 256 = true := rfl
  obtain ⟨f, hf⟩ : ∃ f, f = inText l := ⟨_, rfl⟩
  have e : toldBits l last = beginBits last 2 ++ ((numBits 0 5 ++ numBits 0 5 ++ numBits 15 4 ++ firstBits 19 ++ rowBits (toldRow f)) ++ (l.flatMap (symBits f) ++ symBits f 256)) := by
    rw [← toldRow_bits, hf]
    unfold toldBits textBits
    simp [List.append_assoc]
  rw [← hf] at h256
  rw [e] at h ⊢
  have hhd := head_from hB hb p 2 last (by omega) h.left
  have hr := h.right
  rw [beginBits_length] at hr
  have hta := told_at hB hb f h256 (p + 3) hr.left
  have hsy := hr.right
  have hln : (numBits 0 5 ++ numBits 0 5 ++ numBits 15 4 ++ firstBits 19 ++ rowBits (toldRow f)).length = 1103 := by
    simp only [List.length_append, numBits_length, firstBits_length, rowBits_length]; simp [toldRow, lens_length]
  rw [hln] at hsy
  have hsym : ∀ c, c < 257 → need f c = true → SymOk bs B (dealAll (lens f)).longest (dealAll (lens f)).tab (symBits f) c := by
    intro c hc257 hn p' hf' hp'
    have hk := key_told f h256 c hc257 hn
    unfold symBits at hf' hp' ⊢
    rw [codeBits_length] at hp' ⊢
    exact code_at hB (lens_le f) (by rw [lens_length]; exact hc257) (lens_get f c hc257) hk.2.2 hk.1 hk.2.1 (lens_may f h256) hf' hp'
  have hneed : ∀ c ∈ l, need f c = true := by
    intro c hcl
    have : f c = true := by rw [hf]; unfold inText; simp [hcl]
    unfold need; rw [this]; rfl
  have h6 : need f 256 = true := by unfold need; rw [h256]; rfl
  have hlen : p + (beginBits last 2 ++ ((numBits 0 5 ++ numBits 0 5 ++ numBits 15 4 ++ firstBits 19 ++ rowBits (toldRow f)) ++ (l.flatMap (symBits f) ++ symBits f 256))).length = p + 3 + 1103 + (l.flatMap (symBits f) ++ symBits f 256).length := by
    rw [List.length_append, List.length_append, beginBits_length, hln]; omega
  rw [hlen]
  have hstep : ∀ s : PS, s.place = 0 → s.p = p → PStep B s { s with last := last, place := 2, tab := (dealAll (lens f)).tab, longest := (dealAll (lens f)).longest, p := p + 3 + 1103 } := by
    intro s h0 hp
    subst hp
    have := PStep.told (B := B) s last (fun i => s.p + 3 + 71 + 4 * i) (toldRow f) h0 hhd hta
    rw [toldRow_take] at this
    exact this
  have hnil : ∀ c, c < 257 → need f c = true → symBits f c ≠ [] := by
    intro c hc257 hn e
    have hk := (key_told f h256 c hc257 hn).2.2
    have h9 : (symBits f c).length = Go.Bel.lenOf f c := by unfold symBits; rw [codeBits_length]
    rw [e] at h9
    simp at h9
    omega
  exact sym_blk hb (hnil 256 (by omega) h6) l last hstep (fun c hcl => ⟨hc c hcl, hsym c (by have := hc c hcl; omega) (hneed c hcl), hnil c (by have := hc c hcl; omega) (hneed c hcl)⟩) (hsym 256 (by omega) h6) hsy
end Go.Proofs.YtbpahojchgpdnaaGreatDoor

namespace Go.Proofs.YtbpahojchgpdnaaGreatDoor
open Go.RowKit Go.Bel Go.Maps

theorem fix_sym {bs : List Bool} {B : List Nat} (hB : BitsIn bs B) (c : Nat) (hc : c < 288) : SymOk bs B (dealAll fixLens).longest (dealAll fixLens).tab fixedBits c := by
  intro p hf hp
  have hs : c < fixLens.length := by rw [fixLens_length]; exact hc
  unfold fixedBits at hf hp ⊢
  by_cases h1 : c < 144
  · rw [if_pos h1] at hf hp ⊢
    rw [codeBits_length] at hp ⊢
    have hg : fixLens[c]?.getD 0 = 8 := by rw [fixLens_get, fixG, if_pos h1]
    refine code_at hB fix_le hs hg (by omega) ?_ (by omega) fix_may hf hp
    rw [Bel.keyOf, hg, show 8 - 1 = 7 from rfl, fix_nx7, fix_cnt8 c (by omega)]; omega
  rw [if_neg h1] at hf hp ⊢
  by_cases h2 : c < 256
  · rw [if_pos h2] at hf hp ⊢
    rw [codeBits_length] at hp ⊢
    have hg : fixLens[c]?.getD 0 = 9 := by rw [fixLens_get, fixG, if_neg h1, if_pos h2]
    refine code_at hB fix_le hs hg (by omega) ?_ (by omega) fix_may hf hp
    rw [Bel.keyOf, hg, show 9 - 1 = 8 from rfl, fix_nx8, fix_cnt9 c (by omega)]; omega
  rw [if_neg h2] at hf hp ⊢
  by_cases h3 : c < 280
  · rw [if_pos h3] at hf hp ⊢
    rw [codeBits_length] at hp ⊢
    have hg : fixLens[c]?.getD 0 = 7 := by rw [fixLens_get, fixG, if_neg h1, if_neg h2, if_pos h3]
    refine code_at hB fix_le hs hg (by omega) ?_ (by omega) fix_may hf hp
    rw [Bel.keyOf, hg, show 7 - 1 = 6 from rfl, fix_nx6, fix_cnt7 c (by omega)]; omega
  · rw [if_neg h3] at hf hp ⊢
    rw [codeBits_length] at hp ⊢
    have hg : fixLens[c]?.getD 0 = 8 := by rw [fixLens_get, fixG, if_neg h1, if_neg h2, if_neg h3, if_pos hc]
    refine code_at hB fix_le hs hg (by omega) ?_ (by omega) fix_may hf hp
    rw [Bel.keyOf, hg, show 8 - 1 = 7 from rfl, fix_nx7, fix_cnt8 c (by omega)]; omega

theorem fixedBits_ne (c : Nat) : fixedBits c ≠ [] := by
  intro e
  have : (fixedBits c).length = 0 := by rw [e]; rfl
  unfold fixedBits at this
  split at this
  · rw [codeBits_length] at this; omega
  · split at this
    · rw [codeBits_length] at this; omega
    · split at this <;> (rw [codeBits_length] at this; omega)

theorem lit_blk {bs : List Bool} {B : List Nat} (hB : BitsIn bs B) (hb : bs.length ≤ 8 * B.length) (p : Nat) (l : List Nat) (last : Bool) (hc : ∀ c ∈ l, c < 256) (h : BitsFrom bs p (litBits l last)) :
    BlkOk B p (p + (litBits l last).length) l last := by
  have e : litBits l last = beginBits last 1 ++ (l.flatMap fixedBits ++ fixedBits 256) := by unfold litBits fixedAll; simp [List.append_assoc]
  rw [e] at h ⊢
  have hhd := head_from hB hb p 1 last (by omega) h.left
  have hr := h.right
  rw [beginBits_length] at hr
  rw [List.length_append, beginBits_length, ← Nat.add_assoc]
  refine sym_blk hb (fixedBits_ne 256) l last ?_ (fun c hcl => ⟨hc c hcl, fix_sym hB c (by have := hc c hcl; omega), fixedBits_ne c⟩) (fix_sym hB 256 (by omega)) hr
  intro s h0 hp
  subst hp
  exact .fixed s last h0 hhd
end Go.Proofs.YtbpahojchgpdnaaGreatDoor
