/- Proved here: from the bits that the writer writes, the decoder's steps read the bytes again: symbols one after the other, stored bytes, whole blocks. -/
import Derived.Test.YtbpahojchgpdnaaGreatDoorRun
namespace Go.Proofs.YtbpahojchgpdnaaGreatDoor
open Go.RowKit Go.Bel Go.Maps
theorem codeTo_prefix {bs : List Bool} {p x n j : Nat} (h : BitsFrom bs p (codeBits x n)) (hj : j ≤ n) : BitsFrom bs p (codeTo x n j) := fun i hi => by
 rw [codeTo_length] at hi
 have := h i (by rw [codeBits_length]; omega)
 rw [this]
 simp [codeBits, codeTo, hi, show i < n by omega]
theorem code_at {L : List Nat} {bs : List Bool} {B : List Nat} {s x n p : Nat} (hB : BitsIn bs B) (hL : ∀ i : Nat, L[i]?.getD 0 ≤ 15) (hs : s < L.length) (hn : L[s]?.getD 0 = n) (h1 : 1 ≤ n) (hk : Bel.keyOf L s = 2 ^ n + x) (hx : x < 2 ^ n) (hm : mayB L = true) (hb : BitsFrom bs p (codeBits x n)) (hp : p + n ≤ 8 * B.length) :
  CodeAt (dealAll L).longest (dealAll L).tab B p (p + n) s := by
 have hl := hL s
 have e : p + n - p = n := by omega
 refine ⟨by omega, ?_, hp, ?_, ?_⟩
 ·rw [e, ← hn]; exact longest_ge L 15 s hs (by omega) hl
 ·rw [e, key_from hB p x n n hx (Nat.le_refl _) hb, Nat.sub_self, Nat.pow_zero, Nat.div_one, ← hk]
  exact found L s hs (by omega) hl
 ·intro j hj1 hj2
  rw [e] at hj2
  rw [key_from hB p x n j hx (by omega) (codeTo_prefix hb (by omega)), ← hk, ← hn]
  exact prefix_none L (room L hL hm) s j hs (by omega) hl hj1 (by omega)
def Runs (B : List Nat) (s : PS) (e : Nat) (s' : PS) : Prop := ∃ n, PRun B n s e s'
theorem Runs.step {B : List Nat} {s s1 s' : PS} {e : Nat} (h : PStep B s s1) (h3 : s.place ≠ 3) (k : Runs B s1 e s') : Runs B s e s' := by
 obtain ⟨n, hn⟩ := k
 exact ⟨n + 1, .step n s s1 s' e h h3 hn⟩
theorem Runs.much {B : List Nat} {s s' : PS} (h : PMuch B s s') (h3 : s.place ≠ 3) : Runs B s 11 s' := ⟨1, .much s s' h h3⟩
theorem from_le {bs : List Bool} {B : List Nat} {p : Nat} {l : List Bool} (h : BitsFrom bs p l) (hl : l ≠ []) (hb : bs.length ≤ 8 * B.length) : p + l.length ≤ 8 * B.length := by
 have h0 : 0 < l.length := by cases l <;> simp_all
 have := h (l.length - 1) (by omega)
 rw [List.getElem?_eq_getElem (show l.length - 1 < l.length by omega)] at this
 have h2 := (List.getElem?_eq_some_iff.1 this).1
 omega
end Go.Proofs.YtbpahojchgpdnaaGreatDoor
namespace Go.Proofs.YtbpahojchgpdnaaGreatDoor
open Go.RowKit Go.Bel Go.Maps
structure BlkOk (B : List Nat) (p q : Nat) (l : List Nat) (last : Bool) : Prop where
 fits : ∀ s : PS, s.place = 0 → s.p = p → s.out.length + l.length ≤ s.most → ∃ s1 : PS, s1.place = (if last then 3 else 0) ∧ s1.out = s.out ++ l ∧ s1.most = s.most ∧ s1.p = (if last then (q + 7) / 8 * 8 else q) ∧ ∀ e s', Runs B s1 e s' → Runs B s e s'
 much : ∀ s : PS, s.place = 0 → s.p = p → s.out.length ≤ s.most → s.most < s.out.length + l.length → ∃ s' : PS, Runs B s 11 s' ∧ s'.out = s.out ++ l.take (s.most - s.out.length)
theorem head_from {bs : List Bool} {B : List Nat} (hB : BitsIn bs B) (hb : bs.length ≤ 8 * B.length) (p kind : Nat) (last : Bool) (hk : kind < 4) (h : BitsFrom bs p (beginBits last kind)) : HeadAt B p last kind := by
 have h1 : BitsFrom bs p [last] := BitsFrom.left (b := numBits kind 2) h
 have h2 : BitsFrom bs (p + 1) (numBits kind 2) := BitsFrom.right (a := [last]) h
 have hle := from_le h (by simp [beginBits]) hb
 rw [beginBits_length] at hle
 refine ⟨hle, ?_, ?_⟩
 ·have := h1 0 (by simp)
  rw [Nat.add_zero] at this
  rw [hB.bit, this]
  rfl
 ·rw [num_from hB (p + 1) kind 2 h2]
  exact Nat.mod_eq_of_lt (by omega)
theorem bytes_run {bs : List Bool} {B : List Nat} (hB : BitsIn bs B) (hb : bs.length ≤ 8 * B.length) (l : List Nat) :
  ∀ (s : PS), (∀ c ∈ l, c < 256) → s.place = 1 → s.left = l.length → l.length ≤ 65535 → BitsFrom bs s.p (byteBits l) → s.out.length + l.length ≤ s.most →
   ∀ e s', Runs B { s with out := s.out ++ l, left := 0, p := s.p + 8 * l.length } e s' → Runs B s e s' := by
 induction l with
 | nil =>
  intro s _ _ hl _ _ _ e s' h
  have : ({ s with out := s.out ++ [], left := 0, p := s.p + 8 * ([] : List Nat).length } : PS) = s := by cases s; simp_all
  rw [this] at h
  exact h
 | cons c l ih =>
  intro s hc hpl hl hlm hf hm e s' h
  have hf' : BitsFrom bs s.p (numBits c 8 ++ byteBits l) := by simpa [byteBits] using hf
  have hle := from_le hf'.left (by simp [numBits]) hb
  rw [numBits_length] at hle
  have hn : numAt B s.p 8 = c := by rw [num_from hB s.p c 8 hf'.left]; exact Nat.mod_eq_of_lt (hc c (by simp))
  have hr := hf'.right
  rw [numBits_length] at hr
  simp only [List.length_cons] at hl hm hlm
  refine Runs.step (.byte s hpl (by omega) (by omega) hle (by omega)) (by omega) ?_
  rw [hn]
  refine ih { s with out := s.out ++ [c], left := s.left - 1, p := s.p + 8 } (fun x hx => hc x (by simp [hx])) hpl (by show s.left - 1 = _; omega) (by omega) hr (by show (s.out ++ [c]).length + l.length ≤ s.most; simp; omega) e s' ?_
  have e1 : (s.out ++ [c]) ++ l = s.out ++ c :: l := by simp
  show Runs B { s with out := (s.out ++ [c]) ++ l, left := 0, p := s.p + 8 + 8 * l.length } e s'
  rw [e1, show s.p + 8 + 8 * l.length = s.p + 8 * (c :: l).length by simp; omega]
  exact h
theorem bytes_much {bs : List Bool} {B : List Nat} (hB : BitsIn bs B) (hb : bs.length ≤ 8 * B.length) (l : List Nat) :
  ∀ (s : PS), (∀ c ∈ l, c < 256) → s.place = 1 → s.left = l.length → l.length ≤ 65535 → BitsFrom bs s.p (byteBits l) → s.out.length ≤ s.most → s.most < s.out.length + l.length →
   ∃ s', Runs B s 11 s' ∧ s'.out = s.out ++ l.take (s.most - s.out.length) := by
 induction l with
 | nil => intro s _ _ _ _ _ h1 h2; simp at h2; omega
 | cons c l ih =>
  intro s hc hpl hl hlm hf h1 h2
  have hf' : BitsFrom bs s.p (numBits c 8 ++ byteBits l) := by simpa [byteBits] using hf
  have hle := from_le hf'.left (by simp [numBits]) hb
  rw [numBits_length] at hle
  have hn : numAt B s.p 8 = c := by rw [num_from hB s.p c 8 hf'.left]; exact Nat.mod_eq_of_lt (hc c (by simp))
  have hr := hf'.right
  rw [numBits_length] at hr
  simp only [List.length_cons] at hl h2 hlm
  by_cases hrm : s.out.length = s.most
  ·exact ⟨_, Runs.much (.byte s hpl (by omega) (by omega) hle hrm) (by omega), by simp [hrm]⟩
  ·have hst := PStep.byte (B := B) s hpl (by omega) (by omega) hle (by omega)
   rw [hn] at hst
   obtain ⟨s', h3, h4⟩ := ih { s with out := s.out ++ [c], left := s.left - 1, p := s.p + 8 } (fun x hx => hc x (by simp [hx])) hpl (by show s.left - 1 = _; omega) (by omega) hr (by show (s.out ++ [c]).length ≤ s.most; simp; omega) (by show s.most < (s.out ++ [c]).length + l.length; simp; omega)
   refine ⟨s', Runs.step hst (by omega) h3, ?_⟩
   rw [h4]
   obtain ⟨m, hm⟩ : ∃ m, s.most - s.out.length = m + 1 := ⟨s.most - s.out.length - 1, by omega⟩
   show (s.out ++ [c]) ++ l.take (s.most - (s.out ++ [c]).length) = _
   rw [hm, List.length_append, List.length_cons, List.length_nil, show s.most - (s.out.length + (0 + 1)) = m by omega]
   simp
theorem stored_blk {bs : List Bool} {B : List Nat} (hB : BitsIn bs B) (hb : bs.length ≤ 8 * B.length) (p : Nat) (l : List Nat) (last : Bool) (hc : ∀ c ∈ l, c < 256) (hl : l.length ≤ 65535) (h : BitsFrom bs p (storedBits p l last)) :
  BlkOk B p (p + (storedBits p l last).length) l last := by
 obtain ⟨q, hq⟩ : ∃ q, q = (p + 3 + 7) / 8 * 8 := ⟨_, rfl⟩
 have e1 : (padBits (p + 3)).length = q - (p + 3) := by simp [padBits]; omega
 have hlen : (storedBits p l last).length = q - p + 32 + 8 * l.length := by
  unfold storedBits
  simp only [List.length_append, beginBits_length, numBits_length, byteBits_length, e1]
  omega
 have hbyte := h.right (a := beginBits last 0 ++ padBits (p + 3) ++ numBits l.length 16 ++ numBits (65535 - l.length) 16) (b := byteBits l)
 have h4 := BitsFrom.left (a := beginBits last 0 ++ padBits (p + 3) ++ numBits l.length 16 ++ numBits (65535 - l.length) 16) (b := byteBits l) h
 have hn2 := BitsFrom.right (a := beginBits last 0 ++ padBits (p + 3) ++ numBits l.length 16) (b := numBits (65535 - l.length) 16) h4
 have h3 := BitsFrom.left (a := beginBits last 0 ++ padBits (p + 3) ++ numBits l.length 16) (b := numBits (65535 - l.length) 16) h4
 have hn1 := BitsFrom.right (a := beginBits last 0 ++ padBits (p + 3)) (b := numBits l.length 16) h3
 have hhd := head_from hB hb p 0 last (by omega) (BitsFrom.left (a := beginBits last 0) (b := padBits (p + 3)) (BitsFrom.left (a := beginBits last 0 ++ padBits (p + 3)) (b := numBits l.length 16) h3))
 have hle := from_le h4 (by simp [beginBits]) hb
 simp only [List.length_append, beginBits_length, numBits_length, e1] at hbyte hn2 hn1 hle
 rw [show p + (3 + (q - (p + 3))) = q by omega] at hn1
 rw [show p + (3 + (q - (p + 3)) + 16) = q + 16 by omega] at hn2
 rw [show p + (3 + (q - (p + 3)) + 16 + 16) = q + 32 by omega] at hbyte
 have a1 : numAt B q 16 = l.length := by rw [num_from hB q _ 16 hn1]; exact Nat.mod_eq_of_lt (by omega)
 have a2 : numAt B (q + 16) 16 = 65535 - l.length := by rw [num_from hB (q + 16) _ 16 hn2]; exact Nat.mod_eq_of_lt (by omega)
 have hend : p + (storedBits p l last).length = q + 32 + 8 * l.length := by rw [hlen]; omega
 have hendle := from_le h (by simp [storedBits, beginBits]) hb
 rw [hend] at hendle ⊢
 refine ⟨fun s h0 hp hm => ?_, fun s h0 hp hm1 hm2 => ?_⟩
 ·subst hp
  refine ⟨PS.ended { s with last := last, place := 1, out := s.out ++ l, left := 0, p := q + 32 + 8 * l.length } (q + 32 + 8 * l.length), rfl, rfl, rfl, rfl, fun e s' hr => ?_⟩
  refine Runs.step (.stored s q l.length last h0 hhd hq (by omega) a1 a2 hl) (by omega) ?_
  refine bytes_run hB hb l { s with last := last, left := l.length, place := 1, p := q + 32 } hc rfl rfl hl hbyte hm e s' ?_
  refine Runs.step (.bytes { s with last := last, place := 1, out := s.out ++ l, left := 0, p := q + 32 + 8 * l.length } rfl rfl hendle) (by simp) hr
 ·subst hp
  obtain ⟨s', h5, h6⟩ := bytes_much hB hb l { s with last := last, left := l.length, place := 1, p := q + 32 } hc rfl rfl hl hbyte hm1 hm2
  exact ⟨s', Runs.step (.stored s q l.length last h0 hhd hq (by omega) a1 a2 hl) (by omega) h5, h6⟩
end Go.Proofs.YtbpahojchgpdnaaGreatDoor
