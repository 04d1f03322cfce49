/- Proved here: lengths that may be leave room for all codes; the longest code; how bits that were written are read as numbers and codes; nothing of the program. -/
import Derived.Test.YtnoemlailgbpoaaDoorCanon
import Derived.Test.YtnoemlailgbpoaaDoorBitsPure
namespace Go.Bel
open Go Go.RowKit

def wTo (L : List Nat) (l : Nat) : Nat → Nat
  | 0 => 0
  | k + 1 => wTo L l k + (if 1 ≤ L[k]?.getD 0 ∧ L[k]?.getD 0 ≤ l then 2 ^ (l - L[k]?.getD 0) else 0)
theorem wTo_succ (L : List Nat) (l k : Nat) : wTo L (l + 1) k = 2 * wTo L l k + cntEq L (l + 1) k := by
  induction k with
  | zero => simp [wTo, cntEq]
  | succ k ih =>
    rw [wTo, wTo, cntEq, ih]
    by_cases h1 : L[k]?.getD 0 = l + 1
    · rw [if_pos h1, if_pos (by omega), if_neg (by omega), h1]; simp; omega
    · by_cases h2 : 1 ≤ L[k]?.getD 0 ∧ L[k]?.getD 0 ≤ l
      · rw [if_neg h1, if_pos h2, if_pos (by omega), show l + 1 - L[k]?.getD 0 = (l - L[k]?.getD 0) + 1 by omega, Nat.pow_succ]; omega
      · rw [if_neg h1, if_neg h2, if_neg (by omega)]; omega
theorem nx_eq (L : List Nat) (l : Nat) : nx L l = 2 ^ l + wTo L l L.length := by
  induction l with
  | zero =>
    have : ∀ k, wTo L 0 k = 0 := by
      intro k
      induction k with
      | zero => rfl
      | succ k ih => rw [wTo, ih, if_neg (by omega)]
    simp [nx, this]
  | succ l ih => rw [nx, ih, wTo_succ, Nat.pow_succ]; omega
theorem wTo_wgt (L : List Nat) (h : ∀ i : Nat, L[i]?.getD 0 ≤ 15) (k : Nat) : wTo L 15 k = wgtTo L k := by
  induction k with
  | zero => rfl
  | succ k ih =>
    rw [wTo, wgtTo, ih]
    by_cases h1 : 0 < L[k]?.getD 0
    · rw [if_pos h1, if_pos ⟨h1, h k⟩, show (32768 : Nat) = 2 ^ 15 by rfl, Nat.pow_div (h k) (by omega)]
    · rw [if_neg h1, if_neg (by omega)]
theorem room (L : List Nat) (h : ∀ i : Nat, L[i]?.getD 0 ≤ 15) (hm : mayB L = true) : nx L 15 ≤ 65536 := by
  rw [nx_eq, wTo_wgt L h]
  unfold mayB at hm
  simp only [Bool.or_eq_true, Bool.and_eq_true, beq_iff_eq] at hm
  omega

theorem dealIn_longest (L : List Nat) (l : Nat) (st : Dealt) (k s : Nat) (hs : s < k) (hl : L[s]?.getD 0 = l) : (dealIn L l st k).longest = l := by
  induction k with
  | zero => omega
  | succ k ih =>
    rw [dealIn]
    split
    · rfl
    · rename_i hk
      by_cases hsk : s = k
      · subst hsk; exact absurd hl hk
      · exact ih (by omega)
theorem dealIn_longest_or (L : List Nat) (l : Nat) (st : Dealt) (k : Nat) : (dealIn L l st k).longest = st.longest ∨ (dealIn L l st k).longest = l := by
  induction k with
  | zero => exact .inl rfl
  | succ k ih =>
    rw [dealIn]
    split
    · exact .inr rfl
    · exact ih
theorem longest_ge (L : List Nat) (l s : Nat) (hs : s < L.length) (h1 : 1 ≤ L[s]?.getD 0) (hl : L[s]?.getD 0 ≤ l) : L[s]?.getD 0 ≤ (dealTo L l).longest := by
  induction l with
  | zero => omega
  | succ l ih =>
    rw [dealTo]
    by_cases hh : L[s]?.getD 0 = l + 1
    · rw [dealIn_longest L (l + 1) _ L.length s hs hh]; omega
    · have h2 := ih (by omega)
      rcases dealIn_longest_or L (l + 1) ⟨2 * (dealTo L l).next, (dealTo L l).tab, (dealTo L l).longest⟩ L.length with h | h
      · rw [h]; exact h2
      · rw [h]; omega

/- the bits l stand in bs from place p on -/
def BitsFrom (bs : List Bool) (p : Nat) (l : List Bool) : Prop := ∀ i, i < l.length → bs[p + i]? = l[i]?

theorem BitsFrom.left {bs : List Bool} {p : Nat} {a b : List Bool} (h : BitsFrom bs p (a ++ b)) : BitsFrom bs p a := fun i hi => by
  have := h i (by simp; omega)
  rw [this, List.getElem?_append_left hi]
theorem BitsFrom.right {bs : List Bool} {p : Nat} {a b : List Bool} (h : BitsFrom bs p (a ++ b)) : BitsFrom bs (p + a.length) b := fun i hi => by
  have := h (a.length + i) (by simp; omega)
  rw [Nat.add_assoc, this, List.getElem?_append_right (by omega)]
  simp

theorem bit_from {bs : List Bool} {B : List Nat} (hB : BitsIn bs B) {p : Nat} {l : List Bool} (h : BitsFrom bs p l) (i : Nat) (hi : i < l.length) (x : Nat) (hx : l[i]? = some (decide (x % 2 = 1))) : bitAt B (p + i) = x % 2 := by
  rw [hB.bit, h i hi, hx]
  rcases Nat.mod_two_eq_zero_or_one x with e | e <;> simp [e]

theorem num_from {bs : List Bool} {B : List Nat} (hB : BitsIn bs B) (p x n : Nat) (h : BitsFrom bs p (numBits x n)) : numAt B p n = x % 2 ^ n := by
  induction n with
  | zero => simp [numAt, Nat.mod_one]
  | succ n ih =>
    have e := numBits_succ x n
    rw [e] at h
    have h1 := ih h.left
    have h2 := h.right
    rw [numBits_length] at h2
    have h3 := bit_from hB h2 0 (by simp) (x / 2 ^ n) rfl
    rw [Nat.add_zero] at h3
    rw [numAt, h1, h3, Nat.pow_succ, Nat.mod_mul]
    rw [Nat.mul_comm]

theorem key_from {bs : List Bool} {B : List Nat} (hB : BitsIn bs B) (p x n k : Nat) (hx : x < 2 ^ n) (hk : k ≤ n) (h : BitsFrom bs p (codeTo x n k)) : keyAt B p k = (2 ^ n + x) / 2 ^ (n - k) := by
  induction k with
  | zero =>
    rw [keyAt, Nat.sub_zero]
    have : (2 ^ n + x) / 2 ^ n = 1 := by
      rw [Nat.add_div_left _ (Nat.pow_pos (by omega)), Nat.div_eq_of_lt hx]
    rw [this]
  | succ k ih =>
    have e := codeTo_succ x n k
    rw [e] at h
    have h1 := ih (by omega) h.left
    have h2 := h.right
    rw [codeTo_length] at h2
    have h3 := bit_from hB h2 0 (by simp) (x / 2 ^ (n - 1 - k)) rfl
    rw [Nat.add_zero] at h3
    rw [keyAt, h1, h3]
    obtain ⟨m, hm⟩ : ∃ m, n - k = m + 1 := ⟨n - k - 1, by omega⟩
    have hm2 : n - 1 - k = m := by omega
    have hm3 : n - (k + 1) = m := by omega
    rw [hm, hm2, hm3]
    have e2 : (2 ^ n + x) / 2 ^ (m + 1) = (2 ^ n + x) / 2 ^ m / 2 := by rw [Nat.pow_succ, Nat.div_div_eq_div_mul]
    have e3 : (2 ^ n + x) / 2 ^ m % 2 = x / 2 ^ m % 2 := by
      have : 2 ^ n = 2 ^ m * (2 * 2 ^ k) := by
        rw [show n = m + (1 + k) by omega, Nat.pow_add, Nat.pow_add]
      rw [this, Nat.mul_add_div (Nat.pow_pos (by omega)), Nat.add_mod, Nat.mul_mod_right, Nat.zero_add, Nat.mod_mod]
    rw [e2, ← e3]
    omega
end Go.Bel
