/- Proved here: the lengths that the writer's told gives may be, and its codes are those that are dealt out for them; nothing of the program. -/
import Derived.Test.YtnoemlailgbpoaaDoorCanon2
import Derived.Test.YtnoemlailgbpoaaDoorToldPure
namespace Go.Bel
open Go Go.RowKit

def lens (f : Nat → Bool) : List Nat := (List.range 257).map (lenOf f)
theorem lens_length (f : Nat → Bool) : (lens f).length = 257 := by simp [lens]
theorem lens_get (f : Nat → Bool) (i : Nat) (h : i < 257) : (lens f)[i]?.getD 0 = lenOf f i := by simp [lens, h]
theorem lens_le (f : Nat → Bool) (i : Nat) : (lens f)[i]?.getD 0 ≤ 15 := by
  by_cases h : i < 257
  · rw [lens_get f i h]; have := lenOf_le f i; omega
  · rw [List.getElem?_eq_none (by rw [lens_length]; omega)]; simp

theorem need_ne (f : Nat → Bool) (h1 : ¬ manyTo f 257 = 1) (k : Nat) : manyTo (need f) k = manyTo f k := by
  have hn : ∀ i, need f i = f i := fun i => by
    have e : (manyTo f 257 == 1) = false := by simpa using h1
    unfold need; rw [e]; simp
  induction k with
  | zero => rfl
  | succ k ih => rw [manyTo, manyTo, ih, hn]
theorem need_eq (f : Nat → Bool) (h1 : manyTo f 257 = 1) (h0 : f 0 = false) (k : Nat) : manyTo (need f) (k + 1) = manyTo f (k + 1) + 1 := by
  have hn : ∀ i, need f i = (f i || i == 0) := fun i => by unfold need; rw [h1]; simp
  induction k with
  | zero =>
    have a : manyTo (need f) 1 = 1 := by simp [manyTo, hn]
    have b : manyTo f 1 = 0 := by simp [manyTo, h0]
    rw [a, b]
  | succ k ih =>
    have e : (k + 1 == 0) = false := by simp
    have a : manyTo (need f) (k + 1 + 1) = manyTo (need f) (k + 1) + (if need f (k + 1) then 1 else 0) := rfl
    have b : manyTo f (k + 1 + 1) = manyTo f (k + 1) + (if f (k + 1) then 1 else 0) := rfl
    rw [a, b, ih, hn, e, Bool.or_false]
    omega
theorem manyTo_two (f : Nat → Bool) (h0 : f 0 = true) (h : f 256 = true) : 2 ≤ manyTo f 257 := by
  have : ∀ k, 1 ≤ k → k ≤ 256 → 1 ≤ manyTo f k := fun k h1 h2 => manyTo_pos f k 0 (by omega) h0
  have h3 := this 256 (by omega) (by omega)
  rw [manyTo, if_pos h]
  omega
theorem rank_all (f : Nat → Bool) (h : f 256 = true) : rank f 257 = manyOf f := by
  unfold rank manyOf
  by_cases h1 : manyTo f 257 = 1
  · have hf : f 0 = false := by
      cases hf : f 0 with
      | false => rfl
      | true => have := manyTo_two f hf h; omega
    rw [if_pos h1, need_eq f h1 hf, h1]
  · rw [if_neg h1, need_ne f h1]
theorem manyOf_ge (f : Nat → Bool) (h : f 256 = true) : 2 ≤ manyOf f := by
  have := manyTo_pos f 257 256 (by omega) h
  unfold manyOf; split <;> omega
theorem shortLen_bd (f : Nat → Bool) (h : f 256 = true) : 1 ≤ shortLen f ∧ 2 ^ shortLen f ≤ manyOf f ∧ manyOf f < 2 ^ (shortLen f + 1) := by
  have h2 := manyOf_ge f h
  have h0 : manyOf f ≠ 0 := by omega
  refine ⟨?_, ?_, ?_⟩
  · exact (Nat.le_log2 h0).2 (by omega)
  · exact (Nat.le_log2 h0).1 (Nat.le_refl _)
  · exact (Nat.log2_lt h0).1 (Nat.lt_succ_self _)

theorem cnt_short (f : Nat → Bool) (h : f 256 = true) (s : Nat) (hs : s ≤ 257) : cntEq (lens f) (shortLen f) s = min (rank f s) (shortMany f) ∧ cntEq (lens f) (shortLen f + 1) s = rank f s - shortMany f := by
  have hb := shortLen_bd f h
  induction s with
  | zero => simp [cntEq, rank, manyTo]
  | succ s ih =>
    obtain ⟨i1, i2⟩ := ih (by omega)
    rw [cntEq, cntEq, i1, i2, lens_get f s (by omega), rank_succ]
    unfold lenOf
    by_cases hn : need f s = true
    · rw [if_pos hn, if_pos hn]
      by_cases hr : rank f s < shortMany f
      · rw [if_pos hr, if_pos rfl, if_neg (by omega)]; omega
      · rw [if_neg hr, if_neg (by omega), if_pos rfl]; omega
    · rw [if_neg hn, if_neg hn, if_neg (by omega), if_neg (by omega)]; omega
theorem cnt_other (f : Nat → Bool) (l : Nat) (h1 : 1 ≤ l) (hl : l ≠ shortLen f) (hl2 : l ≠ shortLen f + 1) (s : Nat) (hs : s ≤ 257) : cntEq (lens f) l s = 0 := by
  induction s with
  | zero => rfl
  | succ s ih =>
    rw [cntEq, ih (by omega), lens_get f s (by omega)]
    unfold lenOf
    split
    · split
      · rw [if_neg (by omega)]
      · rw [if_neg (by omega)]
    · rw [if_neg (by omega)]
theorem nx_low (f : Nat → Bool) (l : Nat) (hl : l < shortLen f) : nx (lens f) l = 2 ^ l := by
  induction l with
  | zero => rfl
  | succ l ih => rw [nx, ih (by omega), cnt_other f (l + 1) (by omega) (by omega) (by omega) _ (by rw [lens_length]; omega), Nat.pow_succ]; omega
theorem nx_short (f : Nat → Bool) (h : f 256 = true) : nx (lens f) (shortLen f) = 2 ^ shortLen f + shortMany f := by
  have hb := shortLen_bd f h
  obtain ⟨n, hn⟩ : ∃ n, shortLen f = n + 1 := ⟨shortLen f - 1, by omega⟩
  have hc := (cnt_short f h 257 (by omega)).1
  rw [rank_all f h] at hc
  have hsm : shortMany f ≤ manyOf f := by
    unfold shortMany
    rw [Nat.pow_succ]
    omega
  rw [hn] at hc ⊢
  rw [nx, nx_low f n (by omega), lens_length, hc, Nat.pow_succ]
  omega
theorem nx_long (f : Nat → Bool) (h : f 256 = true) : nx (lens f) (shortLen f + 1) = 2 ^ (shortLen f + 2) := by
  have hb := shortLen_bd f h
  have hc := (cnt_short f h 257 (by omega)).2
  rw [rank_all f h] at hc
  have e : shortMany f = 2 ^ (shortLen f + 1) - manyOf f := rfl
  rw [nx, nx_short f h, lens_length, hc, show shortLen f + 2 = shortLen f + 1 + 1 from rfl, Nat.pow_succ 2 (shortLen f + 1), Nat.pow_succ]
  rw [Nat.pow_succ] at e hb
  omega
theorem nx_high (f : Nat → Bool) (h : f 256 = true) (k : Nat) : nx (lens f) (shortLen f + 1 + k) = 2 ^ (shortLen f + 2 + k) := by
  induction k with
  | zero => exact nx_long f h
  | succ k ih =>
    rw [show shortLen f + 1 + (k + 1) = (shortLen f + 1 + k) + 1 from rfl, nx, ih, cnt_other f _ (by omega) (by omega) (by omega) _ (by rw [lens_length]; omega), show shortLen f + 2 + (k + 1) = (shortLen f + 2 + k) + 1 from rfl, Nat.pow_succ]
    omega
theorem lens_may (f : Nat → Bool) (h : f 256 = true) : mayB (lens f) = true := by
  have h8 := shortLen_le f
  have h1 := nx_high f h (14 - shortLen f)
  rw [show shortLen f + 1 + (14 - shortLen f) = 15 by omega, show shortLen f + 2 + (14 - shortLen f) = 16 by omega, nx_eq, wTo_wgt (lens f) (lens_le f)] at h1
  have h2 : wgtTo (lens f) (lens f).length = 32768 := by omega
  unfold mayB
  rw [h2]
  rfl
theorem key_told (f : Nat → Bool) (h : f 256 = true) (s : Nat) (hs : s < 257) (hn : need f s = true) : keyOf (lens f) s = 2 ^ lenOf f s + codeOf f s ∧ codeOf f s < 2 ^ lenOf f s ∧ 1 ≤ lenOf f s := by
  have hb := shortLen_bd f h
  obtain ⟨c1, c2⟩ := cnt_short f h s (by omega)
  have hrk : rank f s < manyOf f := by
    rw [← rank_all f h]
    have : ∀ k, s < k → rank f s < rank f k := by
      intro k
      induction k with
      | zero => omega
      | succ k ih =>
        intro hk
        rw [rank_succ]
        by_cases e : s = k
        · subst e; rw [if_pos hn]; omega
        · have := ih (by omega); omega
    exact this 257 hs
  have e : shortMany f = 2 ^ (shortLen f + 1) - manyOf f := rfl
  unfold keyOf
  rw [lens_get f s hs]
  by_cases hr : rank f s < shortMany f
  · have el : lenOf f s = shortLen f := by rw [lenOf, if_pos hn, if_pos hr]
    have ec : codeOf f s = rank f s := by rw [codeOf, if_pos hn, if_pos hr]
    rw [el, ec, c1, nx_low f _ (by omega)]
    obtain ⟨n, hn2⟩ : ∃ n, shortLen f = n + 1 := ⟨shortLen f - 1, by omega⟩
    rw [hn2] at hb e ⊢
    rw [Nat.add_sub_cancel]
    rw [Nat.pow_succ 2 (n + 1)] at e hb
    rw [Nat.pow_succ] at e hb ⊢
    omega
  · have el : lenOf f s = shortLen f + 1 := by rw [lenOf, if_pos hn, if_neg hr]
    have ec : codeOf f s = shortMany f + rank f s := by rw [codeOf, if_pos hn, if_neg hr]
    rw [el, ec, c2, Nat.add_sub_cancel, nx_short f h]
    rw [Nat.pow_succ] at e hb ⊢
    omega
end Go.Bel
