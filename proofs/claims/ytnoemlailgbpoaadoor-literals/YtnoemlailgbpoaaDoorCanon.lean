/- Proved here: which code each symbol gets, and that no code begins another; nothing of the program. -/
import Derived.Test.YtnoemlailgbpoaaDoorCodesPure
namespace Go.Bel
open Go Go.RowKit

/- how many of the first k lengths are l -/
def cntEq (L : List Nat) (l : Nat) : Nat → Nat
  | 0 => 0
  | k + 1 => cntEq L l k + (if L[k]?.getD 0 = l then 1 else 0)
theorem cntEq_mono (L : List Nat) (l : Nat) {a b : Nat} (h : a ≤ b) : cntEq L l a ≤ cntEq L l b := by
  induction b with
  | zero => have : a = 0 := by omega
            subst this; exact Nat.le_refl _
  | succ b ih =>
    by_cases hb : a = b + 1
    · subst hb; exact Nat.le_refl _
    · have := ih (by omega)
      rw [cntEq]; omega
theorem cntEq_lt (L : List Nat) (l : Nat) {a b : Nat} (h : a < b) (ha : L[a]?.getD 0 = l) : cntEq L l a < cntEq L l b := by
  have h1 := cntEq_mono L l (show a + 1 ≤ b from h)
  rw [cntEq, if_pos ha] at h1
  omega

/- the next code's key behind all codes of up to l bits -/
def nx (L : List Nat) : Nat → Nat
  | 0 => 1
  | l + 1 => 2 * nx L l + cntEq L (l + 1) L.length

theorem dealIn_next (L : List Nat) (l : Nat) (st : Dealt) (k : Nat) : (dealIn L l st k).next = st.next + cntEq L l k := by
  induction k with
  | zero => simp [dealIn, cntEq]
  | succ k ih =>
    rw [dealIn, cntEq]
    split
    · show (dealIn L l st k).next + 1 = _; rw [ih]; omega
    · rw [ih]; omega
theorem dealTo_next (L : List Nat) (l : Nat) : (dealTo L l).next = nx L l := by
  induction l with
  | zero => rfl
  | succ l ih => rw [dealTo, dealIn_next, nx]; show 2 * (dealTo L l).next + _ = _; rw [ih]

theorem dealIn_tab (L : List Nat) (l : Nat) (st : Dealt) (hst : ∀ c s, st.tab c = some s → c < st.next) (k c s : Nat) :
    (dealIn L l st k).tab c = some s ↔ st.tab c = some s ∨ (s < k ∧ L[s]?.getD 0 = l ∧ c = st.next + cntEq L l s) := by
  induction k with
  | zero => simp [dealIn]
  | succ k ih =>
    have hn := dealIn_next L l st k
    rw [dealIn]
    split
    · rename_i hk
      show (if c = (dealIn L l st k).next then some k else (dealIn L l st k).tab c) = some s ↔ _
      by_cases hc : c = (dealIn L l st k).next
      · rw [if_pos hc]
        constructor
        · intro h
          simp only [Option.some.injEq] at h
          subst h
          exact .inr ⟨by omega, hk, by omega⟩
        · rintro (h | ⟨h1, h2, h3⟩)
          · have := hst c s h; omega
          · by_cases hsk : s = k
            · rw [hsk]
            · have := cntEq_lt L l (show s < k by omega) h2; omega
      · rw [if_neg hc, ih]
        constructor
        · rintro (h | ⟨h1, h2, h3⟩)
          · exact .inl h
          · exact .inr ⟨by omega, h2, h3⟩
        · rintro (h | ⟨h1, h2, h3⟩)
          · exact .inl h
          · by_cases hsk : s = k
            · subst hsk; omega
            · exact .inr ⟨by omega, h2, h3⟩
    · rename_i hk
      rw [ih]
      constructor
      · rintro (h | ⟨h1, h2, h3⟩)
        · exact .inl h
        · exact .inr ⟨by omega, h2, h3⟩
      · rintro (h | ⟨h1, h2, h3⟩)
        · exact .inl h
        · by_cases hsk : s = k
          · subst hsk; exact absurd h2 hk
          · exact .inr ⟨by omega, h2, h3⟩

/- the key of a symbol's code -/
def keyOf (L : List Nat) (s : Nat) : Nat := 2 * nx L (L[s]?.getD 0 - 1) + cntEq L (L[s]?.getD 0) s

theorem nx_step (L : List Nat) (l : Nat) : 2 * nx L l ≤ nx L (l + 1) := by rw [nx]; omega
theorem nx_pos (L : List Nat) (l : Nat) : 2 ^ l ≤ nx L l := by
  induction l with
  | zero => simp [nx]
  | succ l ih => have := nx_step L l; rw [Nat.pow_succ]; omega
theorem nx_mono (L : List Nat) {a b : Nat} (h : a ≤ b) : nx L a * 2 ^ (b - a) ≤ nx L b := by
  induction b with
  | zero => have : a = 0 := by omega
            subst this; simp
  | succ b ih =>
    by_cases hb : a = b + 1
    · subst hb; simp
    · have h1 := ih (by omega)
      have h2 := nx_step L b
      rw [show b + 1 - a = (b - a) + 1 by omega, Nat.pow_succ, ← Nat.mul_assoc]
      omega
theorem nx_le (L : List Nat) {a b : Nat} (h : a ≤ b) : nx L a ≤ nx L b := by
  have h1 := nx_mono L h
  have h2 : nx L a * 1 ≤ nx L a * 2 ^ (b - a) := Nat.mul_le_mul_left _ (Nat.pow_pos (by omega))
  omega

theorem keyOf_lt (L : List Nat) (s : Nat) (hs : s < L.length) (h1 : 1 ≤ L[s]?.getD 0) : keyOf L s < nx L (L[s]?.getD 0) := by
  have h := cntEq_lt L (L[s]?.getD 0) hs rfl
  unfold keyOf
  obtain ⟨l, hl⟩ : ∃ l, L[s]?.getD 0 = l + 1 := ⟨L[s]?.getD 0 - 1, by omega⟩
  rw [hl] at h ⊢
  rw [nx, Nat.add_sub_cancel]
  omega

theorem dealTo_tab (L : List Nat) (l : Nat) : (∀ c s, (dealTo L l).tab c = some s ↔ (s < L.length ∧ 1 ≤ L[s]?.getD 0 ∧ L[s]?.getD 0 ≤ l ∧ c = keyOf L s)) := by
  induction l with
  | zero => intro c s; simp [dealTo]; omega
  | succ l ih =>
    intro c s
    have hst : ∀ c s, (⟨2 * (dealTo L l).next, (dealTo L l).tab, (dealTo L l).longest⟩ : Dealt).tab c = some s → c < (⟨2 * (dealTo L l).next, (dealTo L l).tab, (dealTo L l).longest⟩ : Dealt).next := by
      intro c s h
      have h' := (ih c s).1 h
      have h2 := keyOf_lt L s h'.1 h'.2.1
      have h3 := nx_le L h'.2.2.1
      show c < 2 * (dealTo L l).next
      rw [dealTo_next]
      omega
    rw [dealTo, dealIn_tab L (l + 1) _ hst]
    show (dealTo L l).tab c = some s ∨ _ ↔ _
    rw [ih c s]
    constructor
    · rintro (⟨h1, h2, h3, h4⟩ | ⟨h1, h2, h3⟩)
      · exact ⟨h1, h2, by omega, h4⟩
      · refine ⟨h1, by omega, by omega, ?_⟩
        rw [h3, keyOf, h2, Nat.add_sub_cancel]
        show 2 * (dealTo L l).next + _ = _
        rw [dealTo_next]
    · rintro ⟨h1, h2, h3, h4⟩
      by_cases hl : L[s]?.getD 0 = l + 1
      · refine .inr ⟨h1, hl, ?_⟩
        rw [h4, keyOf, hl, Nat.add_sub_cancel]
        show _ = 2 * (dealTo L l).next + _
        rw [dealTo_next]
      · exact .inl ⟨h1, h2, by omega, h4⟩

/- no code begins another one -/
theorem prefix_none (L : List Nat) (hk : nx L 15 ≤ 65536) (s j : Nat) (hs : s < L.length) (h1 : 1 ≤ L[s]?.getD 0) (h15 : L[s]?.getD 0 ≤ 15) (_hj : 1 ≤ j) (hjl : j < L[s]?.getD 0) :
    (dealAll L).tab (keyOf L s / 2 ^ (L[s]?.getD 0 - j)) = none := by
  obtain ⟨l, hl⟩ : ∃ l, L[s]?.getD 0 = l + 1 := ⟨L[s]?.getD 0 - 1, by omega⟩
  have hlt := keyOf_lt L s hs h1
  have hge : 2 * nx L l ≤ keyOf L s := by unfold keyOf; rw [hl, Nat.add_sub_cancel]; omega
  rw [hl] at hlt hjl h15 ⊢
  cases ht : (dealAll L).tab (keyOf L s / 2 ^ (l + 1 - j)) with
  | none => rfl
  | some t =>
    exfalso
    obtain ⟨t1, t2, t3, t4⟩ := (dealTo_tab L 15 _ t).1 ht
    have tlt := keyOf_lt L t t1 t2
    have tge : 2 * nx L (L[t]?.getD 0 - 1) ≤ keyOf L t := by unfold keyOf; omega
    have kr : ∀ i, i ≤ 15 → nx L i ≤ 2 ^ (i + 1) := by
      intro i hi
      have h := nx_mono L hi
      have e : 65536 = 2 ^ (i + 1) * 2 ^ (15 - i) := by rw [← Nat.pow_add, show i + 1 + (15 - i) = 16 by omega]
      have h2 : nx L i * 2 ^ (15 - i) ≤ 2 ^ (i + 1) * 2 ^ (15 - i) := by omega
      exact Nat.le_of_mul_le_mul_right h2 (Nat.pow_pos (by omega))
    have hq1 : nx L j ≤ keyOf L s / 2 ^ (l + 1 - j) := by
      rw [Nat.le_div_iff_mul_le (Nat.pow_pos (by omega))]
      have h := nx_mono L (show j ≤ l by omega)
      rw [show l + 1 - j = (l - j) + 1 by omega, Nat.pow_succ, ← Nat.mul_assoc]
      omega
    have hq2 : keyOf L s / 2 ^ (l + 1 - j) < 2 ^ (j + 1) := by
      rw [Nat.div_lt_iff_lt_mul (Nat.pow_pos (by omega)), ← Nat.pow_add, show j + 1 + (l + 1 - j) = l + 1 + 1 by omega]
      have := kr (l + 1) h15
      omega
    rw [t4] at hq1 hq2
    by_cases hi : L[t]?.getD 0 ≤ j
    · have := nx_le L hi; omega
    · have h5 := nx_le L (show j ≤ L[t]?.getD 0 - 1 by omega)
      have h6 := nx_pos L j
      rw [Nat.pow_succ] at hq2
      omega

theorem found (L : List Nat) (s : Nat) (hs : s < L.length) (h1 : 1 ≤ L[s]?.getD 0) (h15 : L[s]?.getD 0 ≤ 15) : (dealAll L).tab (keyOf L s) = some s :=
  (dealTo_tab L 15 _ s).2 ⟨hs, h1, h15, rfl⟩
end Go.Bel
