/- Proved here: a block of type 1 that the writer writes is read to its bytes. -/
import Derived.Test.YtnoemlailgbpoaaDoorDecSymBlk
namespace Go.Proofs.YtnoemlailgbpoaaDoor
open Go.RowKit Go.Bel Go.Maps

def fixG (i : Nat) : Nat := if i < 144 then 8 else if i < 256 then 9 else if i < 280 then 7 else if i < 288 then 8 else 0
theorem four_length (a b c d x y z u : Nat) : (List.replicate a x ++ List.replicate b y ++ List.replicate c z ++ List.replicate d u).length = a + b + c + d := by
  simp only [List.length_append, List.length_replicate]
theorem four_get (a b c d x y z u i : Nat) : (List.replicate a x ++ List.replicate b y ++ List.replicate c z ++ List.replicate d u)[i]?.getD 0 = if i < a then x else if i < a + b then y else if i < a + b + c then z else if i < a + b + c + d then u else 0 := by
  by_cases h1 : i < a
  · rw [if_pos h1, List.getElem?_append_left (by simp only [List.length_append, List.length_replicate]; omega), List.getElem?_append_left (by simp only [List.length_append, List.length_replicate]; omega), List.getElem?_append_left (by simp only [List.length_replicate]; omega), List.getElem?_replicate, if_pos h1]
    rfl
  rw [if_neg h1]
  by_cases h2 : i < a + b
  · rw [if_pos h2, List.getElem?_append_left (by simp only [List.length_append, List.length_replicate]; omega), List.getElem?_append_left (by simp only [List.length_append, List.length_replicate]; omega), List.getElem?_append_right (by simp only [List.length_replicate]; omega), List.getElem?_replicate, List.length_replicate, if_pos (by omega)]
    rfl
  rw [if_neg h2]
  by_cases h3 : i < a + b + c
  · rw [if_pos h3, List.getElem?_append_left (by simp only [List.length_append, List.length_replicate]; omega), List.getElem?_append_right (by simp only [List.length_append, List.length_replicate]; omega), List.getElem?_replicate, List.length_append, List.length_replicate, List.length_replicate, if_pos (by omega)]
    rfl
  rw [if_neg h3, List.getElem?_append_right (by simp only [List.length_append, List.length_replicate]; omega), List.getElem?_replicate]
  simp only [List.length_append, List.length_replicate]
  by_cases h4 : i < a + b + c + d
  · rw [if_pos h4, if_pos (by omega)]; rfl
  · rw [if_neg h4, if_neg (by omega)]; rfl
theorem fixLens_length : fixLens.length = 288 := four_length 144 112 24 8 8 9 7 8
theorem fixLens_get (i : Nat) : fixLens[i]?.getD 0 = fixG i := four_get 144 112 24 8 8 9 7 8 i
theorem fixG_le (i : Nat) : fixG i ≤ 9 := by unfold fixG; split <;> (try split) <;> (try split) <;> (try split) <;> omega

theorem fix_cnt8 (s : Nat) : s ≤ 288 → cntEq fixLens 8 s = min s 144 + (s - 280) := by
  induction s with
  | zero => intro _; rfl
  | succ s ih =>
    intro hs
    rw [cntEq, ih (by omega), fixLens_get]
    unfold fixG
    split
    · rw [if_pos rfl]; omega
    · split
      · rw [if_neg (by omega)]; omega
      · split
        · rw [if_neg (by omega)]; omega
        · split
          · rw [if_pos rfl]; omega
          · omega
theorem fix_cnt9 (s : Nat) : s ≤ 288 → cntEq fixLens 9 s = min (s - 144) 112 := by
  induction s with
  | zero => intro _; rfl
  | succ s ih =>
    intro hs
    rw [cntEq, ih (by omega), fixLens_get]
    unfold fixG
    split
    · rw [if_neg (by omega)]; omega
    · split
      · rw [if_pos rfl]; omega
      · split
        · rw [if_neg (by omega)]; omega
        · split
          · rw [if_neg (by omega)]; omega
          · omega
theorem fix_cnt7 (s : Nat) : s ≤ 288 → cntEq fixLens 7 s = min (s - 256) 24 := by
  induction s with
  | zero => intro _; rfl
  | succ s ih =>
    intro hs
    rw [cntEq, ih (by omega), fixLens_get]
    unfold fixG
    split
    · rw [if_neg (by omega)]; omega
    · split
      · rw [if_neg (by omega)]; omega
      · split
        · rw [if_pos rfl]; omega
        · split
          · rw [if_neg (by omega)]; omega
          · omega
theorem fix_cnt0 (l : Nat) (h1 : 1 ≤ l) (h7 : l ≠ 7) (h8 : l ≠ 8) (h9 : l ≠ 9) (s : Nat) : cntEq fixLens l s = 0 := by
  induction s with
  | zero => rfl
  | succ s ih =>
    rw [cntEq, ih, fixLens_get]
    unfold fixG
    split
    · rw [if_neg (by omega)]
    · split
      · rw [if_neg (by omega)]
      · split
        · rw [if_neg (by omega)]
        · split
          · rw [if_neg (by omega)]
          · rw [if_neg (by omega)]
theorem fix_low (l : Nat) (hl : l ≤ 6) : nx fixLens l = 2 ^ l := by
  induction l with
  | zero => rfl
  | succ l ih => rw [nx, ih (by omega), fix_cnt0 (l + 1) (by omega) (by omega) (by omega) (by omega), Nat.pow_succ]; omega
theorem fix_nx6 : nx fixLens 6 = 64 := fix_low 6 (by omega)
theorem fix_nx7 : nx fixLens 7 = 152 := by rw [nx, fix_nx6, fixLens_length, fix_cnt7 288 (by omega)]; omega
theorem fix_nx8 : nx fixLens 8 = 456 := by rw [nx, fix_nx7, fixLens_length, fix_cnt8 288 (by omega)]; omega
theorem fix_nx9 : nx fixLens 9 = 1024 := by rw [nx, fix_nx8, fixLens_length, fix_cnt9 288 (by omega)]; omega
theorem fix_nx (k : Nat) : nx fixLens (9 + k) = 1024 * 2 ^ k := by
  induction k with
  | zero => rw [Nat.add_zero, fix_nx9]
  | succ k ih => rw [show 9 + (k + 1) = (9 + k) + 1 from rfl, nx, ih, fix_cnt0 _ (by omega) (by omega) (by omega) (by omega), Nat.pow_succ]; omega
theorem fix_le (i : Nat) : fixLens[i]?.getD 0 ≤ 15 := by rw [fixLens_get]; have := fixG_le i; omega
theorem fix_may : mayB fixLens = true := by
  have h1 : nx fixLens 15 = 1024 * 2 ^ 6 := fix_nx 6
  rw [nx_eq, wTo_wgt fixLens fix_le] at h1
  have h2 : wgtTo fixLens fixLens.length = 32768 := by omega
  unfold mayB
  rw [h2]
  rfl

theorem fix_sym {bs : List Bool} {B : List Nat} (hB : BitsIn bs B) (c : Nat) (hc : c < 288) : SymOk bs B (dealAll fixLens).longest (dealAll fixLens).tab fixedBits c := by
  intro p hf hp
  have hs : c < fixLens.length := by rw [fixLens_length]; exact hc
  unfold fixedBits at hf hp ⊢
  by_cases h1 : c < 144
  · rw [if_pos h1] at hf hp ⊢
    rw [codeBits_length] at hp ⊢
    have hg : fixLens[c]?.getD 0 = 8 := by rw [fixLens_get, fixG, if_pos h1]
    refine code_at hB fix_le hs hg (by omega) ?_ (by omega) fix_may hf hp
    rw [Bel.keyOf, hg, show 8 - 1 = 7 from rfl, fix_nx7, fix_cnt8 c (by omega)]; omega
  rw [if_neg h1] at hf hp ⊢
  by_cases h2 : c < 256
  · rw [if_pos h2] at hf hp ⊢
    rw [codeBits_length] at hp ⊢
    have hg : fixLens[c]?.getD 0 = 9 := by rw [fixLens_get, fixG, if_neg h1, if_pos h2]
    refine code_at hB fix_le hs hg (by omega) ?_ (by omega) fix_may hf hp
    rw [Bel.keyOf, hg, show 9 - 1 = 8 from rfl, fix_nx8, fix_cnt9 c (by omega)]; omega
  rw [if_neg h2] at hf hp ⊢
  by_cases h3 : c < 280
  · rw [if_pos h3] at hf hp ⊢
    rw [codeBits_length] at hp ⊢
    have hg : fixLens[c]?.getD 0 = 7 := by rw [fixLens_get, fixG, if_neg h1, if_neg h2, if_pos h3]
    refine code_at hB fix_le hs hg (by omega) ?_ (by omega) fix_may hf hp
    rw [Bel.keyOf, hg, show 7 - 1 = 6 from rfl, fix_nx6, fix_cnt7 c (by omega)]; omega
  · rw [if_neg h3] at hf hp ⊢
    rw [codeBits_length] at hp ⊢
    have hg : fixLens[c]?.getD 0 = 8 := by rw [fixLens_get, fixG, if_neg h1, if_neg h2, if_neg h3, if_pos hc]
    refine code_at hB fix_le hs hg (by omega) ?_ (by omega) fix_may hf hp
    rw [Bel.keyOf, hg, show 8 - 1 = 7 from rfl, fix_nx7, fix_cnt8 c (by omega)]; omega

theorem fixedBits_ne (c : Nat) : fixedBits c ≠ [] := by
  intro e
  have : (fixedBits c).length = 0 := by rw [e]; rfl
  unfold fixedBits at this
  split at this
  · rw [codeBits_length] at this; omega
  · split at this
    · rw [codeBits_length] at this; omega
    · split at this <;> (rw [codeBits_length] at this; omega)

theorem lit_blk {bs : List Bool} {B : List Nat} (hB : BitsIn bs B) (hb : bs.length ≤ 8 * B.length) (p : Nat) (l : List Nat) (last : Bool) (hc : ∀ c ∈ l, c < 256) (h : BitsFrom bs p (litBits l last)) :
    BlkOk B p (p + (litBits l last).length) l last := by
  have e : litBits l last = beginBits last 1 ++ (l.flatMap fixedBits ++ fixedBits 256) := by unfold litBits fixedAll; simp [List.append_assoc]
  rw [e] at h ⊢
  have hhd := head_from hB hb p 1 last (by omega) h.left
  have hr := h.right
  rw [beginBits_length] at hr
  rw [List.length_append, beginBits_length, ← Nat.add_assoc]
  refine sym_blk hb (fixedBits_ne 256) l last ?_ (fun c hcl => ⟨hc c hcl, fix_sym hB c (by have := hc c hcl; omega), fixedBits_ne c⟩) (fix_sym hB 256 (by omega)) hr
  intro s h0 hp
  subst hp
  exact .fixed s last h0 hhd
end Go.Proofs.YtnoemlailgbpoaaDoor
