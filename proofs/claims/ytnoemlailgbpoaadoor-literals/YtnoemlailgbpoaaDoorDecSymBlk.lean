/- Proved here: a block of type 2 that the writer writes is read to its bytes; and one of type 1, by the codes of its lengths. -/
import Derived.Test.YtnoemlailgbpoaaDoorDecBlk
namespace Go.Proofs.YtnoemlailgbpoaaDoor
open Go.RowKit Go.Bel Go.Maps

theorem sym_blk {bs : List Bool} {B : List Nat} {lg p p1 : Nat} {M : Tab} {sym : Nat → List Bool} (hb : bs.length ≤ 8 * B.length) (hne : sym 256 ≠ []) (l : List Nat) (last : Bool)
    (hstep : ∀ s : PS, s.place = 0 → s.p = p → PStep B s { s with last := last, place := 2, tab := M, longest := lg, p := p1 }) (hsym : ∀ c ∈ l, c < 256 ∧ SymOk bs B lg M sym c ∧ sym c ≠ []) (hend : SymOk bs B lg M sym 256)
    (hf : BitsFrom bs p1 (l.flatMap sym ++ sym 256)) : BlkOk B p (p1 + (l.flatMap sym ++ sym 256).length) l last := by
  have hle := from_le hf.right hne hb
  have hcode := hend _ hf.right hle
  rw [List.length_append]
  rw [← Nat.add_assoc]
  refine ⟨fun s h0 hp hm => ?_, fun s h0 hp hm1 hm2 => ?_⟩
  · refine ⟨PS.ended { s with last := last, place := 2, tab := M, longest := lg, out := s.out ++ l, p := p1 + (l.flatMap sym).length } (p1 + (l.flatMap sym).length + (sym 256).length), rfl, rfl, rfl, rfl, fun e s' hr => ?_⟩
    refine Runs.step (hstep s h0 hp) (by omega) ?_
    refine syms_run hb l p1 { s with last := last, place := 2, tab := M, longest := lg, p := p1 } hsym rfl rfl rfl rfl hf.left hm e s' ?_
    exact Runs.step (.syms { s with last := last, place := 2, tab := M, longest := lg, out := s.out ++ l, p := p1 + (l.flatMap sym).length } _ rfl hcode) (by simp) hr
  · obtain ⟨s', h5, h6⟩ := syms_much hb l p1 { s with last := last, place := 2, tab := M, longest := lg, p := p1 } hsym rfl rfl rfl rfl hf.left hm1 hm2
    exact ⟨s', Runs.step (hstep s h0 hp) (by omega) h5, h6⟩

/- the first lengths that told tells -/
def firstL : List Nat := [4, 4, 4, 4, 4, 4, 4, 4, 4, 4, 4, 4, 4, 4, 4, 4, 0, 0, 0]
theorem firstL_may : mayB firstL = true := by decide
theorem firstL_le (i : Nat) : firstL[i]?.getD 0 ≤ 15 := by
  by_cases h : i < 19
  · have : ∀ j : Fin 19, firstL[j.val]?.getD 0 ≤ 15 := by decide
    exact this ⟨i, h⟩
  · rw [List.getElem?_eq_none (by simp [firstL]; omega)]; simp
theorem firstL_key : ∀ s : Fin 16, Bel.keyOf firstL s.val = 16 + s.val ∧ firstL[s.val]?.getD 0 = 4 := by decide

def fs2 : Nat → Nat → Nat
  | 0, _ => 0
  | k + 1, i => if i = orderList[k]?.getD 0 then firstNum k else fs2 k i
theorem fs2_all : (List.range 19).map (fs2 19) = firstL := by decide
theorem firsts_from {bs : List Bool} {B : List Nat} (hB : BitsIn bs B) (q : Nat) (h : BitsFrom bs q (firstBits 19)) : firstLens B q 19 = firstL := by
  have hk : ∀ k, k ≤ 19 → BitsFrom bs q (firstBits k) := by
    intro k hk i hi
    rw [firstBits_length] at hi
    have h1 := h i (by rw [firstBits_length]; omega)
    rw [h1]
    have : ∀ m, k ≤ m → (firstBits m)[i]? = (firstBits k)[i]? := by
      intro m hm
      induction m with
      | zero => have : k = 0 := by omega
                subst this; rfl
      | succ m ih =>
        by_cases e : k = m + 1
        · subst e; rfl
        · rw [firstBits_succ, List.getElem?_append_left (by rw [firstBits_length]; omega)]
          exact ih (by omega)
    exact this 19 hk
  have hn : ∀ k, k < 19 → numAt B (q + 3 * k) 3 = firstNum k := by
    intro k hk19
    have h1 := hk (k + 1) (by omega)
    rw [firstBits_succ] at h1
    have h2 := h1.right
    rw [firstBits_length] at h2
    rw [num_from hB _ _ 3 h2]
    apply Nat.mod_eq_of_lt
    unfold firstNum; split <;> omega
  have he : ∀ k, k ≤ 19 → ∀ i, fsTo B q k i = fs2 k i := by
    intro k
    induction k with
    | zero => intro _ i; rfl
    | succ k ih => intro hk19 i; rw [fsTo, fs2, hn k (by omega), ih (by omega)]
  rw [← fs2_all]
  unfold firstLens
  apply List.map_congr_left
  intro i _
  exact he 19 (by omega) i

def rowBits (L : List Nat) : List Bool := L.flatMap (codeBits · 4)
theorem rowBits_length (L : List Nat) : (rowBits L).length = 4 * L.length := by
  induction L with
  | nil => rfl
  | cons a L ih =>
    have e : rowBits (a :: L) = codeBits a 4 ++ rowBits L := by simp [rowBits]
    rw [e, List.length_append, codeBits_length, ih, List.length_cons]; omega
theorem row_from {bs : List Bool} (L : List Nat) : ∀ q, BitsFrom bs q (rowBits L) → ∀ i, i < L.length → BitsFrom bs (q + 4 * i) (codeBits (L[i]?.getD 0) 4) := by
  induction L with
  | nil => intro q _ i hi; simp at hi
  | cons a L ih =>
    intro q h i hi
    have e : rowBits (a :: L) = codeBits a 4 ++ rowBits L := by simp [rowBits]
    rw [e] at h
    cases i with
    | zero => simpa using h.left
    | succ i =>
      have h2 := h.right
      rw [codeBits_length] at h2
      have := ih (q + 4) h2 i (by simp at hi; omega)
      rw [show q + 4 * (i + 1) = q + 4 + 4 * i by omega]
      simpa using this

def toldRow (f : Nat → Bool) : List Nat := lens f ++ [0]
theorem toldRow_bits (f : Nat → Bool) : lensBits f 257 ++ codeBits 0 4 = rowBits (toldRow f) := by
  unfold toldRow rowBits lensBits lens
  rw [List.flatMap_append, List.flatMap_map]
  simp
theorem toldRow_take (f : Nat → Bool) : (toldRow f).take 257 = lens f := by
  unfold toldRow
  rw [List.take_append_of_le_length (by rw [lens_length]; omega), List.take_of_length_le (by rw [lens_length]; omega)]
theorem toldRow_drop (f : Nat → Bool) : (toldRow f).drop 257 = [0] := by
  unfold toldRow
  rw [List.drop_append_of_le_length (by rw [lens_length]; omega), List.drop_of_length_le (by rw [lens_length]; omega)]
  rfl
theorem toldRow_lt (f : Nat → Bool) (i : Nat) : (toldRow f)[i]?.getD 0 < 16 := by
  unfold toldRow
  by_cases h : i < 257
  · rw [List.getElem?_append_left (by rw [lens_length]; exact h)]
    have := lens_le f i; omega
  · rw [List.getElem?_append_right (by rw [lens_length]; omega)]
    by_cases h2 : i = 257
    · subst h2; simp [lens_length]
    · rw [List.getElem?_eq_none (by simp [lens_length]; omega)]; simp

theorem told_at {bs : List Bool} {B : List Nat} (hB : BitsIn bs B) (hb : bs.length ≤ 8 * B.length) (f : Nat → Bool) (h256 : f 256 = true) (p : Nat)
    (h : BitsFrom bs p (numBits 0 5 ++ numBits 0 5 ++ numBits 15 4 ++ firstBits 19 ++ rowBits (toldRow f))) : ToldAt B p (fun i => p + 71 + 4 * i) (toldRow f) := by
  have hrow := h.right
  have h4 := h.left
  have hfi := h4.right
  have h3 := h4.left
  have hn3 := h3.right
  have hn2 := h3.left.right
  have hn1 := h3.left.left
  have hle := from_le h (by simp [numBits]) hb
  simp only [List.length_append, numBits_length, firstBits_length, rowBits_length] at hrow hfi hn3 hn2 hn1 hle
  have htl : (toldRow f).length = 258 := by simp [toldRow, lens_length]
  have hfl := firsts_from hB (p + 14) hfi
  rw [htl] at hle
  refine ⟨by omega, ?_, ?_, ?_, ?_, by simp, htl, toldRow_lt f, ?_, ?_, ?_, ?_⟩
  · rw [num_from hB p 0 5 hn1]
  · rw [num_from hB (p + 5) 0 5 hn2]
  · rw [num_from hB (p + 10) 15 4 hn3]
  · rw [hfl]; exact firstL_may
  · intro i hi
    rw [hfl]
    have hri := row_from (toldRow f) (p + 71) hrow i (by omega)
    have hlt := toldRow_lt f i
    obtain ⟨x, hx⟩ : ∃ x, x = (toldRow f)[i]?.getD 0 := ⟨_, rfl⟩
    rw [← hx] at hri hlt ⊢
    have hk := firstL_key ⟨x, hlt⟩
    have := code_at hB firstL_le (show x < firstL.length by simp [firstL]; omega) hk.2 (by omega) hk.1 (by omega) firstL_may hri (by omega)
    simpa [Nat.mul_add, Nat.add_assoc] using this
  · rw [toldRow_take, lens_get f 256 (by omega)]
    have hn : need f 256 = true := by unfold need; rw [h256]; rfl
    have := (key_told f h256 256 (by omega) hn).2.2
    omega
  · rw [toldRow_take]; exact lens_may f h256
  · rw [toldRow_drop]; rfl

theorem told_blk {bs : List Bool} {B : List Nat} (hB : BitsIn bs B) (hb : bs.length ≤ 8 * B.length) (p : Nat) (l : List Nat) (last : Bool) (hc : ∀ c ∈ l, c < 256) (h : BitsFrom bs p (toldBits l last)) :
    BlkOk B p (p + (toldBits l last).length) l last := by
  have h256 : inText l 256 = true := rfl
  obtain ⟨f, hf⟩ : ∃ f, f = inText l := ⟨_, rfl⟩
  have e : toldBits l last = beginBits last 2 ++ ((numBits 0 5 ++ numBits 0 5 ++ numBits 15 4 ++ firstBits 19 ++ rowBits (toldRow f)) ++ (l.flatMap (symBits f) ++ symBits f 256)) := by
    rw [← toldRow_bits, hf]
    unfold toldBits textBits
    simp [List.append_assoc]
  rw [← hf] at h256
  rw [e] at h ⊢
  have hhd := head_from hB hb p 2 last (by omega) h.left
  have hr := h.right
  rw [beginBits_length] at hr
  have hta := told_at hB hb f h256 (p + 3) hr.left
  have hsy := hr.right
  have hln : (numBits 0 5 ++ numBits 0 5 ++ numBits 15 4 ++ firstBits 19 ++ rowBits (toldRow f)).length = 1103 := by
    simp only [List.length_append, numBits_length, firstBits_length, rowBits_length]; simp [toldRow, lens_length]
  rw [hln] at hsy
  have hsym : ∀ c, c < 257 → need f c = true → SymOk bs B (dealAll (lens f)).longest (dealAll (lens f)).tab (symBits f) c := by
    intro c hc257 hn p' hf' hp'
    have hk := key_told f h256 c hc257 hn
    unfold symBits at hf' hp' ⊢
    rw [codeBits_length] at hp' ⊢
    exact code_at hB (lens_le f) (by rw [lens_length]; exact hc257) (lens_get f c hc257) hk.2.2 hk.1 hk.2.1 (lens_may f h256) hf' hp'
  have hneed : ∀ c ∈ l, need f c = true := by
    intro c hcl
    have : f c = true := by rw [hf]; unfold inText; simp [hcl]
    unfold need; rw [this]; rfl
  have h6 : need f 256 = true := by unfold need; rw [h256]; rfl
  have hlen : p + (beginBits last 2 ++ ((numBits 0 5 ++ numBits 0 5 ++ numBits 15 4 ++ firstBits 19 ++ rowBits (toldRow f)) ++ (l.flatMap (symBits f) ++ symBits f 256))).length = p + 3 + 1103 + (l.flatMap (symBits f) ++ symBits f 256).length := by
    rw [List.length_append, List.length_append, beginBits_length, hln]; omega
  rw [hlen]
  have hstep : ∀ s : PS, s.place = 0 → s.p = p → PStep B s { s with last := last, place := 2, tab := (dealAll (lens f)).tab, longest := (dealAll (lens f)).longest, p := p + 3 + 1103 } := by
    intro s h0 hp
    subst hp
    have := PStep.told (B := B) s last (fun i => s.p + 3 + 71 + 4 * i) (toldRow f) h0 hhd hta
    rw [toldRow_take] at this
    exact this
  have hnil : ∀ c, c < 257 → need f c = true → symBits f c ≠ [] := by
    intro c hc257 hn e
    have hk := (key_told f h256 c hc257 hn).2.2
    have h9 : (symBits f c).length = lenOf f c := by unfold symBits; rw [codeBits_length]
    rw [e] at h9
    simp at h9
    omega
  exact sym_blk hb (hnil 256 (by omega) h6) l last hstep (fun c hcl => ⟨hc c hcl, hsym c (by have := hc c hcl; omega) (hneed c hcl), hnil c (by have := hc c hcl; omega) (hneed c hcl)⟩) (hsym 256 (by omega) h6) hsy
end Go.Proofs.YtnoemlailgbpoaaDoor
