/- Proved here: facts on the lengths and codes that the writer's told gives to a text's symbols, and on what a writer leaves alone; nothing of the program. -/
import Derived.Test.YtnoemlailgbpoaaDoorBitsPure
import Derived.Test.YtnoemlailgbpoaaDoorRows2
namespace Go.Bel
open Go Go.RowKit

/- how many of the first k numbers have f -/
def manyTo (f : Nat → Bool) : Nat → Nat
  | 0 => 0
  | k + 1 => manyTo f k + (if f k then 1 else 0)
theorem manyTo_le (f : Nat → Bool) (k : Nat) : manyTo f k ≤ k := by
  induction k with
  | zero => simp [manyTo]
  | succ k ih => rw [manyTo]; split <;> omega

def need (f : Nat → Bool) (i : Nat) : Bool := f i || (manyTo f 257 == 1 && i == 0)
def manyOf (f : Nat → Bool) : Nat := if manyTo f 257 = 1 then 2 else manyTo f 257
def shortLen (f : Nat → Bool) : Nat := Nat.log2 (manyOf f)
def shortMany (f : Nat → Bool) : Nat := 2 ^ (shortLen f + 1) - manyOf f
def rank (f : Nat → Bool) (i : Nat) : Nat := manyTo (need f) i
def lenOf (f : Nat → Bool) (i : Nat) : Nat := if need f i then (if rank f i < shortMany f then shortLen f else shortLen f + 1) else 0
def codeOf (f : Nat → Bool) (i : Nat) : Nat := if need f i then (if rank f i < shortMany f then rank f i else shortMany f + rank f i) else 0

theorem log2_of (m k : Nat) (h1 : 2 ^ k ≤ m) (h2 : m < 2 ^ (k + 1)) : Nat.log2 m = k := by
  have h0 : m ≠ 0 := by have := Nat.pow_pos (n := k) (show 0 < 2 by omega); omega
  have a := (Nat.le_log2 h0 (k := k)).2 h1
  have b := (Nat.log2_lt h0 (k := k + 1)).2 h2
  omega

/- Block k is neither the writer's own nor its row. -/
def Off (b : Nat) (v : Value) (k : Nat) : Prop := k ≠ b ∧ v.ownBlock ≠ some k

theorem Off.wrt {b k : Nat} {w w' : World} {v v' : Value} (h : Off b v k) (hk : k < w.heap.size) (hw : Wrt b w v w' v') : Off b v' k :=
  ⟨h.1, fun e => (hw.own k e).elim h.2 (fun x => by omega)⟩
theorem RowAt.wrt {b k t n : Nat} {f : Nat → Value} {w w' : World} {v v' : Value} (h : RowAt w k t n f) (ho : Off b v k) (hw : Wrt b w v w' v') : RowAt w' k t n f :=
  h.step hw.step fun x => x.elim ho.1 ho.2
theorem Off.new {b base t e : Nat} {v : Value} {bs : List Bool} {w : World} (h : Bw w b base t e v bs) {k : Nat} (hk : w.heap.size ≤ k) : Off b v k := by
  obtain ⟨B, hB⟩ := h
  exact ⟨by have := lt_of_block hB.row.blk; omega, fun x => by have := (hB.row.own.lt k x).2; omega⟩

theorem Wrt.alloc {b : Nat} {w w' : World} {v v' : Value} (h : Wrt b w v w' v') (o : Obj) : Wrt b w v (w'.alloc o) v' := ⟨h.step.alloc o, h.own⟩
theorem Wrt.drew {b : Nat} {w w' : World} {v v' : Value} (h : Wrt b w v w' v') : Wrt b w v w'.drew v' := ⟨h.step.drew, h.own⟩
theorem Wrt.drewN {b : Nat} {w w' : World} {v v' : Value} (h : Wrt b w v w' v') (n : Nat) : Wrt b w v (w'.drewN n) v' := ⟨h.step.drewN n, h.own⟩
theorem Wrt.setNew {b : Nat} {w w' : World} {v v' : Value} (h : Wrt b w v w' v') {p : Addr} (hp : w.heap.size ≤ p.block) (u : Value) : Wrt b w v (w'.setCell p u) v' := ⟨h.step.setNew hp u, h.own⟩
theorem Wrt.setRowNew {b : Nat} {w w' : World} {v v' : Value} (h : Wrt b w v w' v') {k : Nat} (hk : w.heap.size ≤ k) (A : Array Value) : Wrt b w v (w'.setRow k A) v' := ⟨h.step.setRowNew hk A, h.own⟩
theorem Wrt.step0 {b : Nat} {w w' w'' : World} {v v' : Value} (h : Wrt b w v w' v') (hs : Step (fun _ => False) w' w'') : Wrt b w v w'' v' :=
  ⟨h.step.trans' hs fun _ _ x => x.elim, h.own⟩

theorem ownsRow_of_block {w w' : World} {base e size n : Nat} {v : Value} {xs : List Value} (h : w.ownsRow base e size v n xs) (hb : ∀ k, v.ownBlock = some k → w'.heap[k]? = w.heap[k]?) : w'.ownsRow base e size v n xs := by
  obtain ⟨h1, h2 | ⟨g, cap, cur, hv, hg, hh, r⟩⟩ := h
  · exact ⟨h1, .inl h2⟩
  · exact ⟨h1, .inr ⟨g, cap, cur, hv, hg, (hb g (by rw [hv]; rfl)).trans hh, r⟩⟩

theorem Bw.of {w w' : World} {b base t e : Nat} {v : Value} {bs : List Bool} (h : Bw w b base t e v bs) (hb : w'.heap[b]? = w.heap[b]?) (hr : ∀ k, v.ownBlock = some k → w'.heap[k]? = w.heap[k]?) : Bw w' b base t e v bs := by
  obtain ⟨B, ⟨⟨h1, h2, h3, h4⟩, h5⟩⟩ := h
  exact ⟨B, ⟨⟨hb.trans h1, ownsRow_of_block h2 hr, h3, h4⟩, h5⟩⟩
theorem Bw.alloc {w : World} {b base t e : Nat} {v : Value} {bs : List Bool} (h : Bw w b base t e v bs) (o : Obj) : Bw (w.alloc o) b base t e v bs := by
  obtain ⟨B, hB⟩ := h
  exact Bw.of ⟨B, hB⟩ (Below.heap_alloc _ _ _ (lt_of_block hB.row.blk)) fun k hk => Below.heap_alloc _ _ _ (hB.row.own.lt k hk).2
theorem Bw.drew {w : World} {b base t e : Nat} {v : Value} {bs : List Bool} (h : Bw w b base t e v bs) : Bw w.drew b base t e v bs := h.of rfl fun _ _ => rfl
theorem Bw.drewN {w : World} {b base t e : Nat} {v : Value} {bs : List Bool} (h : Bw w b base t e v bs) (n : Nat) : Bw (w.drewN n) b base t e v bs := h.of rfl fun _ _ => rfl
theorem Bw.setCell {w : World} {b base t e : Nat} {v : Value} {bs : List Bool} (h : Bw w b base t e v bs) {p : Addr} (ho : Off b v p.block) (u : Value) : Bw (w.setCell p u) b base t e v bs :=
  h.of (Below.heap_setCell _ _ _ _ (fun x => ho.1 x.symm)) fun _k hk => Below.heap_setCell _ _ _ _ (fun x => ho.2 (x ▸ hk))
theorem Bw.setRow {w : World} {b base t e : Nat} {v : Value} {bs : List Bool} (h : Bw w b base t e v bs) {k : Nat} (ho : Off b v k) (A : Array Value) : Bw (w.setRow k A) b base t e v bs :=
  h.of (setRow_other _ _ _ _ (fun x => ho.1 x.symm)) fun _j hj => setRow_other _ _ _ _ (fun x => ho.2 (x ▸ hj))
theorem Bw.step0 {w w' : World} {b base t e : Nat} {v : Value} {bs : List Bool} (h : Bw w b base t e v bs) (hs : Step (fun _ => False) w w') : Bw w' b base t e v bs := by
  obtain ⟨B, hB⟩ := h
  exact Bw.of ⟨B, hB⟩ (hs.block _ (lt_of_block hB.row.blk) (fun x => x)) fun k hk => hs.block _ (hB.row.own.lt k hk).2 (fun x => x)

/- the numbers of 3 bits that tell the first lengths: 4 for those below 16 -/
def orderList : List Nat := [16, 17, 18, 0, 8, 7, 9, 6, 10, 5, 11, 4, 12, 3, 13, 2, 14, 1, 15]
def firstNum (i : Nat) : Nat := if orderList[i]?.getD 0 < 16 then 4 else 0
def firstBits (k : Nat) : List Bool := (List.range k).flatMap fun i => numBits (firstNum i) 3
theorem firstBits_succ (k : Nat) : firstBits (k + 1) = firstBits k ++ numBits (firstNum k) 3 := by simp [firstBits, List.range_succ]
theorem firstBits_length (k : Nat) : (firstBits k).length = 3 * k := by
  induction k with
  | zero => simp [firstBits]
  | succ k ih => rw [firstBits_succ, List.length_append, ih, numBits_length]; omega
def lensBits (f : Nat → Bool) (k : Nat) : List Bool := (List.range k).flatMap fun i => codeBits (lenOf f i) 4
theorem lensBits_succ (f : Nat → Bool) (k : Nat) : lensBits f (k + 1) = lensBits f k ++ codeBits (lenOf f k) 4 := by simp [lensBits, List.range_succ]
theorem lensBits_length (f : Nat → Bool) (k : Nat) : (lensBits f k).length = 4 * k := by
  induction k with
  | zero => simp [lensBits]
  | succ k ih => rw [lensBits_succ, List.length_append, ih, codeBits_length]; omega
def symBits (f : Nat → Bool) (c : Nat) : List Bool := codeBits (codeOf f c) (lenOf f c)
def textBits (f : Nat → Bool) (l : List Nat) : List Bool := l.flatMap (symBits f)
theorem textBits_snoc (f : Nat → Bool) (l : List Nat) (x : Nat) : textBits f (l ++ [x]) = textBits f l ++ symBits f x := by simp [textBits]

theorem manyOf_le (f : Nat → Bool) : manyOf f ≤ 257 := by unfold manyOf; have := manyTo_le f 257; split <;> omega
theorem shortLen_le (f : Nat → Bool) : shortLen f ≤ 8 := by
  unfold shortLen
  by_cases h : manyOf f = 0
  · rw [h]; decide
  · have := (Nat.log2_lt h (k := 9)).2 (by have := manyOf_le f; omega)
    omega
theorem lenOf_le (f : Nat → Bool) (i : Nat) : lenOf f i ≤ 9 := by have := shortLen_le f; unfold lenOf; split <;> (try split) <;> omega
theorem rank_le (f : Nat → Bool) (i : Nat) : rank f i ≤ i := manyTo_le _ _
theorem shortMany_le (f : Nat → Bool) : shortMany f ≤ 512 := by
  have := shortLen_le f
  have h : 2 ^ (shortLen f + 1) ≤ 2 ^ 9 := Nat.pow_le_pow_right (by omega) (by omega)
  unfold shortMany; omega
theorem codeOf_le (f : Nat → Bool) (i : Nat) (hi : i < 257) : codeOf f i ≤ 1000 := by
  have := shortMany_le f; have := rank_le f i; unfold codeOf; split <;> (try split) <;> omega
theorem symBits_length (f : Nat → Bool) (c : Nat) : (symBits f c).length ≤ 9 := by rw [symBits, codeBits_length]; exact lenOf_le f c
theorem textBits_length (f : Nat → Bool) (l : List Nat) : (textBits f l).length ≤ 9 * l.length := by
  induction l with
  | nil => simp [textBits]
  | cons a l ih =>
    have e : textBits f (a :: l) = symBits f a ++ textBits f l := by simp [textBits]
    rw [e, List.length_append, List.length_cons]; have := symBits_length f a; omega

theorem row_next {w : World} {k t n j x : Nat} {g : Nat → Nat} (h : RowAt w k t n (fun i => if i = j then .int .i64 (x : Nat) else .int .i64 ((if i < j then g i else 0 : Nat) : Int))) (hx : x = g j) :
    RowAt w k t n (fun i => .int .i64 ((if i < j + 1 then g i else 0 : Nat) : Int)) :=
  h.congr fun i _ => by
    by_cases hi : i = j
    · subst hi; simp [hx]
    · have e : (i < j + 1) = (i < j) := by rw [eq_iff_iff]; omega
      simp [hi, e]
theorem row_next2 {w : World} {k t n j x : Nat} {y : Value} {g : Nat → Nat} (h : RowAt w k t n (fun i => if i = j then .int .i64 (x : Nat) else if i = j then y else .int .i64 ((if i < j then g i else 0 : Nat) : Int))) (hx : x = g j) :
    RowAt w k t n (fun i => .int .i64 ((if i < j + 1 then g i else 0 : Nat) : Int)) :=
  row_next (h.congr fun i _ => by by_cases hi : i = j <;> simp [hi]) hx
theorem row_next0 {w : World} {k t n j : Nat} {g : Nat → Nat} (h : RowAt w k t n (fun i => .int .i64 ((if i < j then g i else 0 : Nat) : Int))) (hx : g j = 0) :
    RowAt w k t n (fun i => .int .i64 ((if i < j + 1 then g i else 0 : Nat) : Int)) :=
  h.congr fun i _ => by
    by_cases hi : i = j
    · subst hi; simp [hx]
    · have e : (i < j + 1) = (i < j) := by rw [eq_iff_iff]; omega
      simp [e]
theorem rank_succ (f : Nat → Bool) (j : Nat) : rank f (j + 1) = rank f j + (if need f j then 1 else 0) := rfl

theorem manyTo_pos (f : Nat → Bool) (k i : Nat) (hi : i < k) (hf : f i = true) : 1 ≤ manyTo f k := by
  induction k with
  | zero => omega
  | succ k ih =>
    rw [manyTo]
    by_cases h : i = k
    · subst h; simp [hf]
    · have := ih (by omega); omega
theorem two_pow_wrap (k : Nat) (hk : k ≤ 8) : wrap64 (2 * 2 ^ k) = ((2 ^ (k + 1) : Nat) : Int) := by
  have h2 : 2 ^ (k + 1) ≤ 2 ^ 9 := Nat.pow_le_pow_right (by omega) (by omega)
  have e : (2 : Int) * 2 ^ k = ((2 ^ (k + 1) : Nat) : Int) := by rw [Nat.pow_succ]; simp [Int.mul_comm]
  have hm : ∀ m : Nat, m ≤ 512 → wrap64 (m : Int) = m := fun m hm => IntWalk.wrap64_in _ ⟨by omega, by omega⟩
  rw [e]
  exact hm _ h2

end Go.Bel
