/- Proved here: what bytes hold when bits are laid into them one by one; nothing of the program. -/
import Derived.Test.YtnoemlailgbpoaaDoorAppRow
namespace Go.Bel
open Go Go.RowKit

/- The bytes B hold the bits bs, and noughts behind them. -/
structure BitsIn (bs : List Bool) (B : List Nat) : Prop where
  byte : ∀ i : Nat, B[i]?.getD 0 < 256
  bit : ∀ p : Nat, bitAt B p = (bs[p]?.getD false).toNat

theorem BitsIn.nil : BitsIn [] [] := ⟨fun i => by simp, fun p => by simp [bitAt]⟩

theorem getD_snoc_zero (B : List Nat) (i : Nat) : (B ++ [0])[i]?.getD 0 = B[i]?.getD 0 := by
  rcases Nat.lt_trichotomy i B.length with h | h | h
  · rw [List.getElem?_append_left h]
  · subst h; simp
  · rw [List.getElem?_eq_none (by simp; omega), List.getElem?_eq_none (by omega)]

theorem BitsIn.zero {bs : List Bool} {B : List Nat} (h : BitsIn bs B) : BitsIn bs (B ++ [0]) :=
  ⟨fun i => by rw [getD_snoc_zero]; exact h.byte i, fun p => by unfold bitAt; rw [getD_snoc_zero]; exact h.bit p⟩

theorem getD_snoc_false (bs : List Bool) (p : Nat) : (bs ++ [false])[p]?.getD false = bs[p]?.getD false := by
  rcases Nat.lt_trichotomy p bs.length with h | h | h
  · rw [List.getElem?_append_left h]
  · subst h; simp
  · rw [List.getElem?_eq_none (by simp; omega), List.getElem?_eq_none (by omega)]

theorem BitsIn.noBit {bs : List Bool} {B : List Nat} (h : BitsIn bs B) : BitsIn (bs ++ [false]) B :=
  ⟨h.byte, fun p => by rw [getD_snoc_false]; exact h.bit p⟩

theorem or_pow_lt (a k : Nat) (ha : a < 256) (hk : k < 8) : a ||| 2 ^ k < 256 := by
  have : 2 ^ k < 2 ^ 8 := Nat.pow_lt_pow_right (by omega) hk
  have h := Nat.or_lt_two_pow (n := 8) ha this
  exact h

theorem bit_or_pow (a k j : Nat) : (a ||| 2 ^ k) / 2 ^ j % 2 = if j = k then 1 else a / 2 ^ j % 2 := by
  have h := Nat.testBit_or a (2 ^ k) j
  rw [Nat.testBit_two_pow] at h
  have e : ∀ x : Nat, x / 2 ^ j % 2 = (x.testBit j).toNat := fun x => by rw [Nat.testBit_eq_decide_div_mod_eq]; rcases Nat.mod_two_eq_zero_or_one (x / 2 ^ j) with h | h <;> simp [h]
  rw [e, e, h]
  by_cases hk : j = k
  · subst hk; simp
  · have : ¬ k = j := fun x => hk x.symm
    simp [hk, this]

theorem getD_set (B : List Nat) (j x i : Nat) (hj : j < B.length) : (B.set j x)[i]?.getD 0 = if i = j then x else B[i]?.getD 0 := by
  by_cases h : i = j
  · subst h; simp [hj]
  · rw [List.getElem?_set_ne (by omega), if_neg h]

theorem BitsIn.oneBit {bs : List Bool} {B : List Nat} (h : BitsIn bs B) (hl : bs.length / 8 < B.length) :
    BitsIn (bs ++ [true]) (B.set (bs.length / 8) (B[bs.length / 8]?.getD 0 ||| 2 ^ (bs.length % 8))) := by
  refine ⟨fun i => ?_, fun p => ?_⟩
  · rw [getD_set _ _ _ _ hl]
    split
    · exact or_pow_lt _ _ (h.byte _) (Nat.mod_lt _ (by omega))
    · exact h.byte i
  · have hb := h.bit p
    unfold bitAt at hb ⊢
    rw [getD_set _ _ _ _ hl]
    by_cases hp : p = bs.length
    · subst hp
      rw [if_pos rfl, bit_or_pow, if_pos rfl]
      simp
    · have hg : (bs ++ [true])[p]?.getD false = bs[p]?.getD false := by
        rcases Nat.lt_trichotomy p bs.length with h | h | h
        · rw [List.getElem?_append_left h]
        · exact absurd h hp
        · rw [List.getElem?_eq_none (by simp; omega), List.getElem?_eq_none (by omega)]
      rw [hg]
      by_cases hq : p / 8 = bs.length / 8
      · rw [if_pos hq, bit_or_pow, if_neg (by omega), ← hq]; exact hb
      · rw [if_neg hq]; exact hb

/- The value of a slot that holds bytes. -/
abbrev u8s (B : List Nat) : List Value := B.map fun c => Value.int .u8 (c : Nat)

/- A writer of bits at block b, its bytes in a row of its own; how many bytes there are is left open. -/
structure BitsRow (w : World) (b base t e : Nat) (v : Value) (bs : List Bool) (B : List Nat) : Prop where
  blk : w.heap[b]? = some (.cells #[v, .int .i64 (bs.length : Nat)] t (0, 0))
  own : w.ownsRow base e 1 v B.length (u8s B)
  bits : BitsIn bs B
  apart : b < base

/- A writer of bits, its bytes as many as its bits want. -/
structure BitsAt (w : World) (b base t e : Nat) (v : Value) (bs : List Bool) (B : List Nat) : Prop where
  row : BitsRow w b base t e v bs B
  len : B.length = (bs.length + 7) / 8

/- What a writer of bits leaves alone: all but its own block and its row; its row stays, or is new. -/
structure Wrt (b : Nat) (w : World) (v : Value) (w' : World) (v' : Value) : Prop where
  step : Step (fun k => k = b ∨ v.ownBlock = some k) w w'
  own : ∀ k, v'.ownBlock = some k → v.ownBlock = some k ∨ w.heap.size ≤ k

theorem Wrt.refl (b : Nat) (w : World) (v : Value) : Wrt b w v w v := ⟨Step.refl _ _, fun _ h => .inl h⟩
theorem Wrt.trans {b : Nat} {w w1 w2 : World} {v v1 v2 : Value} (h : Wrt b w v w1 v1) (k : Wrt b w1 v1 w2 v2) : Wrt b w v w2 v2 :=
  ⟨h.step.trans' k.step fun i hi hx => by
      rcases hx with hx | hx
      · exact .inl hx
      · rcases h.own i hx with hy | hy
        · exact .inr hy
        · omega,
    fun i hi => by
      rcases k.own i hi with hx | hx
      · exact h.own i hx
      · have := h.step.size; exact .inr (by omega)⟩

theorem u8s_get (B : List Nat) (i : Nat) (h : i < B.length) : (u8s B)[i]? = some (.int .u8 (B[i]?.getD 0 : Nat)) := by
  simp [u8s, List.getElem?_map, List.getElem?_eq_getElem h]

theorem BitsRow.shape {w : World} {b base t e : Nat} {v : Value} {bs : List Bool} {B : List Nat} (h : BitsRow w b base t e v bs B) (hB : 0 < B.length) :
    ∃ g cap, v = .slice (some ⟨g, 0, none⟩) B.length cap ∧ g ≠ b ∧ base ≤ g ∧ (∀ i, i < B.length → w.cell? ⟨g, i, none⟩ = some (.int .u8 (B[i]?.getD 0 : Nat))) ∧ (∀ i, w.frozen? ⟨g, i, none⟩ = false) := by
  have ho := h.own
  obtain ⟨_, ⟨_, hn⟩ | ⟨g, cap, cur, rfl, hg, hh, _, _, _, _⟩⟩ := h.own
  · omega
  have := h.apart
  exact ⟨g, cap, rfl, by omega, hg, fun i hi => by rw [ho.cellAt i (by omega)]; exact u8s_get B i hi, fun i => blk_free hh i⟩

theorem or_val (a k : Nat) (ha : a < 256) (hk : k < 8) : bits BinOp.or IntKind.u8 (a : Int) (2 ^ k % 256) = ((a ||| 2 ^ k : Nat) : Int) := by
  have h2 : 2 ^ k < 2 ^ 8 := Nat.pow_lt_pow_right (by omega) hk
  have e : ((2 : Int) ^ k % 256) = ((2 ^ k : Nat) : Int) := by
    have em : ∀ m : Nat, m < 256 → (m : Int) % 256 = m := by omega
    rw [show ((2 : Int) ^ k) = ((2 ^ k : Nat) : Int) by simp, em _ (by simpa using h2)]
  rw [e, bits_or_u8 a _ ha (by omega)]

theorem BitsRow.put1 {w : World} {b base t e g cap : Nat} {bs : List Bool} {B : List Nat} (h : BitsRow w b base t e (.slice (some ⟨g, 0, none⟩) B.length cap) bs B) (hl : bs.length / 8 < B.length) (hg : g ≠ b) :
    BitsRow ((w.setCell ⟨g, bs.length / 8, none⟩ (.int .u8 (Go.bits BinOp.or IntKind.u8 (B[bs.length / 8]?.getD 0 : Nat) (2 ^ (bs.length % 8) % 256)))).setCell ⟨b, 1, none⟩ (.int .i64 ((bs.length : Int) + 1))).drew
      b base t e (.slice (some ⟨g, 0, none⟩) B.length cap) (bs ++ [true]) (B.set (bs.length / 8) (B[bs.length / 8]?.getD 0 ||| 2 ^ (bs.length % 8))) := by
  rw [or_val _ _ (h.bits.byte _) (Nat.mod_lt _ (by omega))]
  refine ⟨?_, ?_, h.bits.oneBit hl, h.apart⟩
  · have h1 : (w.setCell ⟨g, bs.length / 8, none⟩ (.int .u8 ((B[bs.length / 8]?.getD 0 ||| 2 ^ (bs.length % 8) : Nat) : Int))).heap[b]? = _ := (Below.heap_setCell _ _ _ _ (fun x => hg x.symm)).trans h.blk
    have := blk_set h1 1 (.int .i64 ((bs.length : Int) + 1))
    show (World.setCell _ _ _).heap[b]? = _
    simpa using this
  · have ho := (h.own.stored (bs.length / 8) (.int .u8 ((B[bs.length / 8]?.getD 0 ||| 2 ^ (bs.length % 8) : Nat) : Int))).1
    have ho2 := ownsRow_setCell_other ho (a := ⟨b, 1, none⟩) (by simp [Value.ownBlock, hg]) (.int .i64 ((bs.length : Int) + 1))
    have ho3 := ho2.drew
    rw [List.length_set]
    have e : (u8s B).set (bs.length / 8) (.int .u8 ((B[bs.length / 8]?.getD 0 ||| 2 ^ (bs.length % 8) : Nat) : Int)) = u8s (B.set (bs.length / 8) (B[bs.length / 8]?.getD 0 ||| 2 ^ (bs.length % 8))) := by simp [u8s, List.map_set]
    rw [← e]
    exact ho3

theorem BitsRow.put0 {w : World} {b base t e : Nat} {v : Value} {bs : List Bool} {B : List Nat} (h : BitsRow w b base t e v bs B) :
    BitsRow (w.setCell ⟨b, 1, none⟩ (.int .i64 ((bs.length : Int) + 1))) b base t e v (bs ++ [false]) B := by
  refine ⟨?_, ?_, h.bits.noBit, h.apart⟩
  · have := blk_set h.blk 1 (.int .i64 ((bs.length : Int) + 1))
    simpa using this
  · exact ownsRow_setCell_other h.own (a := ⟨b, 1, none⟩) (fun hk => by have := (h.own.lt b hk).1; have := h.apart; omega) _

/- behind the append of a nought and its store -/
theorem BitsRow.grow {w w1 : World} {b base t e g cap : Nat} {v : Value} {bs : List Bool} {B : List Nat} (h : BitsRow w b base t e v bs B) (o : Obj)
    (hown : w1.ownsRow base e 1 (.slice (some ⟨g, 0, none⟩) (B.length + 1) cap) (B.length + 1) (u8s B ++ [.int .u8 0])) (hgr : (w.alloc o).grownBy w1 v.ownBlock) (hg : v.ownBlock = some g ∨ (w.alloc o).heap.size ≤ g) :
    w1.heap[b]? = some (.cells #[v, .int .i64 (bs.length : Nat)] t (0, 0)) ∧
    BitsRow (w1.setCell ⟨b, 0, none⟩ (.slice (some ⟨g, 0, none⟩) (B.length + 1) cap)) b base t e (.slice (some ⟨g, 0, none⟩) (B ++ [0]).length cap) bs (B ++ [0]) ∧
    Wrt b w v (w1.setCell ⟨b, 0, none⟩ (.slice (some ⟨g, 0, none⟩) (B.length + 1) cap)) (.slice (some ⟨g, 0, none⟩) (B ++ [0]).length cap) := by
  have hap := h.apart
  have hgb : base ≤ g := (hown.lt g rfl).1
  have hne : v.ownBlock ≠ some b := fun hk => by have := (h.own.lt b hk).1; omega
  have hb0 : (w.alloc o).heap[b]? = _ := (Below.heap_alloc w o b (lt_of_block h.blk)).trans h.blk
  have hb1 : w1.heap[b]? = _ := (hgr.block b (by have := lt_of_block hb0; exact this) (fun x => hne x.symm)).trans hb0
  have el : (B ++ [0]).length = B.length + 1 := by simp
  have eu : u8s B ++ [.int .u8 0] = u8s (B ++ [0]) := by simp [u8s]
  refine ⟨hb1, ⟨?_, ?_, h.bits.zero, hap⟩, ⟨?_, ?_⟩⟩
  · have := blk_set hb1 0 (.slice (some ⟨g, 0, none⟩) (B.length + 1) cap)
    rw [el]
    simpa using this
  · rw [el, ← eu]
    exact ownsRow_setCell_other hown (a := ⟨b, 0, none⟩) (by simp [Value.ownBlock]; omega) _
  · refine Step.setCell (((Step.refl _ w).alloc o).grown hgr fun k hk => .inl (.inr hk)) ?_ _
    exact .inl rfl
  · intro k hk
    simp only [Value.ownBlock, Option.some.injEq] at hk
    subst hk
    rcases hg with hg | hg
    · exact .inl hg
    · right; simp at hg; omega


/- A writer of bits, whatever its bytes are. -/
def Bw (w : World) (b base t e : Nat) (v : Value) (bs : List Bool) : Prop := ∃ B, BitsAt w b base t e v bs B

def numBits (x n : Nat) : List Bool := (List.range n).map fun i => decide (x / 2 ^ i % 2 = 1)
theorem numBits_succ (x n : Nat) : numBits x (n + 1) = numBits x n ++ [decide (x / 2 ^ n % 2 = 1)] := by simp [numBits, List.range_succ]
theorem numBits_length (x n : Nat) : (numBits x n).length = n := by simp [numBits]

/- the first k bits of a code of n bits, the highest first -/
def codeTo (x n k : Nat) : List Bool := (List.range k).map fun j => decide (x / 2 ^ (n - 1 - j) % 2 = 1)
def codeBits (x n : Nat) : List Bool := codeTo x n n
theorem codeTo_succ (x n k : Nat) : codeTo x n (k + 1) = codeTo x n k ++ [decide (x / 2 ^ (n - 1 - k) % 2 = 1)] := by simp [codeTo, List.range_succ]
theorem codeTo_length (x n k : Nat) : (codeTo x n k).length = k := by simp [codeTo]
theorem codeBits_length (x n : Nat) : (codeBits x n).length = n := by simp [codeBits, codeTo]

end Go.Bel
