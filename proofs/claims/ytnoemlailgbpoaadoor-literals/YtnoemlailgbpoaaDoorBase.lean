/- Proved here: small facts on numbers' bits and on blocks of memory that the walks of this seat use; nothing of the program. -/
import Derived.WalkKit
import Derived.WalkSpells
import Derived.WalkLawsBesides
import Derived.Deep.QuietTactic
import Derived.BigQuiet
namespace Go.Bel
open Go Go.RowKit

theorem hide {p : Prop} (h : p) : Hid p := h
theorem unhide {p : Prop} (h : Hid p) : p := h

theorem ofInt_nat (k n : Nat) (h : n < 2 ^ k) : (BitVec.ofInt k (n : Int)).toNat = n := by
  rw [BitVec.ofInt_natCast, BitVec.toNat_ofNat]; exact Nat.mod_eq_of_lt h

theorem bits_and_u8 (a b : Nat) (ha : a < 256) (hb : b < 256) : bits .and .u8 (a : Int) (b : Int) = ((a &&& b : Nat) : Int) := by
  have hx : a &&& b < 2 ^ 8 := Nat.and_lt_two_pow _ (by omega)
  show IntKind.u8.wrap ((BitVec.ofInt 8 (a : Int) &&& BitVec.ofInt 8 (b : Int)).toNat : Int) = _
  rw [BitVec.toNat_and, ofInt_nat 8 a (by omega), ofInt_nat 8 b (by omega), IntKind.wrap_u8]
  omega

theorem bits_or_u8 (a b : Nat) (ha : a < 256) (hb : b < 256) : bits .or .u8 (a : Int) (b : Int) = ((a ||| b : Nat) : Int) := by
  have hx : a ||| b < 2 ^ 8 := Nat.or_lt_two_pow (by omega) (by omega)
  show IntKind.u8.wrap ((BitVec.ofInt 8 (a : Int) ||| BitVec.ofInt 8 (b : Int)).toNat : Int) = _
  rw [BitVec.toNat_or, ofInt_nat 8 a (by omega), ofInt_nat 8 b (by omega), IntKind.wrap_u8]
  omega

theorem bits_or_u32 (a b : Nat) (ha : a < 2 ^ 32) (hb : b < 2 ^ 32) : bits .or .u32 (a : Int) (b : Int) = ((a ||| b : Nat) : Int) := by
  have hx : a ||| b < 2 ^ 32 := Nat.or_lt_two_pow (by omega) (by omega)
  show IntKind.u32.wrap ((BitVec.ofInt 32 (a : Int) ||| BitVec.ofInt 32 (b : Int)).toNat : Int) = _
  rw [BitVec.toNat_or, ofInt_nat 32 a (by omega), ofInt_nat 32 b (by omega), IntKind.wrap_u32]
  omega

theorem bits_or_i64 (a b : Nat) (ha : a < 2 ^ 63) (hb : b < 2 ^ 63) : bits .or .i64 (a : Int) (b : Int) = ((a ||| b : Nat) : Int) := by
  have hx : a ||| b < 2 ^ 63 := Nat.or_lt_two_pow (by omega) (by omega)
  show IntKind.i64.wrap ((BitVec.ofInt 64 (a : Int) ||| BitVec.ofInt 64 (b : Int)).toNat : Int) = _
  rw [BitVec.toNat_or, ofInt_nat 64 a (by omega), ofInt_nat 64 b (by omega), IntKind.wrap_i64]
  omega

theorem and_one_u8 (a : Nat) (ha : a < 256) : bits .and .u8 (a : Int) 1 = ((a % 2 : Nat) : Int) := by
  have := bits_and_u8 a 1 ha (by omega)
  rw [Nat.and_one_is_mod] at this
  exact this

/- Bits of bytes. -/
def bitAt (B : List Nat) (p : Nat) : Nat := B[p / 8]?.getD 0 / 2 ^ (p % 8) % 2

theorem bitAt_lt (B : List Nat) (p : Nat) : bitAt B p < 2 := by unfold bitAt; omega

/- The number of n bits from bit p on, the lowest first. -/
def numAt (B : List Nat) (p : Nat) : Nat → Nat
  | 0 => 0
  | n + 1 => numAt B p n + bitAt B (p + n) * 2 ^ n

theorem numAt_lt (B : List Nat) (p n : Nat) : numAt B p n < 2 ^ n := by
  induction n with
  | zero => simp [numAt]
  | succ n ih =>
    have := bitAt_lt B (p + n)
    rw [numAt, Nat.pow_succ]
    have h : bitAt B (p + n) = 0 ∨ bitAt B (p + n) = 1 := by omega
    rcases h with h | h <;> rw [h] <;> omega

theorem or_high (a b k : Nat) (ha : a < 2 ^ k) : a ||| b * 2 ^ k = a + b * 2 ^ k := by
  rw [Nat.mul_comm, Nat.or_comm, ← Nat.two_pow_add_eq_or_of_lt ha, Nat.add_comm]

theorem or_bit (a b k : Nat) (hk : k ≤ 61) (hb : b < 2) (ha : a < 2 ^ k) : bits .or .i64 (a : Int) (wrap64 ((b : Int) * 2 ^ k)) = ((a + b * 2 ^ k : Nat) : Int) := by
  have hp : 2 ^ k ≤ 2 ^ 61 := Nat.pow_le_pow_right (by omega) hk
  have e : ((b : Int) * 2 ^ k) = ((b * 2 ^ k : Nat) : Int) := by simp
  have hb2 : b * 2 ^ k ≤ 1 * 2 ^ k := Nat.mul_le_mul_right _ (by omega)
  rw [e, IntWalk.wrap64_in _ ⟨by omega, by omega⟩, bits_or_i64 _ _ (by omega) (by omega), or_high a b k ha]

/- Bytes that lie in memory from an address on. -/
structure Src (w : World) (g off : Nat) (B : List Nat) : Prop where
  cell : ∀ i : Nat, i < B.length → w.cell? ⟨g, off + i, none⟩ = some (.int .u8 (B[i]?.getD 0 : Nat))
  byte : ∀ i : Nat, B[i]?.getD 0 < 256
  much : B.length ≤ 140737488351232

theorem Src.of_block {w w' : World} {g off : Nat} {B : List Nat} (h : Src w g off B) (hb : w'.heap[g]? = w.heap[g]?) : Src w' g off B :=
  ⟨fun i hi => (World.cell?_of_block (a := ⟨g, off + i, none⟩) hb).trans (h.cell i hi), h.byte, h.much⟩

/- A block of cells, none of them frozen. -/
theorem blk_cell {w : World} {b : Nat} {cs : Array Value} {t : TypeId} (h : w.heap[b]? = some (.cells cs t (0, 0))) (i : Nat) (v : Value) (hi : cs[i]? = some v) : w.cell? ⟨b, i, none⟩ = some v := by
  simp [World.cell?, h, hi]
theorem blk_free {w : World} {b : Nat} {cs : Array Value} {t : TypeId} (h : w.heap[b]? = some (.cells cs t (0, 0))) (i : Nat) : w.frozen? ⟨b, i, none⟩ = false := by
  simp [World.frozen?, h]
theorem blk_set {w : World} {b : Nat} {cs : Array Value} {t : TypeId} (h : w.heap[b]? = some (.cells cs t (0, 0))) (i : Nat) (u : Value) :
    (w.setCell ⟨b, i, none⟩ u).heap[b]? = some (.cells (cs.set! i u) t (0, 0)) := by
  have hlt := lt_of_block h
  have h' : w.heap[b] = .cells cs t (0, 0) := by simpa [Array.getElem?_eq_getElem hlt] using h
  show (w.heap.modify b _)[b]? = _
  rw [Array.getElem?_eq_getElem (by simpa using hlt), Array.getElem_modify_self, h']
  rfl

theorem blk_two {w : World} {b : Nat} {u v : Value} {t : TypeId} (h : w.heap[b]? = some (.cells #[u, v] t (0, 0))) :
    w.cell? ⟨b, 0, none⟩ = some u ∧ w.cell? ⟨b, 1, none⟩ = some v ∧ w.frozen? ⟨b, 0, none⟩ = false ∧ w.frozen? ⟨b, 1, none⟩ = false :=
  ⟨blk_cell h 0 u rfl, blk_cell h 1 v rfl, blk_free h 0, blk_free h 1⟩

/- What a call leaves alone: every block that was there, but those of S. -/
structure Step (S : Nat → Prop) (w w' : World) : Prop where
  os : w'.os = w.os
  tape : w'.tape = w.tape
  output : w'.output = w.output
  size : w.heap.size ≤ w'.heap.size
  block : ∀ k, k < w.heap.size → ¬ S k → w'.heap[k]? = w.heap[k]?

namespace Step
variable {S S' : Nat → Prop} {a b c w w' : World}
theorem refl (S : Nat → Prop) (w : World) : Step S w w := ⟨rfl, rfl, rfl, Nat.le_refl _, fun _ _ _ => rfl⟩
theorem mono (h : Step S w w') (hs : ∀ k, S k → S' k) : Step S' w w' := ⟨h.os, h.tape, h.output, h.size, fun k hk hn => h.block k hk fun x => hn (hs k x)⟩
theorem trans (h : Step S a b) (k : Step S b c) : Step S a c :=
  ⟨k.os.trans h.os, k.tape.trans h.tape, k.output.trans h.output, Nat.le_trans h.size k.size, fun i hi hn => (k.block i (Nat.lt_of_lt_of_le hi h.size) hn).trans (h.block i hi hn)⟩
/- blocks that are new with the first step may be written by the second -/
theorem trans' (h : Step S a b) (k : Step S' b c) (hs : ∀ i, i < a.heap.size → S' i → S i) : Step S a c :=
  ⟨k.os.trans h.os, k.tape.trans h.tape, k.output.trans h.output, Nat.le_trans h.size k.size, fun i hi hn => (k.block i (Nat.lt_of_lt_of_le hi h.size) fun x => hn (hs i hi x)).trans (h.block i hi hn)⟩
theorem drewN (h : Step S a w) (n : Nat) : Step S a (w.drewN n) := h.trans ⟨rfl, rfl, rfl, Nat.le_refl _, fun _ _ _ => rfl⟩
theorem drew (h : Step S a w) : Step S a w.drew := h.trans ⟨rfl, rfl, rfl, Nat.le_refl _, fun _ _ _ => rfl⟩
theorem alloc (h : Step S a w) (o : Obj) : Step S a (w.alloc o) := h.trans ⟨rfl, rfl, rfl, by simp, fun k hk _ => Below.heap_alloc _ _ _ hk⟩
theorem setCell (h : Step S a w) {p : Addr} (hp : S p.block) (u : Value) : Step S a (w.setCell p u) :=
  h.trans ⟨rfl, rfl, rfl, by simp [World.setCell], fun k _ hn => Below.heap_setCell _ _ _ _ (fun e => hn (e ▸ hp))⟩
theorem setNew (h : Step S a w) {p : Addr} (hp : a.heap.size ≤ p.block) (u : Value) : Step S a (w.setCell p u) :=
  ⟨h.os, h.tape, h.output, by simpa [World.setCell] using h.size, fun k hk hn => (Below.heap_setCell _ _ _ _ (by omega)).trans (h.block k hk hn)⟩
theorem grown {row : Option Nat} (h : Step S a w) (hg : w.grownBy w' row) (hr : ∀ k, row = some k → S k ∨ a.heap.size ≤ k) : Step S a w' :=
  ⟨hg.os.trans h.os, hg.tape.trans h.tape, hg.output.trans h.output, Nat.le_trans h.size hg.size, fun k hk hn =>
    (hg.block k (Nat.lt_of_lt_of_le hk h.size) (fun e => by rcases hr k e.symm with x | x <;> first | exact hn x | omega)).trans (h.block k hk hn)⟩
theorem cell (h : Step S w w') {p : Addr} {v : Value} (hc : w.cell? p = some v) (hn : ¬ S p.block) : w'.cell? p = some v :=
  (World.cell?_of_block (h.block p.block (World.block_lt_of_cell? w p hc) hn)).trans hc
theorem at_ (h : Step S w w') {k : Nat} {o : Obj} (hk : w.heap[k]? = some o) (hn : ¬ S k) : w'.heap[k]? = some o :=
  (h.block k (lt_of_block hk) hn).trans hk
theorem below (h : Step S w w') {B : Nat} (hB : B ≤ w.heap.size) (hs : ∀ k, S k → B ≤ k) : Below B w w' :=
  ⟨h.os, h.tape, h.output, h.size, fun k hk => h.block k (by omega) fun x => by have := hs k x; omega⟩
end Step

theorem Src.step {S : Nat → Prop} {w w' : World} {g off : Nat} {B : List Nat} (h : Src w g off B) (hs : Step S w w') (hn : ¬ S g) : Src w' g off B :=
  ⟨fun i hi => hs.cell (h.cell i hi) hn, h.byte, h.much⟩

/- A feed at block f has been moved to bit p'; nothing else that was there has turned. -/
structure Fed (f : Nat) (w w' : World) (p' : Nat) : Prop where
  step : Step (· = f) w w'
  feed : ∀ s p t, w.heap[f]? = some (.cells #[s, .int .i64 p] t (0, 0)) → w'.heap[f]? = some (.cells #[s, .int .i64 (p' : Nat)] t (0, 0))

theorem Fed.trans {f : Nat} {a b c : World} {p q : Nat} (h : Fed f a b p) (k : Fed f b c q) : Fed f a c q :=
  ⟨h.step.trans k.step, fun s x t hx => k.feed s p t (h.feed s x t hx)⟩
theorem Fed.refl {f : Nat} {w : World} {s : Value} {p : Nat} {t : TypeId} (h : w.heap[f]? = some (.cells #[s, .int .i64 (p : Nat)] t (0, 0))) : Fed f w w p :=
  ⟨Step.refl _ _, fun s' p' t' hx => by rw [h] at hx; cases hx; exact h⟩
theorem Fed.set (f : Nat) (w : World) (p' n : Nat) : Fed f w ((w.setCell ⟨f, 1, none⟩ (.int .i64 (p' : Nat))).drewN n) p' :=
  ⟨((Step.refl (· = f) w).setCell (p := ⟨f, 1, none⟩) rfl _).drewN n, fun s p t hx => by
    have := blk_set hx 1 (.int .i64 (p' : Nat))
    simpa using this⟩
end Go.Bel
