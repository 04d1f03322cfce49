/- Proved here: small facts on numbers' bits and on blocks of memory that the walks of this seat use; nothing of the program. -/
import Derived.WalkKit
import Derived.WalkSpells
import Derived.WalkLawsBesides
import Derived.Deep.QuietTactic
import Derived.BigQuiet
import Derived.Test.YtbpahojchgpdnaaGreatDoorRows
import Derived.Deep.RegionHeld3
import Derived.Maps.Own
import Derived.Maps.OwnOps
import Derived.Maps.OwnSet
import Derived.Laws.Tables
import Derived.Deep.WholeRow
set_option maxRecDepth 20000
set_option maxHeartbeats 4000000
namespace Go.Bel
open Go Go.RowKit
theorem hide {p : Prop} (h : p) : Hid p := h
theorem unhide {p : Prop} (h : Hid p) : p := h
theorem ofInt_nat (k n : Nat) (h : n < 2 ^ k) : (BitVec.ofInt k (n : Int)).toNat = n := by
 rw [BitVec.ofInt_natCast, BitVec.toNat_ofNat]; exact Nat.mod_eq_of_lt h
theorem bits_and_u8 (a b : Nat) (ha : a < 256) (hb : b < 256) : bits .and .u8 (a : Int) (b : Int) = ((a &&& b : Nat) : Int) := by
 have hx : a &&& b < 2 ^ 8 := Nat.and_lt_two_pow _ (by omega)
 show IntKind.u8.wrap ((BitVec.ofInt 8 (a : Int) &&& BitVec.ofInt 8 (b : Int)).toNat : Int) = _
 rw [BitVec.toNat_and, ofInt_nat 8 a (by omega), ofInt_nat 8 b (by omega), IntKind.wrap_u8]
 omega
theorem bits_or_u8 (a b : Nat) (ha : a < 256) (hb : b < 256) : bits .or .u8 (a : Int) (b : Int) = ((a ||| b : Nat) : Int) := by
 have hx : a ||| b < 2 ^ 8 := Nat.or_lt_two_pow (by omega) (by omega)
 show IntKind.u8.wrap ((BitVec.ofInt 8 (a : Int) ||| BitVec.ofInt 8 (b : Int)).toNat : Int) = _
 rw [BitVec.toNat_or, ofInt_nat 8 a (by omega), ofInt_nat 8 b (by omega), IntKind.wrap_u8]
 omega
theorem bits_or_u32 (a b : Nat) (ha : a < 2 ^ 32) (hb : b < 2 ^ 32) : bits .or .u32 (a : Int) (b : Int) = ((a ||| b : Nat) : Int) := by
 have hx : a ||| b < 2 ^ 32 := Nat.or_lt_two_pow (by omega) (by omega)
 show IntKind.u32.wrap ((BitVec.ofInt 32 (a : Int) ||| BitVec.ofInt 32 (b : Int)).toNat : Int) = _
 rw [BitVec.toNat_or, ofInt_nat 32 a (by omega), ofInt_nat 32 b (by omega), IntKind.wrap_u32]
 omega
theorem bits_or_i64 (a b : Nat) (ha : a < 2 ^ 63) (hb : b < 2 ^ 63) : bits .or .i64 (a : Int) (b : Int) = ((a ||| b : Nat) : Int) := by
 have hx : a ||| b < 2 ^ 63 := Nat.or_lt_two_pow (by omega) (by omega)
 show IntKind.i64.wrap ((BitVec.ofInt 64 (a : Int) ||| BitVec.ofInt 64 (b : Int)).toNat : Int) = _
 rw [BitVec.toNat_or, ofInt_nat 64 a (by omega), ofInt_nat 64 b (by omega), IntKind.wrap_i64]
 omega
theorem and_one_u8 (a : Nat) (ha : a < 256) : bits .and .u8 (a : Int) 1 = ((a % 2 : Nat) : Int) := by
 have := bits_and_u8 a 1 ha (by omega)
 rw [Nat.and_one_is_mod] at this
 exact this
def bitAt (B : List Nat) (p : Nat) : Nat := B[p / 8]?.getD 0 / 2 ^ (p % 8) % 2
theorem bitAt_lt (B : List Nat) (p : Nat) : bitAt B p < 2 := by unfold bitAt; omega
def numAt (B : List Nat) (p : Nat) : Nat → Nat
 | 0 => 0
 | n + 1 => numAt B p n + bitAt B (p + n) * 2 ^ n
theorem numAt_lt (B : List Nat) (p n : Nat) : numAt B p n < 2 ^ n := by
 induction n with
 | zero => simp [numAt]
 | succ n ih =>
  have := bitAt_lt B (p + n)
  rw [numAt, Nat.pow_succ]
  have h : bitAt B (p + n) = 0 ∨ bitAt B (p + n) = 1 := by omega
  rcases h with h | h <;> rw [h] <;> omega
theorem or_high (a b k : Nat) (ha : a < 2 ^ k) : a ||| b * 2 ^ k = a + b * 2 ^ k := by
 rw [Nat.mul_comm, Nat.or_comm, ← Nat.two_pow_add_eq_or_of_lt ha, Nat.add_comm]
theorem or_bit (a b k : Nat) (hk : k ≤ 61) (hb : b < 2) (ha : a < 2 ^ k) : bits .or .i64 (a : Int) (wrap64 ((b : Int) * 2 ^ k)) = ((a + b * 2 ^ k : Nat) : Int) := by
 have hp : 2 ^ k ≤ 2 ^ 61 := Nat.pow_le_pow_right (by omega) hk
 have e : ((b : Int) * 2 ^ k) = ((b * 2 ^ k : Nat) : Int) := by simp
 have hb2 : b * 2 ^ k ≤ 1 * 2 ^ k := Nat.mul_le_mul_right _ (by omega)
 rw [e, IntWalk.wrap64_in _ ⟨by omega, by omega⟩, bits_or_i64 _ _ (by omega) (by omega), or_high a b k ha]
def fedA (g off n : Nat) : Option Addr := if off = 4611686018427387904 ∧ n = 0 then none else some ⟨g, off, none⟩
theorem fedA_pos {g off n : Nat} (h : 0 < n) : fedA g off n = some ⟨g, off, none⟩ := if_neg (by omega)
theorem fedA_at {g off n : Nat} (h : off < 4611686018427387904) : fedA g off n = some ⟨g, off, none⟩ := if_neg (by omega)
theorem fedA_none (g : Nat) : fedA g 4611686018427387904 0 = none := if_pos ⟨rfl, rfl⟩
structure Src (w : World) (g off : Nat) (B : List Nat) : Prop where
 cell : ∀ i : Nat, i < B.length → w.cell? ⟨g, off + i, none⟩ = some (.int .u8 (B[i]?.getD 0 : Nat))
 byte : ∀ i : Nat, B[i]?.getD 0 < 256
 much : B.length ≤ 140737488351232
theorem blk_cell {w : World} {b : Nat} {cs : Array Value} {t : TypeId} (h : w.heap[b]? = some (.cells cs t (0, 0))) (i : Nat) (v : Value) (hi : cs[i]? = some v) : w.cell? ⟨b, i, none⟩ = some v := by
 simp [World.cell?, h, hi]
theorem blk_free {w : World} {b : Nat} {cs : Array Value} {t : TypeId} (h : w.heap[b]? = some (.cells cs t (0, 0))) (i : Nat) : w.frozen? ⟨b, i, none⟩ = false := by
 simp [World.frozen?, h]
theorem blk_set {w : World} {b : Nat} {cs : Array Value} {t : TypeId} (h : w.heap[b]? = some (.cells cs t (0, 0))) (i : Nat) (u : Value) :
  (w.setCell ⟨b, i, none⟩ u).heap[b]? = some (.cells (cs.set! i u) t (0, 0)) := by
 have hlt := lt_of_block h
 have h' : w.heap[b] = .cells cs t (0, 0) := by simpa [Array.getElem?_eq_getElem hlt] using h
 show (w.heap.modify b _)[b]? = _
 rw [Array.getElem?_eq_getElem (by simpa using hlt), Array.getElem_modify_self, h']
 rfl
theorem blk_three {w : World} {b : Nat} {u v x : Value} {t : TypeId} (h : w.heap[b]? = some (.cells #[u, v, x] t (0, 0))) :
  w.cell? ⟨b, 0, none⟩ = some u ∧ w.cell? ⟨b, 1, none⟩ = some v ∧ w.frozen? ⟨b, 0, none⟩ = false ∧ w.frozen? ⟨b, 1, none⟩ = false ∧ w.cell? ⟨b, 2, none⟩ = some x ∧ w.frozen? ⟨b, 2, none⟩ = false :=
 ⟨blk_cell h 0 u rfl, blk_cell h 1 v rfl, blk_free h 0, blk_free h 1, blk_cell h 2 x rfl, blk_free h 2⟩
theorem blk_two {w : World} {b : Nat} {u v : Value} {t : TypeId} (h : w.heap[b]? = some (.cells #[u, v] t (0, 0))) :
  w.cell? ⟨b, 0, none⟩ = some u ∧ w.cell? ⟨b, 1, none⟩ = some v ∧ w.frozen? ⟨b, 0, none⟩ = false ∧ w.frozen? ⟨b, 1, none⟩ = false :=
 ⟨blk_cell h 0 u rfl, blk_cell h 1 v rfl, blk_free h 0, blk_free h 1⟩
structure Step (S : Nat → Prop) (w w' : World) : Prop where
 os : w'.os = w.os
 tape : w'.tape = w.tape
 output : w'.output = w.output
 size : w.heap.size ≤ w'.heap.size
 block : ∀ k, k < w.heap.size → ¬ S k → w'.heap[k]? = w.heap[k]?
namespace Step
variable {S S' : Nat → Prop} {a b c w w' : World}
theorem refl (S : Nat → Prop) (w : World) : Step S w w := ⟨rfl, rfl, rfl, Nat.le_refl _, fun _ _ _ => rfl⟩
theorem mono (h : Step S w w') (hs : ∀ k, S k → S' k) : Step S' w w' := ⟨h.os, h.tape, h.output, h.size, fun k hk hn => h.block k hk fun x => hn (hs k x)⟩
theorem trans (h : Step S a b) (k : Step S b c) : Step S a c :=
 ⟨k.os.trans h.os, k.tape.trans h.tape, k.output.trans h.output, Nat.le_trans h.size k.size, fun i hi hn => (k.block i (Nat.lt_of_lt_of_le hi h.size) hn).trans (h.block i hi hn)⟩
theorem trans' (h : Step S a b) (k : Step S' b c) (hs : ∀ i, i < a.heap.size → S' i → S i) : Step S a c :=
 ⟨k.os.trans h.os, k.tape.trans h.tape, k.output.trans h.output, Nat.le_trans h.size k.size, fun i hi hn => (k.block i (Nat.lt_of_lt_of_le hi h.size) fun x => hn (hs i hi x)).trans (h.block i hi hn)⟩
theorem drewN (h : Step S a w) (n : Nat) : Step S a (w.drewN n) := h.trans ⟨rfl, rfl, rfl, Nat.le_refl _, fun _ _ _ => rfl⟩
theorem drew (h : Step S a w) : Step S a w.drew := h.trans ⟨rfl, rfl, rfl, Nat.le_refl _, fun _ _ _ => rfl⟩
theorem alloc (h : Step S a w) (o : Obj) : Step S a (w.alloc o) := h.trans ⟨rfl, rfl, rfl, by simp, fun k hk _ => Below.heap_alloc _ _ _ hk⟩
theorem setCell (h : Step S a w) {p : Addr} (hp : S p.block) (u : Value) : Step S a (w.setCell p u) :=
 h.trans ⟨rfl, rfl, rfl, by simp [World.setCell], fun k _ hn => Below.heap_setCell _ _ _ _ (fun e => hn (e ▸ hp))⟩
theorem setNew (h : Step S a w) {p : Addr} (hp : a.heap.size ≤ p.block) (u : Value) : Step S a (w.setCell p u) :=
 ⟨h.os, h.tape, h.output, by simpa [World.setCell] using h.size, fun k hk hn => (Below.heap_setCell _ _ _ _ (by omega)).trans (h.block k hk hn)⟩
theorem grown {row : Option Nat} (h : Step S a w) (hg : w.grownBy w' row) (hr : ∀ k, row = some k → S k ∨ a.heap.size ≤ k) : Step S a w' :=
 ⟨hg.os.trans h.os, hg.tape.trans h.tape, hg.output.trans h.output, Nat.le_trans h.size hg.size, fun k hk hn =>
  (hg.block k (Nat.lt_of_lt_of_le hk h.size) (fun e => by rcases hr k e.symm with x | x <;> first | exact hn x | omega)).trans (h.block k hk hn)⟩
theorem cell (h : Step S w w') {p : Addr} {v : Value} (hc : w.cell? p = some v) (hn : ¬ S p.block) : w'.cell? p = some v :=
 (World.cell?_of_block (h.block p.block (World.block_lt_of_cell? w p hc) hn)).trans hc
theorem at_ (h : Step S w w') {k : Nat} {o : Obj} (hk : w.heap[k]? = some o) (hn : ¬ S k) : w'.heap[k]? = some o :=
 (h.block k (lt_of_block hk) hn).trans hk
end Step
theorem Src.step {S : Nat → Prop} {w w' : World} {g off : Nat} {B : List Nat} (h : Src w g off B) (hs : Step S w w') (hn : ¬ S g) : Src w' g off B :=
 ⟨fun i hi => hs.cell (h.cell i hi) hn, h.byte, h.much⟩
structure Fed (f : Nat) (w w' : World) (p' : Nat) : Prop where
 step : Step (· = f) w w'
 feed : ∀ s p z t, w.heap[f]? = some (.cells #[s, .int .i64 p, z] t (0, 0)) → w'.heap[f]? = some (.cells #[s, .int .i64 (p' : Nat), z] t (0, 0))
theorem Fed.trans {f : Nat} {a b c : World} {p q : Nat} (h : Fed f a b p) (k : Fed f b c q) : Fed f a c q :=
 ⟨h.step.trans k.step, fun s x z' t hx => k.feed s p z' t (h.feed s x z' t hx)⟩
theorem Fed.refl {f : Nat} {w : World} {s z : Value} {p : Nat} {t : TypeId} (h : w.heap[f]? = some (.cells #[s, .int .i64 (p : Nat), z] t (0, 0))) : Fed f w w p :=
 ⟨Step.refl _ _, fun s' p' z' t' hx => by rw [h] at hx; cases hx; exact h⟩
theorem Fed.set (f : Nat) (w : World) (p' n : Nat) : Fed f w ((w.setCell ⟨f, 1, none⟩ (.int .i64 (p' : Nat))).drewN n) p' :=
 ⟨((Step.refl (· = f) w).setCell (p := ⟨f, 1, none⟩) rfl _).drewN n, fun s p z t hx => by
  have := blk_set hx 1 (.int .i64 (p' : Nat))
  simpa using this⟩
end Go.Bel
namespace Go.Proofs.YtbpahojchgpdnaaGreatDoor
open Go.RowKit Go.Bel
theorem feedBit_ok (f g off cap z p : Nat) (B : List Nat) (w : World)
  (hF : w.heap[f]? = some (.cells #[.slice (fedA g off B.length) B.length cap, .int .i64 (p : Nat), .int .i64 (z : Nat)] 91 (0, 0))) (hS : Src w g off B) (hlt : p < 8 * B.length) :
  Calls Tryz.prog 153 #[.pointer (some ⟨f, 0, none⟩)] w fun e w' => e = .returned (.int .i64 (bitAt B p : Nat)) ∧ Fed f w w' (p + 1) := by
 rw [fedA_pos (by omega)] at hF
 obtain ⟨h0, h1, _, hf, _⟩ := blk_three hF
 have hc := hS.cell (p / 8) (by omega)
 have hm := hS.much
 have hby := hS.byte (p / 8)
 have hlt' : (p : Int) / 8 < (B.length : Int) := by omega
 have hend : wrap64 (bits BinOp.and IntKind.u8 ((B[p / 8]?.getD 0 : Nat) / 2 ^ (p % 8)) 1) = (bitAt B p : Nat) := by
  have e : (((B[p / 8]?.getD 0 : Nat) : Int) / 2 ^ (p % 8)) = ((B[p / 8]?.getD 0 / 2 ^ (p % 8) : Nat) : Int) := by simp
  rw [e, and_one_u8 _ (Nat.lt_of_le_of_lt (Nat.div_le_self _ _) hby)]
  have := bitAt_lt B p
  unfold bitAt at this ⊢
  exact IntWalk.wrap64_in _ ⟨by omega, by omega⟩
 have HE := hide hend
 have HF := hide hF
 clear hend hF hS hby
 go_enter Tryz.func153, Tryz.ntmps153
 go_wp2
 go_quiet (fail)
 go_wp2
 go_quiet (fail)
 go_wp2
 go_ret
 refine ⟨?_, Fed.set f w (p + 1) _⟩
 rw [← unhide HE]
 rfl
def missing : Value := .iface 197 (.agg #[])
theorem feedBit_miss {z : Nat} (f len cap p : Nat) (a : Option Addr) (w : World)
  (hF : w.heap[f]? = some (.cells #[.slice a len cap, .int .i64 (p : Nat), .int .i64 (z : Nat)] 91 (0, 0))) (hlen : len ≤ 140737488351232) (hp : p < 4611686018427387904) (hge : len ≤ p / 8) :
  Calls Tryz.prog 153 #[.pointer (some ⟨f, 0, none⟩)] w fun e w' => e = .panicked [{ v := missing, recovered := false }] ∧ ∃ n, w' = w.drewN n := by
 obtain ⟨h0, h1, _, hf, _⟩ := blk_three hF
 have hlt' : (len : Int) ≤ (p : Int) / 8 := by omega
 have HF := hide hF
 clear hF
 go_enter Tryz.func153, Tryz.ntmps153
 go_wp2
 go_quiet (fail)
 go_wp2
 exact ⟨rfl, rfl, _, rfl⟩
end Go.Proofs.YtbpahojchgpdnaaGreatDoor
namespace Go.Proofs.YtbpahojchgpdnaaGreatDoor
open Go.RowKit Go.Bel
theorem feedNum_ok (f g off cap z p n : Nat) (B : List Nat) (w : World)
  (hF : w.heap[f]? = some (.cells #[.slice (fedA g off B.length) B.length cap, .int .i64 (p : Nat), .int .i64 (z : Nat)] 91 (0, 0))) (hS : Src w g off B) (hgf : g ≠ f) (hn : n ≤ 60) (hlt : p + n ≤ 8 * B.length) :
  Calls Tryz.prog 119 #[.pointer (some ⟨f, 0, none⟩), .int .i64 (n : Nat)] w fun e w' => e = .returned (.int .i64 (numAt B p n : Nat)) ∧ Fed f w w' (p + n) := by
 have hm := hS.much
 have HF := hide hF
 clear hF
 go_enter Tryz.func119, Tryz.ntmps119
 go_wp2
 go_loopw [5, 8] (fun x i wr => ∃ k : Nat, k ≤ n ∧ i = .int .i64 (k : Nat) ∧ x = .int .i64 (numAt B p k : Nat) ∧ Fed f w wr (p + k)) (fun _ i _ => n - (intOf i).toNat)
 case atStart => exact ⟨0, Nat.zero_le _, rfl, rfl, Fed.refl (unhide HF)⟩
 case round =>
  obtain ⟨k, hk, rfl, rfl, hfed⟩ := hrel
  by_cases hlt : k < n
  ·have hor := or_bit (numAt B p k) (bitAt B (p + k)) k (by omega) (bitAt_lt _ _) (numAt_lt _ _ _)
   have HO := hide hor
   clear hor
   go_wp2_with fail
   refine (feedBit_ok f g off cap z (p + k) B wr (hfed.feed _ _ _ _ (unhide HF)) (hS.step hfed.step hgf) (by omega)).mono ?_
   rintro e w1 ⟨rfl, hfed1⟩
   have hb := bitAt_lt B (p + k)
   go_wp2
   go_roundw
   case rel => exact ⟨k + 1, by omega, by go_num, by rw [unhide HO]; rfl, hfed.trans hfed1⟩
   case measure => simp [intOf]; omega
  ·go_wp2
   go_ret
   have : k = n := by omega
   subst this
   exact ⟨rfl, hfed⟩
end Go.Proofs.YtbpahojchgpdnaaGreatDoor
namespace Go.Proofs.YtbpahojchgpdnaaGreatDoor
open Go.RowKit Go.Bel
theorem feedBegun_any (f p z : Nat) (s : Value) (w : World)
  (hF : w.heap[f]? = some (.cells #[s, .int .i64 (p : Nat), .int .i64 (z : Nat)] 91 (0, 0))) (hp : p < 4611686018427387000) :
  Calls Tryz.prog 91 #[.pointer (some ⟨f, 0, none⟩)] w fun e w' => e = .returned (.int .i64 ((p + 7) / 8 : Nat)) ∧ w' = w := by
 obtain ⟨_, h1, _, hf, _⟩ := blk_three hF
 have HF := hide hF
 clear hF
 go_enter Tryz.func91, Tryz.ntmps91
 go_wp2
 go_ret
 exact ⟨rfl, rfl⟩
theorem feedUsed_any (f p z : Nat) (s : Value) (w : World)
  (hF : w.heap[f]? = some (.cells #[s, .int .i64 (p : Nat), .int .i64 (z : Nat)] 91 (0, 0))) (hp : p < 4611686018427387000) (hz : z < 4611686018427387904) :
  Calls Tryz.prog 55 #[.pointer (some ⟨f, 0, none⟩)] w fun e w' => e = .returned (.int .i64 (z + (p + 7) / 8 : Nat)) ∧ ∃ n, w' = w.drewN n := by
 obtain ⟨_, h1, _, hf, h2, _⟩ := blk_three hF
 have HF := hide hF
 clear hF
 go_enter Tryz.func55, Tryz.ntmps55
 have hbg := feedBegun_any f p z s w.drew (unhide HF) hp
 have HB := hide hbg
 clear hbg
 have hsum : IntKind.i64.wrap ((z : Int) + ((p : Int) + 7) / 8) = (z : Int) + ((p : Int) + 7) / 8 := by rw [IntKind.wrap_i64]; omega
 go_wp2_with fail
 go_region_held3 (fun w' => w'.cell? ⟨f, 2, none⟩ = some (.int .i64 (z : Nat))) (go_keep)
  (first | (go_at_call 91; refine (unhide HB).mono ?_; rintro e w1 ⟨rfl, rfl⟩))
 all_goals
  go_wp2
  go_ret
  exact ⟨rfl, 1, rfl⟩
theorem feedPass_any {z : Nat} (f p : Nat) (s : Value) (w : World)
  (hF : w.heap[f]? = some (.cells #[s, .int .i64 (p : Nat), .int .i64 (z : Nat)] 91 (0, 0))) (hp : p < 4611686018427387000) :
  Calls Tryz.prog 200 #[.pointer (some ⟨f, 0, none⟩)] w fun e w' => e = .returned (.tuple #[]) ∧ Fed f w w' ((p + 7) / 8 * 8) := by
 obtain ⟨_, h1, _, hf, _⟩ := blk_three hF
 have HF := hide hF
 clear hF
 go_enter Tryz.func200, Tryz.ntmps200
 go_wp2_with fail
 refine (feedBegun_any f p z s _ (unhide HF) (by omega)).mono ?_
 rintro e w1 ⟨rfl, rfl⟩
 go_wp2
 go_end0
 refine ⟨rfl, ?_⟩
 have := Fed.set f w1 ((p + 7) / 8 * 8) 0
 rw [World.drewN_zero] at this
 simpa using this
theorem feedNew_any (s : Value) (w : World) (hs : ∃ a n c, s = .slice a n c) :
  Calls Tryz.prog 35 #[s] w fun e w' => e = .returned (.pointer (some ⟨w.heap.size, 0, none⟩)) ∧ w' = w.alloc (.cells #[s, .int .i64 0, .int .i64 0] 91) := by
 obtain ⟨a, n, c, rfl⟩ := hs
 go_enter Tryz.func35, Tryz.ntmps35
 go_wp2
 go_ret
 exact ⟨rfl, rfl⟩
end Go.Proofs.YtbpahojchgpdnaaGreatDoor
namespace Go.Bel
open Go Go.RowKit Go.Maps
abbrev Tab := Nat → Option Nat
def MapIs (D : DataW Unit) (M : Tab) : Prop :=
 ∀ key : Nat, (∀ s, M key = some s → Maps.has D (.int .u32 (key : Nat)) = true ∧ D.atKey (.int .u32 (key : Nat)) (.lit (.int .i64 0)) = .lit (.int .i64 (s : Nat))) ∧ (M key = none → Maps.has D (.int .u32 (key : Nat)) = false)
theorem mapIs_nil : MapIs (.map []) (fun _ => none) := fun key => ⟨fun s h => by simp at h, fun _ => rfl⟩
theorem lit_inj {k key : Nat} (e : Lit.int .u32 (k : Nat) = Lit.int .u32 (key : Nat)) : k = key := by
 have h2 : (k : Int) = (key : Int) := by simpa using e
 omega
theorem mapIs_put {D : DataW Unit} {M : Tab} (h : MapIs D M) (hD : IsMap D) (key s : Nat) : MapIs (D.put (.int .u32 (key : Nat)) (.lit (.int .i64 (s : Nat)))) (fun k => if k = key then some s else M k) := by
 intro k
 by_cases hk : k = key
 ·subst hk
  refine ⟨fun s' hs => ?_, fun hn => by simp at hn⟩
  simp at hs
  subst hs
  exact ⟨has_put_same hD (by exact trivial) _, atKey_put_same hD (by exact trivial) _ _⟩
 ·have hne : (Lit.int .u32 (k : Nat)) ≠ (Lit.int .u32 (key : Nat)) := fun e => hk (lit_inj e)
  have := h k
  simp only [if_neg hk]
  rw [has_put_other hne, atKey_put_other hne]
  exact this
def keyAt (B : List Nat) (p : Nat) : Nat → Nat
 | 0 => 1
 | k + 1 => 2 * keyAt B p k + bitAt B (p + k)
theorem keyAt_bd (B : List Nat) (p k : Nat) : 2 ^ k ≤ keyAt B p k ∧ keyAt B p k < 2 ^ (k + 1) := by
 induction k with
 | zero => simp [keyAt]
 | succ k ih =>
  have := bitAt_lt B (p + k)
  rw [keyAt, Nat.pow_succ 2 k, Nat.pow_succ 2 (k + 1)]
  omega
theorem keyAt_lt (B : List Nat) (p k : Nat) (hk : k ≤ 15) : keyAt B p k < 65536 := by
 have := (keyAt_bd B p k).2
 have h : 2 ^ (k + 1) ≤ 2 ^ 16 := Nat.pow_le_pow_right (by omega) (by omega)
 omega
theorem or_two (a b : Nat) (hb : b < 2) : 2 * a ||| b = 2 * a + b := by
 have h := Nat.two_pow_add_eq_or_of_lt (i := 1) (b := b) (by simpa using hb) a
 simpa using h.symm
structure Ints (w : World) (g off : Nat) (L : List Nat) : Prop where
 cell : ∀ i : Nat, i < L.length → w.cell? ⟨g, off + i, none⟩ = some (.int .i64 (L[i]?.getD 0 : Nat))
 le : ∀ i : Nat, L[i]?.getD 0 ≤ 15
 much : L.length ≤ 1000
theorem Ints.step {S : Nat → Prop} {w w' : World} {g off : Nat} {L : List Nat} (h : Ints w g off L) (hs : Step S w w') (hn : ¬ S g) : Ints w' g off L :=
 ⟨fun i hi => hs.cell (h.cell i hi) hn, h.le, h.much⟩
def cntTo (L : List Nat) : Nat → Nat
 | 0 => 0
 | k + 1 => cntTo L k + (if 0 < L[k]?.getD 0 then 1 else 0)
def wgtTo (L : List Nat) : Nat → Nat
 | 0 => 0
 | k + 1 => wgtTo L k + (if 0 < L[k]?.getD 0 then 32768 / 2 ^ (L[k]?.getD 0) else 0)
theorem cntTo_le (L : List Nat) (k : Nat) : cntTo L k ≤ k := by
 induction k with
 | zero => simp [cntTo]
 | succ k ih => rw [cntTo]; split <;> omega
theorem wgtTo_le (L : List Nat) (k : Nat) : wgtTo L k ≤ 32768 * k := by
 induction k with
 | zero => simp [wgtTo]
 | succ k ih =>
  rw [wgtTo]
  have : 32768 / 2 ^ (L[k]?.getD 0) ≤ 32768 := Nat.div_le_self _ _
  split <;> omega
def mayB (L : List Nat) : Bool := wgtTo L L.length == 32768 || (cntTo L L.length == 1 && wgtTo L L.length == 16384)
structure Dealt where
 next : Nat
 tab : Tab
 longest : Nat
def dealIn (L : List Nat) (l : Nat) (st : Dealt) : Nat → Dealt
 | 0 => st
 | k + 1 =>
  let x := dealIn L l st k
  if L[k]?.getD 0 = l then { next := x.next + 1, tab := fun c => if c = x.next then some k else x.tab c, longest := l } else x
def dealTo (L : List Nat) : Nat → Dealt
 | 0 => { next := 1, tab := fun _ => none, longest := 0 }
 | l + 1 => dealIn L (l + 1) ⟨2 * (dealTo L l).next, (dealTo L l).tab, (dealTo L l).longest⟩ L.length
def dealAll (L : List Nat) : Dealt := dealTo L 15
theorem dealIn_next_le (L : List Nat) (l : Nat) (st : Dealt) (k : Nat) : (dealIn L l st k).next ≤ st.next + k := by
 induction k with
 | zero => simp [dealIn]
 | succ k ih =>
  rw [dealIn]
  split
  ·show (dealIn L l st k).next + 1 ≤ _; omega
  ·omega
theorem dealTo_next_le (L : List Nat) (l : Nat) : (dealTo L l).next + L.length ≤ 2 ^ l * (1 + L.length) := by
 induction l with
 | zero => simp [dealTo]
 | succ l ih =>
  have := dealIn_next_le L (l + 1) ⟨2 * (dealTo L l).next, (dealTo L l).tab, (dealTo L l).longest⟩ L.length
  rw [dealTo, Nat.pow_succ]
  simp at this
  have e : 2 ^ l * 2 * (1 + L.length) = 2 * (2 ^ l * (1 + L.length)) := by rw [Nat.mul_comm (2 ^ l) 2, Nat.mul_assoc]
  rw [e]
  omega
theorem dealTo_bd (L : List Nat) (hL : L.length ≤ 1000) (l : Nat) (hl : l ≤ 15) : (dealTo L l).next ≤ 32800768 := by
 have h := dealTo_next_le L l
 have h2 : 2 ^ l ≤ 2 ^ 15 := Nat.pow_le_pow_right (by omega) hl
 have h3 : 2 ^ l * (1 + L.length) ≤ 2 ^ 15 * (1 + L.length) := Nat.mul_le_mul_right _ h2
 omega
theorem dealIn_longest_le (L : List Nat) (l : Nat) (st : Dealt) (h : st.longest ≤ l) (k : Nat) : (dealIn L l st k).longest ≤ l := by
 induction k with
 | zero => simpa [dealIn] using h
 | succ k ih =>
  rw [dealIn]
  split
  ·exact Nat.le_refl _
  ·exact ih
theorem dealTo_longest_le (L : List Nat) (l : Nat) : (dealTo L l).longest ≤ l := by
 induction l with
 | zero => simp [dealTo]
 | succ l ih => rw [dealTo]; exact dealIn_longest_le _ _ _ (by simp; omega) _
end Go.Bel
namespace Go.Proofs.YtbpahojchgpdnaaGreatDoor
open Go.RowKit Go.Bel Go.Maps
theorem keyLaw : Keyed Tryz.prog 198 := int_keyed Tryz.underlying198
theorem zeroInt (w : World) : (zeroValue 3).run Tryz.prog w = .ok (.int .i64 0) w := by kernel_rfl
def TabAt (w : World) (mb : Nat) (M : Tab) : Prop :=
 ∃ (n : Nat) (D : DataW Unit), n ≤ 1000000 ∧ w.ownsMap Tryz.prog 198 (plainElem Tryz.prog 3) mb n D ∧ MapIs D M
theorem TabAt.of {w w' : World} {mb : Nat} {M : Tab} (h : TabAt w mb M) (hb : w'.heap[mb]? = w.heap[mb]?) : TabAt w' mb M := by
 obtain ⟨n, D, h1, ⟨es, clock, a, r⟩, h3⟩ := h
 exact ⟨n, D, h1, ⟨es, clock, hb.trans a, r⟩, h3⟩
theorem TabAt.lt {w : World} {mb : Nat} {M : Tab} (h : TabAt w mb M) : mb < w.heap.size := by
 obtain ⟨n, D, h1, h2, h3⟩ := h
 exact h2.lt
theorem TabAt.step {S : Nat → Prop} {w w' : World} {mb : Nat} {M : Tab} (h : TabAt w mb M) (hs : Step S w w') (hn : ¬ S mb) : TabAt w' mb M := h.of (hs.block mb h.lt hn)
theorem Fed.alloc0 {f : Nat} {w : World} {s z : Value} {p : Nat} {t : TypeId} (h : w.heap[f]? = some (.cells #[s, .int .i64 (p : Nat), z] t (0, 0))) (o : Obj) : Fed f w (w.alloc o) p :=
 ⟨(Step.refl _ w).alloc o, fun s' p' z' t' hx => by
  rw [h] at hx; cases hx
  exact (Below.heap_alloc w o f (lt_of_block h)).trans h⟩
theorem read_ok (f g off cap z p k mb longest s : Nat) (M : Tab) (B : List Nat) (w : World)
  (hF : w.heap[f]? = some (.cells #[.slice (fedA g off B.length) B.length cap, .int .i64 (p : Nat), .int .i64 (z : Nat)] 91 (0, 0))) (hS : Src w g off B) (hgf : g ≠ f) (hT : TabAt w mb M) (hmf : mb ≠ f)
  (hk1 : 1 ≤ k) (hk : k ≤ longest) (hl : longest ≤ 15) (hlt : p + k ≤ 8 * B.length) (hM : M (keyAt B p k) = some s) (hno : ∀ j, 1 ≤ j → j < k → M (keyAt B p j) = none) (_hs : s < 100000) :
  Calls Tryz.prog 191 #[.agg #[.map (some mb), .int .i64 (longest : Nat)], .pointer (some ⟨f, 0, none⟩)] w
   fun e w' => e = .returned (.tuple #[.int .i64 (s : Nat), .int .i64 0]) ∧ Fed f w w' (p + k) := by
 have HF := hide hF
 have HNO := hide hno
 have HM := hide hM
 have hTlt := hT.lt
 have hFlt := lt_of_block hF
 clear hF hno hM
 go_enter Tryz.func191, Tryz.ntmps191
 go_wp2_with fail
 obtain ⟨box, hbox⟩ : ∃ o, o = Obj.cells #[.map (some mb), .int .i64 (longest : Nat)] 123 := ⟨_, rfl⟩
 have hFa := Fed.alloc0 (unhide HF) box
 have hF1 := hFa.feed _ _ _ _ (unhide HF)
 have hT1 := hT.step hFa.step hmf
 have hS1 := hS.step hFa.step hgf
 have hb1 : (w.alloc box).heap[w.heap.size]? = some (.cells #[.map (some mb), .int .i64 (longest : Nat)] 123 (0, 0)) := by rw [hbox]; exact heap_alloc_new _ _
 have hbf : w.heap.size ≠ f := by omega
 rw [← hbox]
 have HFA := hide hFa
 have HF1 := hide hF1
 generalize hW1 : w.alloc box = w1 at *
 clear hbox hW1 hFa hF1 hT hS HF hTlt hFlt
 go_loopw [6, 11] (fun c i wr => ∃ j : Nat, j < k ∧ i = .int .i64 (j : Nat) ∧ c = .int .u32 (keyAt B p j : Nat) ∧ Fed f w1 wr (p + j)) (fun _ i _ => k - (intOf i).toNat)
 case atStart => exact ⟨0, by omega, rfl, rfl, Fed.refl (unhide HF1)⟩
 case round =>
  obtain ⟨j, hj, rfl, rfl, hfed⟩ := hrel
  have hkl := keyAt_lt B p j (by omega)
  have hkl1 := keyAt_lt B p (j + 1) (by omega)
  have hbt := bitAt_lt B (p + j)
  go_wp2_with fail
  refine (feedBit_ok f g off cap z (p + j) B wr (hfed.feed _ _ _ _ (unhide HF1)) (hS1.step hfed.step hgf) (by omega)).mono ?_
  rintro e w2 ⟨rfl, hfed2⟩
  have hfed12 := hfed.trans hfed2
  obtain ⟨hc0, _, _, _⟩ := blk_two (hfed12.step.at_ hb1 hbf)
  obtain ⟨n, D, hn, hown, hD⟩ := hT1.step hfed12.step hmf
  clear hfed hfed2
  have hor : bits BinOp.or IntKind.u32 ((keyAt B p j : Int) * 2) (bitAt B (p + j) : Int) = ((keyAt B p (j + 1) : Nat) : Int) := by
   have := bits_or_u32 (2 * keyAt B p j) (bitAt B (p + j)) (by omega) (by omega)
   rw [or_two _ _ hbt] at this
   rw [Int.mul_comm]
   exact this
  have hDk := hD (keyAt B p (j + 1))
  obtain ⟨K1, hK1⟩ : ∃ K1, K1 = keyAt B p (j + 1) := ⟨_, rfl⟩
  rw [← hK1] at hor hkl1 hDk
  have HK1 := hide hK1
  have hlit : (Lit.int IntKind.u32 (K1 : Int)).wf = true := WalkArith.wf_u32 (by omega)
  by_cases hjk : j + 1 < k
  ·have hnone := hDk.2 (by rw [unhide HK1]; exact unhide HNO (j + 1) (by omega) hjk)
   clear hK1 hD hDk
   have tok : True := trivial
   go_wp2_with (first | (at_lookup; refine wpList_lookup_own_ok_int _ rfl _ _ 121 rfl 198 3 .i64 keyLaw Tryz.underlying121 Tryz.underlying3 (zeroInt _) mb n D rfl hown _ (.int .u32 (K1 : Int)) rfl (keyOf_int_mk Tryz.underlying198 hlit) ?_; intro c hat hwc; clear hat hwc))
   go_roundw
   case rel => exact ⟨j + 1, hjk, by go_num, by rw [unhide HK1], hfed12⟩
   case measure => simp [intOf]; omega
  ·have hje : j + 1 = k := by omega
   have hyes := hDk.1 s (by rw [unhide HK1, hje]; exact unhide HM)
   obtain ⟨hhas, hatk⟩ := hyes
   have HAT := hide hatk
   clear hK1 hD hDk hatk
   go_wp2_with (first | (at_lookup; refine wpList_lookup_own_ok_int _ rfl _ _ 121 rfl 198 3 .i64 keyLaw Tryz.underlying121 Tryz.underlying3 (zeroInt _) mb n D rfl hown _ (.int .u32 (K1 : Int)) rfl (keyOf_int_mk Tryz.underlying198 hlit) ?_; intro c hat hwc; have hcs : c = (s : Int) := (by have h3 := hat.symm.trans (unhide HAT); simpa using h3); clear hat hwc))
   go_ret2
   refine ⟨rfl, ?_⟩
   rw [← hje]
   exact (unhide HFA).trans hfed12
end Go.Proofs.YtbpahojchgpdnaaGreatDoor
namespace Go.Bel
open Go Go.RowKit
def RowAt (w : World) (k t n : Nat) (f : Nat → Value) : Prop :=
 ∃ A, w.heap[k]? = some (.cells A t (0, 0)) ∧ A.size = n ∧ ∀ i, i < n → A[i]? = some (f i)
namespace RowAt
variable {w w' : World} {k t n : Nat} {f g : Nat → Value}
theorem cell (h : RowAt w k t n f) (i : Nat) (hi : i < n) : w.cell? ⟨k, i, none⟩ = some (f i) := by
 obtain ⟨A, h1, _, h3⟩ := h
 exact blk_cell h1 i _ (h3 i hi)
theorem free (h : RowAt w k t n f) (i : Nat) : w.frozen? ⟨k, i, none⟩ = false := by
 obtain ⟨A, h1, _, _⟩ := h
 exact blk_free h1 i
theorem lt (h : RowAt w k t n f) : k < w.heap.size := by obtain ⟨A, h1, _⟩ := h; exact lt_of_block h1
theorem set (h : RowAt w k t n f) (i : Nat) (v : Value) : RowAt (w.setCell ⟨k, i, none⟩ v) k t n (fun j => if j = i then v else f j) := by
 obtain ⟨A, h1, h2, h3⟩ := h
 refine ⟨A.set! i v, blk_set h1 i v, by simp [h2], fun j hj => ?_⟩
 by_cases hji : j = i
 ·subst hji
  simp [h2, hj]
 ·simp only [if_neg hji]
  rw [← h3 j hj]
  simp [Ne.symm hji]
theorem of (h : RowAt w k t n f) (hb : w'.heap[k]? = w.heap[k]?) : RowAt w' k t n f := by
 obtain ⟨A, h1, r⟩ := h
 exact ⟨A, hb.trans h1, r⟩
theorem alloc (h : RowAt w k t n f) (o : Obj) : RowAt (w.alloc o) k t n f := h.of (Below.heap_alloc _ _ _ h.lt)
theorem drew (h : RowAt w k t n f) : RowAt w.drew k t n f := h.of rfl
theorem step {S : Nat → Prop} (h : RowAt w k t n f) (hs : Step S w w') (hn : ¬ S k) : RowAt w' k t n f := h.of (hs.block k h.lt hn)
theorem congr (h : RowAt w k t n f) (hf : ∀ i, i < n → f i = g i) : RowAt w k t n g := by
 obtain ⟨A, h1, h2, h3⟩ := h
 exact ⟨A, h1, h2, fun i hi => by rw [h3 i hi, hf i hi]⟩
theorem born (w : World) {A : Array Value} (t : Nat) (hs : A.size = n) (hf : ∀ i, i < n → A[i]? = some (f i)) : RowAt (w.alloc (.cells A t)) w.heap.size t n f :=
 ⟨A, by show (w.heap.push _)[w.heap.size]? = _; simp, hs, hf⟩
end RowAt
end Go.Bel
namespace Go.Proofs.YtbpahojchgpdnaaGreatDoor
open Go.RowKit Go.Bel Go.Maps
theorem weigh_any (g off cap : Nat) (L : List Nat) (w : World) (h : Ints w g off L) :
  Calls Tryz.prog 223 #[.slice (some ⟨g, off, none⟩) L.length cap] w fun e w' => e = .returned (.tuple #[.int .i64 (cntTo L L.length : Nat), .int .i64 (wgtTo L L.length : Nat)]) ∧ w' = w := by
 have hm := h.much
 go_enter Tryz.func223, Tryz.ntmps223
 go_wp2
 go_loop [2, 3, 8] (fun c x i => ∃ k : Nat, k ≤ L.length ∧ i = .int .i64 (k : Nat) ∧ c = .int .i64 (cntTo L k : Nat) ∧ x = .int .i64 (wgtTo L k : Nat)) (fun _ _ i => L.length - (intOf i).toNat)
 case atStart => exact ⟨0, by omega, rfl, rfl, rfl⟩
 case round =>
  obtain ⟨k, hk, rfl, rfl, rfl⟩ := hrel
  have h1 := cntTo_le L k
  have h2 := wgtTo_le L k
  by_cases hlt : k < L.length
  ·have hc := h.cell k hlt
   have hle := h.le k
   obtain ⟨q, hq⟩ : ∃ q, q = L[k]?.getD 0 := ⟨_, rfl⟩
   rw [← hq] at hc hle
   have HQ := hide hq
   clear hq
   by_cases h0 : 0 < q
   ·have hdv : 32768 / 2 ^ q ≤ 32768 := Nat.div_le_self _ _
    have hdi : ((32768 : Int) / 2 ^ q) = ((32768 / 2 ^ q : Nat) : Int) := by simp
    obtain ⟨d, hd⟩ : ∃ d, d = 32768 / 2 ^ q := ⟨_, rfl⟩
    rw [← hd] at hdi hdv
    have HD := hide hd
    clear hd
    go_wp2
    go_round
    case rel => exact ⟨k + 1, by omega, by go_num, by rw [cntTo, ← unhide HQ, if_pos h0]; go_num, by rw [wgtTo, ← unhide HQ, if_pos h0, ← unhide HD]; go_num⟩
    case measure => simp [intOf]; omega
   ·go_wp2
    go_round
    case rel => exact ⟨k + 1, by omega, by go_num, by rw [cntTo, ← unhide HQ, if_neg h0]; go_num, by rw [wgtTo, ← unhide HQ, if_neg h0]; go_num⟩
    case measure => simp [intOf]; omega
  ·have : k = L.length := by omega
   subst this
   go_wp2
   go_ret2
   exact ⟨rfl, rfl⟩
theorem mayBe_any (g off cap : Nat) (L : List Nat) (w : World) (h : Ints w g off L) :
  Calls Tryz.prog 217 #[.slice (some ⟨g, off, none⟩) L.length cap] w fun e w' => e = .returned (.bool (mayB L)) ∧ w' = w := by
 have h1 := cntTo_le L L.length
 have h2 := wgtTo_le L L.length
 have hm := h.much
 have hB : mayB L = (wgtTo L L.length == 32768 || (cntTo L L.length == 1 && wgtTo L L.length == 16384)) := rfl
 have HB := hide hB
 clear hB
 go_enter Tryz.func217, Tryz.ntmps217
 go_wp2_with fail
 refine (weigh_any g off cap L w h).mono ?_
 rintro e w1 ⟨rfl, rfl⟩
 generalize cntTo L L.length = c at *
 generalize wgtTo L L.length = x at *
 by_cases e1 : x = 32768
 ·have e1' : ((x : Int) == 32768) = true := beq_iff_eq.2 (by omega)
  go_wp2
  go_ret
  exact ⟨by rw [unhide HB, e1]; rfl, rfl⟩
 ·have e1' : ((x : Int) == 32768) = false := beq_eq_false_iff_ne.2 (by omega)
  have e1n : (x == 32768) = false := beq_eq_false_iff_ne.2 e1
  by_cases e2 : c = 1
  ·have e2' : ((c : Int) == 1) = true := beq_iff_eq.2 (by omega)
   by_cases e3 : x = 16384
   ·have e3' : ((x : Int) == 16384) = true := beq_iff_eq.2 (by omega)
    go_wp2
    go_ret
    exact ⟨by rw [unhide HB, e2, e3]; rfl, rfl⟩
   ·have e3' : ((x : Int) == 16384) = false := beq_eq_false_iff_ne.2 (by omega)
    have e3n : (x == 16384) = false := beq_eq_false_iff_ne.2 e3
    go_wp2
    go_ret
    exact ⟨by rw [unhide HB, e1n, e3n, e2]; rfl, rfl⟩
  ·have e2' : ((c : Int) == 1) = false := beq_eq_false_iff_ne.2 (by omega)
   have e2n : (c == 1) = false := beq_eq_false_iff_ne.2 e2
   go_wp2
   go_ret
   exact ⟨by rw [unhide HB, e1n, e2n]; rfl, rfl⟩
end Go.Proofs.YtbpahojchgpdnaaGreatDoor
namespace Go.Bel
open Go Go.RowKit
def cntEq (L : List Nat) (l : Nat) : Nat → Nat
 | 0 => 0
 | k + 1 => cntEq L l k + (if L[k]?.getD 0 = l then 1 else 0)
theorem cntEq_mono (L : List Nat) (l : Nat) {a b : Nat} (h : a ≤ b) : cntEq L l a ≤ cntEq L l b := by
  induction b with
  | zero => have : a = 0 := by omega
            subst this; exact Nat.le_refl _
  | succ b ih =>
    by_cases hb : a = b + 1
    · subst hb; exact Nat.le_refl _
    · have := ih (by omega)
      rw [cntEq]; omega
theorem cntEq_lt (L : List Nat) (l : Nat) {a b : Nat} (h : a < b) (ha : L[a]?.getD 0 = l) : cntEq L l a < cntEq L l b := by
 have h1 := cntEq_mono L l (show a + 1 ≤ b from h)
 rw [cntEq, if_pos ha] at h1
 omega
def nx (L : List Nat) : Nat → Nat
 | 0 => 1
 | l + 1 => 2 * nx L l + cntEq L (l + 1) L.length
theorem dealIn_next (L : List Nat) (l : Nat) (st : Dealt) (k : Nat) : (dealIn L l st k).next = st.next + cntEq L l k := by
 induction k with
 | zero => simp [dealIn, cntEq]
 | succ k ih =>
  rw [dealIn, cntEq]
  split
  ·show (dealIn L l st k).next + 1 = _; rw [ih]; omega
  ·rw [ih]; omega
theorem dealTo_next (L : List Nat) (l : Nat) : (dealTo L l).next = nx L l := by
 induction l with
 | zero => rfl
 | succ l ih => rw [dealTo, dealIn_next, nx]; show 2 * (dealTo L l).next + _ = _; rw [ih]
theorem dealIn_tab (L : List Nat) (l : Nat) (st : Dealt) (hst : ∀ c s, st.tab c = some s → c < st.next) (k c s : Nat) :
  (dealIn L l st k).tab c = some s ↔ st.tab c = some s ∨ (s < k ∧ L[s]?.getD 0 = l ∧ c = st.next + cntEq L l s) := by
 induction k with
 | zero => simp [dealIn]
 | succ k ih =>
  have hn := dealIn_next L l st k
  rw [dealIn]
  split
  ·rename_i hk
   show (if c = (dealIn L l st k).next then some k else (dealIn L l st k).tab c) = some s ↔ _
   by_cases hc : c = (dealIn L l st k).next
   ·rw [if_pos hc]
    constructor
    ·intro h
     simp only [Option.some.injEq] at h
     subst h
     exact .inr ⟨by omega, hk, by omega⟩
    ·rintro (h | ⟨h1, h2, h3⟩)
     ·have := hst c s h; omega
     ·by_cases hsk : s = k
      ·rw [hsk]
      ·have := cntEq_lt L l (show s < k by omega) h2; omega
   ·rw [if_neg hc, ih]
    constructor
    ·rintro (h | ⟨h1, h2, h3⟩)
     ·exact .inl h
     ·exact .inr ⟨by omega, h2, h3⟩
    ·rintro (h | ⟨h1, h2, h3⟩)
     ·exact .inl h
     ·by_cases hsk : s = k
      ·subst hsk; omega
      ·exact .inr ⟨by omega, h2, h3⟩
  ·rename_i hk
   rw [ih]
   constructor
   ·rintro (h | ⟨h1, h2, h3⟩)
    ·exact .inl h
    ·exact .inr ⟨by omega, h2, h3⟩
   ·rintro (h | ⟨h1, h2, h3⟩)
    ·exact .inl h
    ·by_cases hsk : s = k
     ·subst hsk; exact absurd h2 hk
     ·exact .inr ⟨by omega, h2, h3⟩
def keyOf (L : List Nat) (s : Nat) : Nat := 2 * nx L (L[s]?.getD 0 - 1) + cntEq L (L[s]?.getD 0) s
theorem nx_step (L : List Nat) (l : Nat) : 2 * nx L l ≤ nx L (l + 1) := by rw [nx]; omega
theorem nx_pos (L : List Nat) (l : Nat) : 2 ^ l ≤ nx L l := by
 induction l with
 | zero => simp [nx]
 | succ l ih => have := nx_step L l; rw [Nat.pow_succ]; omega
theorem nx_mono (L : List Nat) {a b : Nat} (h : a ≤ b) : nx L a * 2 ^ (b - a) ≤ nx L b := by
  induction b with
  | zero => have : a = 0 := by omega
            subst this; simp
  | succ b ih =>
    by_cases hb : a = b + 1
    · subst hb; simp
    · have h1 := ih (by omega)
      have h2 := nx_step L b
      rw [show b + 1 - a = (b - a) + 1 by omega, Nat.pow_succ, ← Nat.mul_assoc]
      omega
theorem nx_le (L : List Nat) {a b : Nat} (h : a ≤ b) : nx L a ≤ nx L b := by
 have h1 := nx_mono L h
 have h2 : nx L a * 1 ≤ nx L a * 2 ^ (b - a) := Nat.mul_le_mul_left _ (Nat.pow_pos (by omega))
 omega
theorem keyOf_lt (L : List Nat) (s : Nat) (hs : s < L.length) (h1 : 1 ≤ L[s]?.getD 0) : keyOf L s < nx L (L[s]?.getD 0) := by
 have h := cntEq_lt L (L[s]?.getD 0) hs rfl
 unfold keyOf
 obtain ⟨l, hl⟩ : ∃ l, L[s]?.getD 0 = l + 1 := ⟨L[s]?.getD 0 - 1, by omega⟩
 rw [hl] at h ⊢
 rw [nx, Nat.add_sub_cancel]
 omega
theorem dealTo_tab (L : List Nat) (l : Nat) : (∀ c s, (dealTo L l).tab c = some s ↔ (s < L.length ∧ 1 ≤ L[s]?.getD 0 ∧ L[s]?.getD 0 ≤ l ∧ c = keyOf L s)) := by
 induction l with
 | zero => intro c s; simp [dealTo]; omega
 | succ l ih =>
  intro c s
  have hst : ∀ c s, (⟨2 * (dealTo L l).next, (dealTo L l).tab, (dealTo L l).longest⟩ : Dealt).tab c = some s → c < (⟨2 * (dealTo L l).next, (dealTo L l).tab, (dealTo L l).longest⟩ : Dealt).next := by
   intro c s h
   have h' := (ih c s).1 h
   have h2 := keyOf_lt L s h'.1 h'.2.1
   have h3 := nx_le L h'.2.2.1
   show c < 2 * (dealTo L l).next
   rw [dealTo_next]
   omega
  rw [dealTo, dealIn_tab L (l + 1) _ hst]
  show (dealTo L l).tab c = some s ∨ _ ↔ _
  rw [ih c s]
  constructor
  ·rintro (⟨h1, h2, h3, h4⟩ | ⟨h1, h2, h3⟩)
   ·exact ⟨h1, h2, by omega, h4⟩
   ·refine ⟨h1, by omega, by omega, ?_⟩
    rw [h3, keyOf, h2, Nat.add_sub_cancel]
    show 2 * (dealTo L l).next + _ = _
    rw [dealTo_next]
  ·rintro ⟨h1, h2, h3, h4⟩
   by_cases hl : L[s]?.getD 0 = l + 1
   ·refine .inr ⟨h1, hl, ?_⟩
    rw [h4, keyOf, hl, Nat.add_sub_cancel]
    show _ = 2 * (dealTo L l).next + _
    rw [dealTo_next]
   ·exact .inl ⟨h1, h2, by omega, h4⟩
theorem prefix_none (L : List Nat) (hk : nx L 15 ≤ 65536) (s j : Nat) (hs : s < L.length) (h1 : 1 ≤ L[s]?.getD 0) (h15 : L[s]?.getD 0 ≤ 15) (_hj : 1 ≤ j) (hjl : j < L[s]?.getD 0) :
  (dealAll L).tab (keyOf L s / 2 ^ (L[s]?.getD 0 - j)) = none := by
 obtain ⟨l, hl⟩ : ∃ l, L[s]?.getD 0 = l + 1 := ⟨L[s]?.getD 0 - 1, by omega⟩
 have hlt := keyOf_lt L s hs h1
 have hge : 2 * nx L l ≤ keyOf L s := by unfold keyOf; rw [hl, Nat.add_sub_cancel]; omega
 rw [hl] at hlt hjl h15 ⊢
 cases ht : (dealAll L).tab (keyOf L s / 2 ^ (l + 1 - j)) with
 | none => rfl
 | some t =>
  exfalso
  obtain ⟨t1, t2, t3, t4⟩ := (dealTo_tab L 15 _ t).1 ht
  have tlt := keyOf_lt L t t1 t2
  have tge : 2 * nx L (L[t]?.getD 0 - 1) ≤ keyOf L t := by unfold keyOf; omega
  have kr : ∀ i, i ≤ 15 → nx L i ≤ 2 ^ (i + 1) := by
   intro i hi
   have h := nx_mono L hi
   have e : 65536 = 2 ^ (i + 1) * 2 ^ (15 - i) := by rw [← Nat.pow_add, show i + 1 + (15 - i) = 16 by omega]
   have h2 : nx L i * 2 ^ (15 - i) ≤ 2 ^ (i + 1) * 2 ^ (15 - i) := by omega
   exact Nat.le_of_mul_le_mul_right h2 (Nat.pow_pos (by omega))
  have hq1 : nx L j ≤ keyOf L s / 2 ^ (l + 1 - j) := by
   rw [Nat.le_div_iff_mul_le (Nat.pow_pos (by omega))]
   have h := nx_mono L (show j ≤ l by omega)
   rw [show l + 1 - j = (l - j) + 1 by omega, Nat.pow_succ, ← Nat.mul_assoc]
   omega
  have hq2 : keyOf L s / 2 ^ (l + 1 - j) < 2 ^ (j + 1) := by
   rw [Nat.div_lt_iff_lt_mul (Nat.pow_pos (by omega)), ← Nat.pow_add, show j + 1 + (l + 1 - j) = l + 1 + 1 by omega]
   have := kr (l + 1) h15
   omega
  rw [t4] at hq1 hq2
  by_cases hi : L[t]?.getD 0 ≤ j
  ·have := nx_le L hi; omega
  ·have h5 := nx_le L (show j ≤ L[t]?.getD 0 - 1 by omega)
   have h6 := nx_pos L j
   rw [Nat.pow_succ] at hq2
   omega
theorem found (L : List Nat) (s : Nat) (hs : s < L.length) (h1 : 1 ≤ L[s]?.getD 0) (h15 : L[s]?.getD 0 ≤ 15) : (dealAll L).tab (keyOf L s) = some s :=
 (dealTo_tab L 15 _ s).2 ⟨hs, h1, h15, rfl⟩
end Go.Bel
namespace Go.Bel
open Go Go.RowKit
theorem ownsRow_mono {w : World} {base base' : Nat} {e : TypeId} {size : Nat} {v : Value} {n : Nat} {xs : List Value} (h : w.ownsRow base e size v n xs) (hb : base' ≤ base) : w.ownsRow base' e size v n xs := by
 obtain ⟨h1, h2 | ⟨g, cap, cur, hv, hg, r⟩⟩ := h
 ·exact ⟨h1, .inl h2⟩
 ·exact ⟨h1, .inr ⟨g, cap, cur, hv, by omega, r⟩⟩
theorem grownBy_row {w w' : World} {row : Option Nat} (h : w.grownBy w' none) : w.grownBy w' row :=
 ⟨h.os, h.tape, h.output, h.size, fun k hk _ => h.block k hk (by simp)⟩
theorem wpList_append_row {P : Program} (w : World) {ops : Array Oper} {rest : List Oper} {o : Oper} {a : Act} {Q : Exit → Act → World → Prop}
  (hg : o.guard = none) (s x : Operand) (t : TypeId) (hop : o.op = Op.call { callee := Callee.builtin Builtin.append, args := #[s, x], argTypes := #[t, t] })
  (base : Nat) (e : TypeId) (i : TypeInfo) (z : Value) (size bytes : Nat) (h1 : P.underlying t = some (.slice e)) (h2 : P.info? e = some i) (h3 : i.zero = some z) (h4 : i.size = size) (h5 : i.bytes = bytes) (h6 : z.cells.size = size) (h7 : 0 < size)
  (v : Value) (n : Nat) (xs : List Value) (hs : a.eval s = v) (hown : w.ownsRow base e size v n xs)
  (ad : Addr) (m c : Nat) (news : List Value) (hx : a.eval x = .slice (some ad) m c) (hn : news.length = m * size) (hc : ∀ j u, news[j]? = some u → w.cell? (ad.add j) = some u) (h1c : ∀ u ∈ news, u.oneCell' = true)
  (hm : 0 < m) (b1 : n + m ≤ maxLen) (b2 : (n + m) * bytes ≤ 140737488355328) (hbase : base ≤ w.heap.size)
  (hK : ∀ g cap w', w'.ownsRow base e size (.slice (some ⟨g, 0, none⟩) (n + m) cap) (n + m) (xs ++ news) → w.grownBy w' v.ownBlock → (v.ownBlock = some g ∨ w.heap.size ≤ g) → wpList P ops Q rest (a.put o.dst (.slice (some ⟨g, 0, none⟩) (n + m) cap)) w') :
  wpList P ops Q (o :: rest) a w := by
 have grows : ∀ (ao : Option Addr) (cap : Nat), v = .slice ao n cap → (ao = none → n = 0 ∧ cap = 0) → (∀ b, ao = some b → ∀ j u, xs[j]? = some u → w.cell? (b.add j) = some u) → cap < n + m → wpList P ops Q (o :: rest) a w := by
  intro ao cap hv hnone hxs hfull
  refine wpList_append_grows w hg s x t hop e i z size bytes h1 h2 h3 h4 h5 h6 h7 ao n cap xs (hs.trans hv) hnone hown.1 hxs ad m c news hx hn hc h1c hfull b1 b2 ?_
  intro v' w' ho hgr
  obtain ⟨g, cap', hv'⟩ : ∃ g cap', v' = .slice (some ⟨g, 0, none⟩) (n + m) cap' := by
   obtain ⟨_, ⟨_, hz⟩ | ⟨g, cap', cur, hv', _⟩⟩ := ho
   ·omega
   ·exact ⟨g, cap', hv'⟩
  subst hv'
  exact hK g cap' w' (ownsRow_mono ho hbase) (grownBy_row hgr) (.inr (by
   have := ho.lt g rfl
   exact this.1))
 have hown' := hown
 obtain ⟨hl, ⟨hv, hn0⟩ | ⟨g, cap, cur, hv, hgb, hh, hnc, hcm, hcs, htk⟩⟩ := hown
 ·exact grows none 0 (by rw [hv, hn0]) (fun _ => ⟨hn0, rfl⟩) (fun b hb => by cases hb) (by omega)
 ·by_cases hroom : n + m ≤ cap
  ·subst hv
   exact wpList_append_fits w hg s x t hop base e i size h1 h2 h4 g n cap xs hs hown' ad m c news hx hn hc h1c hroom fun w' ho hgr => hK g cap w' ho hgr (.inl rfl)
  ·refine grows (some ⟨g, 0, none⟩) cap hv (fun h => by cases h) (fun b hb j u hu => ?_) (by omega)
   cases hb
   subst hv
   exact hown'.cells rfl j u hu
end Go.Bel
namespace Go.Bel
open Go Go.RowKit
structure BitsIn (bs : List Bool) (B : List Nat) : Prop where
 byte : ∀ i : Nat, B[i]?.getD 0 < 256
 bit : ∀ p : Nat, bitAt B p = (bs[p]?.getD false).toNat
theorem BitsIn.nil : BitsIn [] [] := ⟨fun i => by simp, fun p => by simp [bitAt]⟩
theorem getD_snoc_zero (B : List Nat) (i : Nat) : (B ++ [0])[i]?.getD 0 = B[i]?.getD 0 := by
 rcases Nat.lt_trichotomy i B.length with h | h | h
 ·rw [List.getElem?_append_left h]
 ·subst h; simp
 ·rw [List.getElem?_eq_none (by simp; omega), List.getElem?_eq_none (by omega)]
theorem BitsIn.zero {bs : List Bool} {B : List Nat} (h : BitsIn bs B) : BitsIn bs (B ++ [0]) :=
 ⟨fun i => by rw [getD_snoc_zero]; exact h.byte i, fun p => by unfold bitAt; rw [getD_snoc_zero]; exact h.bit p⟩
theorem getD_snoc_false (bs : List Bool) (p : Nat) : (bs ++ [false])[p]?.getD false = bs[p]?.getD false := by
 rcases Nat.lt_trichotomy p bs.length with h | h | h
 ·rw [List.getElem?_append_left h]
 ·subst h; simp
 ·rw [List.getElem?_eq_none (by simp; omega), List.getElem?_eq_none (by omega)]
theorem BitsIn.noBit {bs : List Bool} {B : List Nat} (h : BitsIn bs B) : BitsIn (bs ++ [false]) B :=
 ⟨h.byte, fun p => by rw [getD_snoc_false]; exact h.bit p⟩
theorem or_pow_lt (a k : Nat) (ha : a < 256) (hk : k < 8) : a ||| 2 ^ k < 256 := by
 have : 2 ^ k < 2 ^ 8 := Nat.pow_lt_pow_right (by omega) hk
 have h := Nat.or_lt_two_pow (n := 8) ha this
 exact h
theorem bit_or_pow (a k j : Nat) : (a ||| 2 ^ k) / 2 ^ j % 2 = if j = k then 1 else a / 2 ^ j % 2 := by
 have h := Nat.testBit_or a (2 ^ k) j
 rw [Nat.testBit_two_pow] at h
 have e : ∀ x : Nat, x / 2 ^ j % 2 = (x.testBit j).toNat := fun x => by rw [Nat.testBit_eq_decide_div_mod_eq]; rcases Nat.mod_two_eq_zero_or_one (x / 2 ^ j) with h | h <;> simp [h]
 rw [e, e, h]
 by_cases hk : j = k
 ·subst hk; simp
 ·have : ¬ k = j := fun x => hk x.symm
  simp [hk, this]
theorem getD_set (B : List Nat) (j x i : Nat) (hj : j < B.length) : (B.set j x)[i]?.getD 0 = if i = j then x else B[i]?.getD 0 := by
 by_cases h : i = j
 ·subst h; simp [hj]
 ·rw [List.getElem?_set_ne (by omega), if_neg h]
theorem BitsIn.oneBit {bs : List Bool} {B : List Nat} (h : BitsIn bs B) (hl : bs.length / 8 < B.length) :
  BitsIn (bs ++ [true]) (B.set (bs.length / 8) (B[bs.length / 8]?.getD 0 ||| 2 ^ (bs.length % 8))) := by
 refine ⟨fun i => ?_, fun p => ?_⟩
 ·rw [getD_set _ _ _ _ hl]
  split
  ·exact or_pow_lt _ _ (h.byte _) (Nat.mod_lt _ (by omega))
  ·exact h.byte i
 ·have hb := h.bit p
  unfold bitAt at hb ⊢
  rw [getD_set _ _ _ _ hl]
  by_cases hp : p = bs.length
  ·subst hp
   rw [if_pos rfl, bit_or_pow, if_pos rfl]
   simp
  ·have hg : (bs ++ [true])[p]?.getD false = bs[p]?.getD false := by
    rcases Nat.lt_trichotomy p bs.length with h | h | h
    ·rw [List.getElem?_append_left h]
    ·exact absurd h hp
    ·rw [List.getElem?_eq_none (by simp; omega), List.getElem?_eq_none (by omega)]
   rw [hg]
   by_cases hq : p / 8 = bs.length / 8
   ·rw [if_pos hq, bit_or_pow, if_neg (by omega), ← hq]; exact hb
   ·rw [if_neg hq]; exact hb
abbrev u8s (B : List Nat) : List Value := B.map fun c => Value.int .u8 (c : Nat)
structure Wrt (b : Nat) (w : World) (v : Value) (w' : World) (v' : Value) : Prop where
 step : Step (fun k => k = b ∨ v.ownBlock = some k) w w'
 own : ∀ k, v'.ownBlock = some k → v.ownBlock = some k ∨ w.heap.size ≤ k
theorem Wrt.refl (b : Nat) (w : World) (v : Value) : Wrt b w v w v := ⟨Step.refl _ _, fun _ h => .inl h⟩
theorem Wrt.trans {b : Nat} {w w1 w2 : World} {v v1 v2 : Value} (h : Wrt b w v w1 v1) (k : Wrt b w1 v1 w2 v2) : Wrt b w v w2 v2 :=
 ⟨h.step.trans' k.step fun i hi hx => by
   rcases hx with hx | hx
   ·exact .inl hx
   ·rcases h.own i hx with hy | hy
    ·exact .inr hy
    ·omega,
  fun i hi => by
   rcases k.own i hi with hx | hx
   ·exact h.own i hx
   ·have := h.step.size; exact .inr (by omega)⟩
theorem u8s_get (B : List Nat) (i : Nat) (h : i < B.length) : (u8s B)[i]? = some (.int .u8 (B[i]?.getD 0 : Nat)) := by
 simp [u8s, List.getElem?_map, List.getElem?_eq_getElem h]
theorem or_val (a k : Nat) (ha : a < 256) (hk : k < 8) : bits BinOp.or IntKind.u8 (a : Int) (2 ^ k % 256) = ((a ||| 2 ^ k : Nat) : Int) := by
 have h2 : 2 ^ k < 2 ^ 8 := Nat.pow_lt_pow_right (by omega) hk
 have e : ((2 : Int) ^ k % 256) = ((2 ^ k : Nat) : Int) := by
  have em : ∀ m : Nat, m < 256 → (m : Int) % 256 = m := by omega
  rw [show ((2 : Int) ^ k) = ((2 ^ k : Nat) : Int) by simp, em _ (by simpa using h2)]
 rw [e, bits_or_u8 a _ ha (by omega)]
def numBits (x n : Nat) : List Bool := (List.range n).map fun i => decide (x / 2 ^ i % 2 = 1)
theorem numBits_succ (x n : Nat) : numBits x (n + 1) = numBits x n ++ [decide (x / 2 ^ n % 2 = 1)] := by simp [numBits, List.range_succ]
theorem numBits_length (x n : Nat) : (numBits x n).length = n := by simp [numBits]
def codeTo (x n k : Nat) : List Bool := (List.range k).map fun j => decide (x / 2 ^ (n - 1 - j) % 2 = 1)
def codeBits (x n : Nat) : List Bool := codeTo x n n
theorem codeTo_succ (x n k : Nat) : codeTo x n (k + 1) = codeTo x n k ++ [decide (x / 2 ^ (n - 1 - k) % 2 = 1)] := by simp [codeTo, List.range_succ]
theorem codeTo_length (x n k : Nat) : (codeTo x n k).length = k := by simp [codeTo]
theorem codeBits_length (x n : Nat) : (codeBits x n).length = n := by simp [codeBits, codeTo]
end Go.Bel
namespace Go.Bel
open Go Go.RowKit
def wTo (L : List Nat) (l : Nat) : Nat → Nat
 | 0 => 0
 | k + 1 => wTo L l k + (if 1 ≤ L[k]?.getD 0 ∧ L[k]?.getD 0 ≤ l then 2 ^ (l - L[k]?.getD 0) else 0)
theorem wTo_succ (L : List Nat) (l k : Nat) : wTo L (l + 1) k = 2 * wTo L l k + cntEq L (l + 1) k := by
 induction k with
 | zero => simp [wTo, cntEq]
 | succ k ih =>
  rw [wTo, wTo, cntEq, ih]
  by_cases h1 : L[k]?.getD 0 = l + 1
  ·rw [if_pos h1, if_pos (by omega), if_neg (by omega), h1]; simp; omega
  ·by_cases h2 : 1 ≤ L[k]?.getD 0 ∧ L[k]?.getD 0 ≤ l
   ·rw [if_neg h1, if_pos h2, if_pos (by omega), show l + 1 - L[k]?.getD 0 = (l - L[k]?.getD 0) + 1 by omega, Nat.pow_succ]; omega
   ·rw [if_neg h1, if_neg h2, if_neg (by omega)]; omega
theorem nx_eq (L : List Nat) (l : Nat) : nx L l = 2 ^ l + wTo L l L.length := by
 induction l with
 | zero =>
  have : ∀ k, wTo L 0 k = 0 := by
   intro k
   induction k with
   | zero => rfl
   | succ k ih => rw [wTo, ih, if_neg (by omega)]
  simp [nx, this]
 | succ l ih => rw [nx, ih, wTo_succ, Nat.pow_succ]; omega
theorem wTo_wgt (L : List Nat) (h : ∀ i : Nat, L[i]?.getD 0 ≤ 15) (k : Nat) : wTo L 15 k = wgtTo L k := by
 induction k with
 | zero => rfl
 | succ k ih =>
  rw [wTo, wgtTo, ih]
  by_cases h1 : 0 < L[k]?.getD 0
  ·rw [if_pos h1, if_pos ⟨h1, h k⟩, show (32768 : Nat) = 2 ^ 15 by rfl, Nat.pow_div (h k) (by omega)]
  ·rw [if_neg h1, if_neg (by omega)]
theorem room (L : List Nat) (h : ∀ i : Nat, L[i]?.getD 0 ≤ 15) (hm : mayB L = true) : nx L 15 ≤ 65536 := by
 rw [nx_eq, wTo_wgt L h]
 unfold mayB at hm
 simp only [Bool.or_eq_true, Bool.and_eq_true, beq_iff_eq] at hm
 omega
theorem dealIn_longest (L : List Nat) (l : Nat) (st : Dealt) (k s : Nat) (hs : s < k) (hl : L[s]?.getD 0 = l) : (dealIn L l st k).longest = l := by
 induction k with
 | zero => omega
 | succ k ih =>
  rw [dealIn]
  split
  ·rfl
  ·rename_i hk
   by_cases hsk : s = k
   ·subst hsk; exact absurd hl hk
   ·exact ih (by omega)
theorem dealIn_longest_or (L : List Nat) (l : Nat) (st : Dealt) (k : Nat) : (dealIn L l st k).longest = st.longest ∨ (dealIn L l st k).longest = l := by
 induction k with
 | zero => exact .inl rfl
 | succ k ih =>
  rw [dealIn]
  split
  ·exact .inr rfl
  ·exact ih
theorem longest_ge (L : List Nat) (l s : Nat) (hs : s < L.length) (h1 : 1 ≤ L[s]?.getD 0) (hl : L[s]?.getD 0 ≤ l) : L[s]?.getD 0 ≤ (dealTo L l).longest := by
 induction l with
 | zero => omega
 | succ l ih =>
  rw [dealTo]
  by_cases hh : L[s]?.getD 0 = l + 1
  ·rw [dealIn_longest L (l + 1) _ L.length s hs hh]; omega
  ·have h2 := ih (by omega)
   rcases dealIn_longest_or L (l + 1) ⟨2 * (dealTo L l).next, (dealTo L l).tab, (dealTo L l).longest⟩ L.length with h | h
   ·rw [h]; exact h2
   ·rw [h]; omega
def BitsFrom (bs : List Bool) (p : Nat) (l : List Bool) : Prop := ∀ i, i < l.length → bs[p + i]? = l[i]?
theorem BitsFrom.left {bs : List Bool} {p : Nat} {a b : List Bool} (h : BitsFrom bs p (a ++ b)) : BitsFrom bs p a := fun i hi => by
 have := h i (by simp; omega)
 rw [this, List.getElem?_append_left hi]
theorem BitsFrom.right {bs : List Bool} {p : Nat} {a b : List Bool} (h : BitsFrom bs p (a ++ b)) : BitsFrom bs (p + a.length) b := fun i hi => by
 have := h (a.length + i) (by simp; omega)
 rw [Nat.add_assoc, this, List.getElem?_append_right (by omega)]
 simp
theorem bit_from {bs : List Bool} {B : List Nat} (hB : BitsIn bs B) {p : Nat} {l : List Bool} (h : BitsFrom bs p l) (i : Nat) (hi : i < l.length) (x : Nat) (hx : l[i]? = some (decide (x % 2 = 1))) : bitAt B (p + i) = x % 2 := by
 rw [hB.bit, h i hi, hx]
 rcases Nat.mod_two_eq_zero_or_one x with e | e <;> simp [e]
theorem num_from {bs : List Bool} {B : List Nat} (hB : BitsIn bs B) (p x n : Nat) (h : BitsFrom bs p (numBits x n)) : numAt B p n = x % 2 ^ n := by
 induction n with
 | zero => simp [numAt, Nat.mod_one]
 | succ n ih =>
  have e := numBits_succ x n
  rw [e] at h
  have h1 := ih h.left
  have h2 := h.right
  rw [numBits_length] at h2
  have h3 := bit_from hB h2 0 (by simp) (x / 2 ^ n) rfl
  rw [Nat.add_zero] at h3
  rw [numAt, h1, h3, Nat.pow_succ, Nat.mod_mul]
  rw [Nat.mul_comm]
theorem key_from {bs : List Bool} {B : List Nat} (hB : BitsIn bs B) (p x n k : Nat) (hx : x < 2 ^ n) (hk : k ≤ n) (h : BitsFrom bs p (codeTo x n k)) : keyAt B p k = (2 ^ n + x) / 2 ^ (n - k) := by
 induction k with
 | zero =>
  rw [keyAt, Nat.sub_zero]
  have : (2 ^ n + x) / 2 ^ n = 1 := by
   rw [Nat.add_div_left _ (Nat.pow_pos (by omega)), Nat.div_eq_of_lt hx]
  rw [this]
 | succ k ih =>
  have e := codeTo_succ x n k
  rw [e] at h
  have h1 := ih (by omega) h.left
  have h2 := h.right
  rw [codeTo_length] at h2
  have h3 := bit_from hB h2 0 (by simp) (x / 2 ^ (n - 1 - k)) rfl
  rw [Nat.add_zero] at h3
  rw [keyAt, h1, h3]
  obtain ⟨m, hm⟩ : ∃ m, n - k = m + 1 := ⟨n - k - 1, by omega⟩
  have hm2 : n - 1 - k = m := by omega
  have hm3 : n - (k + 1) = m := by omega
  rw [hm, hm2, hm3]
  have e2 : (2 ^ n + x) / 2 ^ (m + 1) = (2 ^ n + x) / 2 ^ m / 2 := by rw [Nat.pow_succ, Nat.div_div_eq_div_mul]
  have e3 : (2 ^ n + x) / 2 ^ m % 2 = x / 2 ^ m % 2 := by
   have : 2 ^ n = 2 ^ m * (2 * 2 ^ k) := by
    rw [show n = m + (1 + k) by omega, Nat.pow_add, Nat.pow_add]
   rw [this, Nat.mul_add_div (Nat.pow_pos (by omega)), Nat.add_mod, Nat.mul_mod_right, Nat.zero_add, Nat.mod_mod]
  rw [e2, ← e3]
  omega
end Go.Bel
namespace Go.Bel
open Go Go.RowKit
def Off (b : Nat) (v : Value) (k : Nat) : Prop := k ≠ b ∧ v.ownBlock ≠ some k
theorem Off.wrt {b k : Nat} {w w' : World} {v v' : Value} (h : Off b v k) (hk : k < w.heap.size) (hw : Wrt b w v w' v') : Off b v' k :=
 ⟨h.1, fun e => (hw.own k e).elim h.2 (fun x => by omega)⟩
theorem Wrt.alloc {b : Nat} {w w' : World} {v v' : Value} (h : Wrt b w v w' v') (o : Obj) : Wrt b w v (w'.alloc o) v' := ⟨h.step.alloc o, h.own⟩
theorem Wrt.step0 {b : Nat} {w w' w'' : World} {v v' : Value} (h : Wrt b w v w' v') (hs : Step (fun _ => False) w' w'') : Wrt b w v w'' v' :=
 ⟨h.step.trans' hs fun _ _ x => x.elim, h.own⟩
theorem ownsRow_of_block {w w' : World} {base e size n : Nat} {v : Value} {xs : List Value} (h : w.ownsRow base e size v n xs) (hb : ∀ k, v.ownBlock = some k → w'.heap[k]? = w.heap[k]?) : w'.ownsRow base e size v n xs := by
 obtain ⟨h1, h2 | ⟨g, cap, cur, hv, hg, hh, r⟩⟩ := h
 ·exact ⟨h1, .inl h2⟩
 ·exact ⟨h1, .inr ⟨g, cap, cur, hv, hg, (hb g (by rw [hv]; rfl)).trans hh, r⟩⟩
def orderList : List Nat := [16, 17, 18, 0, 8, 7, 9, 6, 10, 5, 11, 4, 12, 3, 13, 2, 14, 1, 15]
end Go.Bel
namespace Go.Proofs.YtbpahojchgpdnaaGreatDoor
open Go.RowKit Go.Bel
theorem Tryz.info5 : (Tryz.prog.info? 5).map (fun i => (i.zero, i.size, i.bytes)) = some (some (.int .u8 0), 1, 1) := by kernel_rfl
end Go.Proofs.YtbpahojchgpdnaaGreatDoor
namespace Go.Proofs.YtbpahojchgpdnaaGreatDoor
open Go.RowKit Go.Bel
def bytesOf (s : ByteArray) : List Nat := s.data.toList.map (·.toNat)
theorem bytesOf_length (s : ByteArray) : (bytesOf s).length = s.size := by
 unfold bytesOf; rw [List.length_map, Array.length_toList]; rfl
theorem bytesOf_lt (s : ByteArray) : ∀ x ∈ bytesOf s, x < 256 := by
 intro x hx
 simp only [bytesOf, List.mem_map] at hx
 obtain ⟨c, _, rfl⟩ := hx
 exact c.toNat_lt
end Go.Proofs.YtbpahojchgpdnaaGreatDoor
namespace Go.Proofs.YtbpahojchgpdnaaGreatDoor
open Go.RowKit Go.Bel
def fixedBits (s : Nat) : List Bool :=
 if s < 144 then codeBits (48 + s) 8 else if s < 256 then codeBits (400 + s - 144) 9 else if s < 280 then codeBits (s - 256) 7 else codeBits (192 + s - 280) 8
def beginBits (last : Bool) (kind : Nat) : List Bool := last :: numBits kind 2
def fixedAll (l : List Nat) : List Bool := l.flatMap fixedBits
def litBits (l : List Nat) (last : Bool) : List Bool := beginBits last 1 ++ fixedAll l ++ fixedBits 256
def padBits (n : Nat) : List Bool := List.replicate ((8 - n % 8) % 8) false
def byteBits (l : List Nat) : List Bool := l.flatMap (numBits · 8)
theorem byteBits_length (l : List Nat) : (byteBits l).length = 8 * l.length := by
 induction l with
 | nil => simp [byteBits]
 | cons a l ih =>
  have e : byteBits (a :: l) = numBits a 8 ++ byteBits l := by simp [byteBits]
  rw [e, List.length_append, List.length_cons, numBits_length]; omega
theorem beginBits_length (last : Bool) (k : Nat) : (beginBits last k).length = 3 := by simp [beginBits, numBits_length]
end Go.Proofs.YtbpahojchgpdnaaGreatDoor
