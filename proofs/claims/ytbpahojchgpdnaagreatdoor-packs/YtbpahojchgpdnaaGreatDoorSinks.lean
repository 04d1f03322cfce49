/- Proved here: what one call of the sink's Bit does. -/
import Derived.Deep.RegionHeld3
import Derived.Deep.DeepCutAuto
import Derived.Deep.LoopGhost
import Derived.Test.YtbpahojchgpdnaaGreatDoorSummed
set_option maxRecDepth 20000
set_option maxHeartbeats 4000000
namespace Go.Proofs.YtbpahojchgpdnaaGreatDoor
open Go.RowKit Go.Bel
def roomOf (n : Nat) : Nat := (8 - n % 8) % 8
structure SkAt (w : World) (k base : Nat) (v : Value) (bs : List Bool) (B : List Nat) : Prop where
 blk : w.heap[k]? = some (.cells #[v, .int .i64 (roomOf bs.length : Nat)] 103 (0, 0))
 own : w.ownsRow base 5 1 v B.length (u8s B)
 bits : BitsIn bs B
 len : B.length = (bs.length + 7) / 8
 apart : k < base
structure SkMid (w : World) (k base : Nat) (v : Value) (bs : List Bool) (B : List Nat) : Prop where
 blk : w.heap[k]? = some (.cells #[v, .int .i64 (8 - bs.length % 8 : Nat)] 103 (0, 0))
 own : w.ownsRow base 5 1 v B.length (u8s B)
 bits : BitsIn bs B
 len : B.length = bs.length / 8 + 1
 apart : k < base
theorem SkMid.put {w : World} {k base g cap x : Nat} {bs : List Bool} {B : List Nat} (h : SkMid w k base (.slice (some ⟨g, 0, none⟩) B.length cap) bs B) (hx : x < 2) (c : Nat) (hc : c = B[bs.length / 8]?.getD 0 ||| x * 2 ^ (bs.length % 8)) :
  ∃ B', SkAt (((w.setCell ⟨g, bs.length / 8, none⟩ (.int .u8 (c : Nat))).setCell ⟨k, 1, none⟩ (.int .i64 ((8 - bs.length % 8 : Nat) - 1 : Int))).drew) k base (.slice (some ⟨g, 0, none⟩) B.length cap) (bs ++ [decide (x = 1)]) B' ∧ B'.length = B.length := by
 have hl := h.len
 have hlt : bs.length / 8 < B.length := by omega
 have hgb : base ≤ g := (h.own.lt g rfl).1
 have hap := h.apart
 have hg : g ≠ k := by omega
 refine ⟨B.set (bs.length / 8) c, ⟨?_, ?_, ?_, ?_, hap⟩, by simp⟩
 ·have h1 : (w.setCell ⟨g, bs.length / 8, none⟩ (.int .u8 (c : Nat))).heap[k]? = _ := (Below.heap_setCell w ⟨g, bs.length / 8, none⟩ _ k (fun y => hg y.symm)).trans h.blk
  have h2 := blk_set h1 1 (.int .i64 ((8 - bs.length % 8 : Nat) - 1 : Int))
  have e : ((8 - bs.length % 8 : Nat) - 1 : Int) = ((roomOf (bs ++ [decide (x = 1)]).length : Nat) : Int) := by
   unfold roomOf
   rw [List.length_append, List.length_singleton]
   omega
  rw [e] at h2 ⊢
  show (World.setCell _ _ _).heap[k]? = _
  simpa using h2
 ·have ho := (h.own.stored (bs.length / 8) (.int .u8 (c : Nat))).1
  have ho2 := ownsRow_of_block (w' := ((w.setCell ⟨g, bs.length / 8, none⟩ (.int .u8 (c : Nat))).setCell ⟨k, 1, none⟩ (.int .i64 ((8 - bs.length % 8 : Nat) - 1 : Int))).drew) ho (fun j hj => Below.heap_setCell _ _ _ _ (fun y => by
   simp only [Value.ownBlock, Option.some.injEq] at hj
   rw [← hj] at y
   exact hg y))
  rw [List.length_set]
  have e : (u8s B).set (bs.length / 8) (.int .u8 (c : Nat)) = u8s (B.set (bs.length / 8) c) := by simp [u8s, List.map_set]
  rw [← e]
  exact ho2
 ·have hx2 : x = 0 ∨ x = 1 := by omega
  rcases hx2 with rfl | rfl
  ·have e : B.set (bs.length / 8) c = B := by
    rw [hc, Nat.zero_mul, Nat.or_zero]
    refine List.ext_getElem? fun i => ?_
    by_cases hi : i = bs.length / 8
    ·subst hi
     rw [List.getElem?_set_self hlt, List.getElem?_eq_getElem hlt]
     rfl
    ·rw [List.getElem?_set_ne (fun y => hi y.symm)]
   rw [e]
   exact h.bits.noBit
  ·rw [hc, Nat.one_mul]
   exact h.bits.oneBit hlt
 ·rw [List.length_set, List.length_append, List.length_singleton]
  omega
theorem skBit (k base x : Nat) (v : Value) (bs : List Bool) (B : List Nat) (w : World) (h : SkAt w k base v bs B) (hx : x < 2) (hl : bs.length < 70368744177664) (hbase : base ≤ w.heap.size) :
  Calls Tryz.prog 126 #[.pointer (some ⟨k, 0, none⟩), .int .i64 (x : Nat)] w
   fun e w' => e = .returned (.tuple #[]) ∧ ∃ v' B', SkAt w' k base v' (bs ++ [decide (x = 1)]) B' ∧ Wrt k w v w' v' := by
 obtain ⟨h0, h1, hf0, hf1⟩ := blk_two h.blk
 have hkl := lt_of_block h.blk
 have hlen := hide h.len
 have HH := hide h
 go_enter Tryz.func126, Tryz.ntmps126
 go_upto_if 8 with fail
 go_cut [] (fun wc => ∃ v1 B1, SkMid wc k base v1 bs B1 ∧ Wrt k w v wc v1)
 case first =>
  by_cases hr : bs.length % 8 = 0
  ·have hro : roomOf bs.length = 0 := by unfold roomOf; omega
   rw [hro] at h1
   obtain ⟨i0, hi, hz0, hz1, hz2⟩ := info_parts Tryz.info5
   have hown := h.own
   obtain ⟨va, vc, hvs⟩ : ∃ a c, v = .slice a B.length c := by
    obtain ⟨_, ⟨hv, hn⟩ | ⟨g, cap, _, hv, _⟩⟩ := hown
    ·exact ⟨none, 0, by rw [hv, hn]⟩
    ·exact ⟨_, _, hv⟩
   have HV := hide hvs
   have HW := hide hown
   rw [hvs] at h0
   clear h hvs hown
   go_wp2_with (at_builtin; refine wpList_append_row _ rfl _ _ 31 rfl base 5 i0 (.int .u8 0) 1 1 Tryz.underlying31 hi hz0 hz1 hz2 rfl (by decide) _ B.length (u8s B) rfl (by rw [← unhide HV]; exact (unhide HW).alloc _) ⟨w.heap.size, 0, none⟩ 1 1 [.int .u8 0] rfl rfl ?c1 ?c2 (by decide) ?c3 ?c4 ?c5 ?_)
   case c1 =>
    intro j u hj
    match j, hj with
    | 0, hj => simp at hj; subst hj; exact cell_of_one (heap_alloc_new w (.cells #[.int .u8 0] 5))
   case c2 => intro u hu; simp at hu; subst hu; rfl
   case c3 => have := unhide hlen; unfold maxLen; omega
   case c4 => have := unhide hlen; omega
   case c5 => simp; omega
   intro g cap w1 hown' hgr hg
   have hne : v.ownBlock ≠ some k := fun hk => by have := ((unhide HW).lt k hk).1; have := (unhide HH).apart; omega
   have hal : Step (fun _ => False) w (w.alloc (.cells #[.int .u8 0] 5)) := (Step.refl _ _).alloc _
   have hs1 : Step (fun j => v.ownBlock = some j) w w1 := (hal.mono (fun _ y => y.elim)).grown hgr (fun j hj => .inl (by rw [unhide HV]; exact hj))
   have hb1 := hs1.at_ (unhide HH).blk hne
   obtain ⟨k0, k1, kf0, kf1⟩ := blk_two hb1
   have hkl1 := lt_of_block hb1
   have hgb : base ≤ g := (hown'.lt g rfl).1
   have HG := hide (show SkMid ((w1.setCell ⟨k, 0, none⟩ (.slice (some ⟨g, 0, none⟩) (B.length + 1) cap)).setCell ⟨k, 1, none⟩ (.int .i64 8)) k base (.slice (some ⟨g, 0, none⟩) (B.length + 1) cap) bs (B ++ [0]) ∧ Wrt k w v ((w1.setCell ⟨k, 0, none⟩ (.slice (some ⟨g, 0, none⟩) (B.length + 1) cap)).setCell ⟨k, 1, none⟩ (.int .i64 8)) (.slice (some ⟨g, 0, none⟩) (B.length + 1) cap) from by
    have hap := (unhide HH).apart
    have el : (B ++ [0]).length = B.length + 1 := by simp
    have eu : u8s B ++ [.int .u8 0] = u8s (B ++ [0]) := by simp [u8s]
    have hs2 : Step (· = k) w1 ((w1.setCell ⟨k, 0, none⟩ (.slice (some ⟨g, 0, none⟩) (B.length + 1) cap)).setCell ⟨k, 1, none⟩ (.int .i64 8)) := ((Step.refl (· = k) w1).setCell (p := ⟨k, 0, none⟩) rfl _).setCell (p := ⟨k, 1, none⟩) rfl _
    refine ⟨⟨?_, ?_, (unhide HH).bits.zero, by have := unhide hlen; rw [el]; omega, hap⟩, ⟨(hs1.mono (fun j y => .inr y)).trans (hs2.mono (fun j y => .inl y)), fun j hj => ?_⟩⟩
    ·have h8 := blk_set hb1 0 (.slice (some ⟨g, 0, none⟩) (B.length + 1) cap)
     have h9 := blk_set h8 1 (.int .i64 8)
     rw [hr]
     simpa using h9
    ·rw [el, ← eu]
     exact ownsRow_of_block hown' (fun j hj => hs2.block j (hown'.lt j hj).2 (fun y => by
      simp only [Value.ownBlock, Option.some.injEq] at hj
      omega))
    ·simp only [Value.ownBlock, Option.some.injEq] at hj
     subst hj
     rcases hg with y | y
     ·exact .inl (by rw [unhide HV]; exact y)
     ·exact .inr (by omega))
   rw [unhide HV] at k0
   rw [hro] at k1
   clear hown' hgr hg hs1 hb1 hal hne
   go_wp2_with fail
   go_meet
   case rel => exact ⟨_, _, unhide HG⟩
  ·have hro : roomOf bs.length = 8 - bs.length % 8 := by unfold roomOf; omega
   have hrb : ((roomOf bs.length : Int) == 0) = false := beq_eq_false_iff_ne.2 (by omega)
   have HG := hide (show SkMid w k base v bs B from ⟨by rw [← hro]; exact h.blk, h.own, h.bits, by have := unhide hlen; omega, h.apart⟩)
   clear h hro
   go_wp2_with fail
   go_meet
   case rel => exact ⟨v, B, unhide HG, Wrt.refl _ _ _⟩
 case rest =>
  obtain ⟨v1, B1, hm, hw⟩ := hcut
  clear h0 h1 hf0 hf1 HH h
  have hml := hm.len
  obtain ⟨_, ⟨_, hz⟩ | ⟨g, cap, cur, hv, hgb, hh, _⟩⟩ := hm.own
  ·omega
  subst hv
  obtain ⟨k0, k1, kf0, kf1⟩ := blk_two hm.blk
  have hfg := blk_free hh (bs.length / 8)
  have hc0 : wc.cell? ⟨g, bs.length / 8, none⟩ = some (.int .u8 (B1[bs.length / 8]?.getD 0 : Nat)) := by
   rw [hm.own.cellAt (bs.length / 8) (by omega), u8s_get _ _ (by omega)]
  have hb := hm.bits.byte (bs.length / 8)
  obtain ⟨c, hc⟩ : ∃ c, c = B1[bs.length / 8]?.getD 0 := ⟨_, rfl⟩
  obtain ⟨j, hj⟩ : ∃ j, j = bs.length / 8 := ⟨_, rfl⟩
  obtain ⟨t, ht⟩ : ∃ t, t = bs.length % 8 := ⟨_, rfl⟩
  rw [← hc] at hc0 hb
  rw [← hj] at hc0 hfg
  rw [← ht] at k1
  have ht8 : t < 8 := by omega
  have HM := hide hm
  have HWR := hide hw
  have hap := hm.apart
  have hgk : ¬ g = k := by omega
  have hgk2 : ¬ k = g := by omega
  have HC := hide hc
  have HJ := hide hj
  have HT := hide ht
  have hlj : (B1.length : Int) - 1 = (j : Int) := by omega
  have hjl : (j : Int) < (B1.length : Int) := by omega
  have hj0 : (0 : Int) ≤ (j : Int) := by omega
  have hjw : IntKind.i64.wrap (j : Int) = (j : Int) := by rw [IntKind.wrap_i64]; omega
  have hxw : IntKind.i64.wrap (8 - ((8 - t : Nat) : Int)) = (t : Int) := by rw [IntKind.wrap_i64]; omega
  have hx8 : (8 : Int) - ((8 - t : Nat) : Int) = (t : Int) := by omega
  clear hm hw hc hj ht hh hml
  go_wp2_with fail
  go_region
  go_wp2_with fail
  go_end0
  have hx2 : x = 0 ∨ x = 1 := by omega
  have hval : bits BinOp.or IntKind.u8 (c : Int) ((x : Int) * 2 ^ t % 256) = ((c ||| x * 2 ^ t : Nat) : Int) := by
   rcases hx2 with rfl | rfl
   ·rw [show (((0 : Nat) : Int) * 2 ^ t % 256) = ((0 : Nat) : Int) by simp, bits_or_u8 c 0 hb (by decide), Nat.zero_mul]
   ·rw [show (((1 : Nat) : Int) * 2 ^ t % 256) = 2 ^ t % 256 by simp, or_val c t hb ht8, Nat.one_mul]
  obtain ⟨B', hsk, hBl⟩ := (unhide HM).put hx (c ||| x * 2 ^ t) (by rw [unhide HC, unhide HT])
  rw [unhide HT] at hsk
  rw [hval, unhide HJ, unhide HT]
  refine ⟨rfl, _, B', hsk, (unhide HWR).trans ⟨?_, fun j hj => .inl hj⟩⟩
  exact (((Step.refl _ _).setCell (.inr rfl) _).setCell (.inl rfl) _).drew
end Go.Proofs.YtbpahojchgpdnaaGreatDoor
namespace Go.Proofs.YtbpahojchgpdnaaGreatDoor
open Go.RowKit Go.Bel
def Sk (w : World) (k base : Nat) (v : Value) (bs : List Bool) : Prop := ∃ B, SkAt w k base v bs B
theorem Sk.lt {w : World} {k base : Nat} {v : Value} {bs : List Bool} (h : Sk w k base v bs) : k < w.heap.size := by
 obtain ⟨B, h⟩ := h; exact lt_of_block h.blk
theorem skBitS (k base x : Nat) (v : Value) (bs : List Bool) (w : World) (h : Sk w k base v bs) (hx : x < 2) (hl : bs.length < 70368744177664) (hbase : base ≤ w.heap.size) :
  Calls Tryz.prog 126 #[.pointer (some ⟨k, 0, none⟩), .int .i64 (x : Nat)] w
   fun e w' => e = .returned (.tuple #[]) ∧ ∃ v', Sk w' k base v' (bs ++ [decide (x = 1)]) ∧ Wrt k w v w' v' := by
 obtain ⟨B, h⟩ := h
 refine (skBit k base x v bs B w h hx hl hbase).mono ?_
 rintro e w' ⟨rfl, v', B', h1, h2⟩
 exact ⟨rfl, v', ⟨B', h1⟩, h2⟩
theorem and_one_num (a : Nat) (ha : a < 4611686018427387904) : bits .and .i64 (a : Int) 1 = ((a % 2 : Nat) : Int) := by
 have hx : a &&& 1 < 2 ^ 1 := Nat.and_lt_two_pow _ (by omega)
 show IntKind.i64.wrap ((BitVec.ofInt 64 (a : Int) &&& BitVec.ofInt 64 ((1 : Nat) : Int)).toNat : Int) = _
 rw [BitVec.toNat_and, ofInt_nat 64 a (by omega), ofInt_nat 64 1 (by omega), IntKind.wrap_i64, Nat.and_one_is_mod]
 omega
theorem skNum (k base x n : Nat) (v : Value) (bs : List Bool) (w : World) (h : Sk w k base v bs) (hx : x < 4611686018427387904) (hn : n ≤ 60) (hl : bs.length < 70368744170000) (hbase : base ≤ w.heap.size) :
  Calls Tryz.prog 93 #[.pointer (some ⟨k, 0, none⟩), .int .i64 (x : Nat), .int .i64 (n : Nat)] w
   fun e w' => e = .returned (.tuple #[]) ∧ ∃ v', Sk w' k base v' (bs ++ numBits x n) ∧ Wrt k w v w' v' := by
 have HH := hide h
 clear h
 go_enter Tryz.func93, Tryz.ntmps93
 go_wp2_with fail
 go_loopg [8] n (fun g u8 wr => ∃ (i : Nat) (v1 : Value), u8 = .int .i64 (i : Nat) ∧ g + i = n ∧ Sk wr k base v1 (bs ++ numBits x i) ∧ Wrt k w v wr v1)
 case atStart => exact ⟨0, v, rfl, by omega, by rw [show numBits x 0 = [] from rfl, List.append_nil]; exact unhide HH, Wrt.refl _ _ _⟩
 case round =>
  obtain ⟨i, v1, rfl, hg, hs, hw⟩ := hrel
  by_cases hi : i < n
  ·have hi' : (i : Int) < (n : Int) := by omega
   have hi0 : (0 : Int) ≤ (i : Int) := by omega
   have hd : x / 2 ^ i < 4611686018427387904 := Nat.lt_of_le_of_lt (Nat.div_le_self _ _) hx
   have hbit := and_one_num (x / 2 ^ i) hd
   have hbit' : bits .and .i64 ((x : Int) / 2 ^ i) 1 = ((x / 2 ^ i % 2 : Nat) : Int) := by rw [← hbit]; simp
   have hsz := hw.step.size
   have hC := skBitS k base (x / 2 ^ i % 2) v1 (bs ++ numBits x i) wr hs (by omega) (by rw [List.length_append, numBits_length]; omega) (by omega)
   have HC := hide hC
   have HW := hide hw
   obtain ⟨y, hy⟩ : ∃ y, y = x / 2 ^ i % 2 := ⟨_, rfl⟩
   rw [← hy] at hbit' HC
   have HY := hide hy
   clear hC hw hs hbit hd hy
   go_wp2_with fail
   refine (unhide HC).mono ?_
   rintro r w2 ⟨rfl, v2, hs2, hw2⟩
   have HF := hide (show Sk w2 k base v2 (bs ++ numBits x (i + 1)) ∧ Wrt k w v w2 v2 from ⟨by
    rw [numBits_succ, ← List.append_assoc, ← unhide HY]; exact hs2, (unhide HW).trans hw2⟩)
   clear hs2 hw2 HC HW
   go_wp2_with fail
   go_roundg (gk - 1)
   case measure => omega
   case rel => exact ⟨i + 1, v2, by simp, by omega, unhide HF⟩
  ·obtain rfl : i = n := by omega
   have hi' : ¬ (i : Int) < (i : Int) := by omega
   have HF := hide (And.intro hs hw)
   clear hs hw
   go_wp2_with fail
   go_end0
   exact ⟨rfl, v1, unhide HF⟩
theorem _root_.Go.Bel.BitsIn.fill {bs : List Bool} {B : List Nat} (h : BitsIn bs B) (n : Nat) : BitsIn (bs ++ List.replicate n false) B := by
 induction n with
 | zero => simpa using h
 | succ n ih => rw [List.replicate_succ', ← List.append_assoc]; exact ih.noBit
theorem skFill (k base : Nat) (v : Value) (bs : List Bool) (w : World) (h : Sk w k base v bs) :
  Calls Tryz.prog 95 #[.pointer (some ⟨k, 0, none⟩)] w
   fun e w' => e = .returned (.tuple #[]) ∧ Sk w' k base v (bs ++ padBits bs.length) ∧ Step (· = k) w w' := by
 obtain ⟨B, h⟩ := h
 obtain ⟨h0, h1, hf0, hf1⟩ := blk_two h.blk
 have hkl := lt_of_block h.blk
 have HF := hide (show Sk (w.setCell ⟨k, 1, none⟩ (.int .i64 0)) k base v (bs ++ padBits bs.length) ∧ Step (· = k) w (w.setCell ⟨k, 1, none⟩ (.int .i64 0)) from by
  have hs : Step (· = k) w (w.setCell ⟨k, 1, none⟩ (.int .i64 0)) := (Step.refl (· = k) w).setCell (p := ⟨k, 1, none⟩) rfl _
  have hap := h.apart
  refine ⟨⟨B, ?_, ?_, h.bits.fill _, ?_, h.apart⟩, hs⟩
  ·have h9 := blk_set h.blk 1 (.int .i64 0)
   have e : roomOf (bs ++ padBits bs.length).length = 0 := by
    rw [List.length_append, padBits, List.length_replicate]
    unfold roomOf
    omega
   rw [e]
   simpa using h9
  ·exact ownsRow_of_block h.own (fun j hj => hs.block j (h.own.lt j hj).2 (fun y => by have := (h.own.lt j hj).1; omega))
  ·have := h.len
   rw [List.length_append, padBits, List.length_replicate]
   omega)
 clear h
 go_enter Tryz.func95, Tryz.ntmps95
 go_wp2_with fail
 go_end0
 exact ⟨rfl, unhide HF⟩
end Go.Proofs.YtbpahojchgpdnaaGreatDoor
namespace Go.Proofs.YtbpahojchgpdnaaGreatDoor
open Go.RowKit Go.Bel
theorem numBits_get (y p : Nat) (hp : p < 8) : (numBits y 8)[p]?.getD false = decide (y / 2 ^ p % 2 = 1) := by
 unfold numBits
 rw [List.getElem?_map, List.getElem?_range hp]
 rfl
theorem byteBits_get (ys : List Nat) (p : Nat) : ((byteBits ys)[p]?.getD false).toNat = bitAt ys p := by
 induction ys generalizing p with
 | nil => simp [byteBits, bitAt]
 | cons y ys ih =>
  rw [show byteBits (y :: ys) = numBits y 8 ++ byteBits ys from rfl]
  by_cases hp : p < 8
  ·rw [List.getElem?_append_left (by rw [numBits_length]; exact hp), numBits_get y p hp]
   unfold bitAt
   rw [show p / 8 = 0 by omega, show p % 8 = p by omega]
   show _ = y / 2 ^ p % 2
   rcases Nat.mod_two_eq_zero_or_one (y / 2 ^ p) with h | h <;> rw [h] <;> rfl
  ·rw [List.getElem?_append_right (by rw [numBits_length]; omega), numBits_length, ih]
   unfold bitAt
   rw [show p / 8 = (p - 8) / 8 + 1 by omega, show (p - 8) % 8 = p % 8 by omega, List.getElem?_cons_succ]
theorem bits_bytes {bs : List Bool} {B : List Nat} (h : BitsIn bs B) (h8 : bs.length = 8 * B.length) (ys : List Nat) (hy : ∀ y ∈ ys, y < 256) : BitsIn (bs ++ byteBits ys) (B ++ ys) := by
 refine ⟨fun i => ?_, fun p => ?_⟩
 ·by_cases hi : i < B.length
  ·rw [List.getElem?_append_left hi]; exact h.byte i
  ·rw [List.getElem?_append_right (by omega)]
   by_cases hj : i - B.length < ys.length
   ·rw [List.getElem?_eq_getElem hj]; exact hy _ (List.getElem_mem hj)
   ·rw [List.getElem?_eq_none (by omega)]; decide
 ·by_cases hp : p < bs.length
  ·have h1 := h.bit p
   rw [List.getElem?_append_left hp, ← h1]
   unfold bitAt
   rw [List.getElem?_append_left (by omega)]
  ·rw [List.getElem?_append_right (by omega), byteBits_get]
   unfold bitAt
   rw [List.getElem?_append_right (by omega), h8, show p / 8 - B.length = (p - 8 * B.length) / 8 by omega, show (p - 8 * B.length) % 8 = p % 8 by omega]
theorem run_append_zero {P : Program} {w : World} (base : Nat) (t ty e : TypeId) (i : TypeInfo) (size : Nat) (ht : P.underlying t = some (.slice e)) (hi : P.info? e = some i)
  (v : Value) (n : Nat) (xs : List Value) (hown : w.ownsRow base e size v n xs) (ad : Option Addr) (c : Nat) :
  (Builtin.append_ #[t, t] ty #[v, .slice ad 0 c]).run P w = .ok v w := by
 rcases hown.2 with ⟨rfl, rfl⟩ | ⟨g, cap, cur, rfl, _, _, hnc, _⟩ <;> cases ad <;> simp [Builtin.append_, run_underlying ht, sizeOf, typeInfo, Builtin.lenOf, Builtin.firstCells, storeCells, loadCells, loadCellsFrom, *]
theorem wpList_append_zero {P : Program} {w : World} {ops : Array Oper} {rest : List Oper} {o : Oper} {a : Act} {Q : Exit → Act → World → Prop} (hgd : o.guard = none) (s x : Operand) (t : TypeId)
  (ho : o.op = .call { callee := .builtin .append, args := #[s, x], argTypes := #[t, t] })
  (base : Nat) (e : TypeId) (i : TypeInfo) (size : Nat) (ht : P.underlying t = some (.slice e)) (hi : P.info? e = some i)
  (v : Value) (n : Nat) (xs : List Value) (hs : a.eval s = v) (hown : w.ownsRow base e size v n xs) (ad : Option Addr) (c : Nat) (hx : a.eval x = .slice ad 0 c)
  (h : wpList P ops Q rest (a.put o.dst v) w) : wpList P ops Q (o :: rest) a w := by
 refine wpList_plain hgd fun K hK => ?_
 have hrun := run_append_zero (P := P) (w := w) base t o.type e i size ht hi v n xs hown ad c
 unfold Oper.wp
 simp [execOp, ho, resolve, invoke, builtin, hs, hx, hrun, Result.andThen]
 exact hK _ _ h
theorem wrt_k {k : Nat} {w w' : World} (v : Value) (h : Step (· = k) w w') : Wrt k w v w' v := ⟨h.mono (fun _ y => .inl y), fun _ hj => .inl hj⟩
theorem fill_len (n : Nat) : (n + (padBits n).length) % 8 = 0 := by
 unfold padBits
 rw [List.length_replicate]
 omega
theorem skBytes (k base : Nat) (v u : Value) (bs : List Bool) (ys : List Nat) (w : World) (h : Sk w k base v bs) (hu : BytesV w u ys) (hy : ∀ y ∈ ys, y < 256) (hl : bs.length + 8 * ys.length < 70368744170000) (hbase : base ≤ w.heap.size) (hne : ∀ j off n c, u = .slice (some ⟨j, off, none⟩) n c → j ≠ k) :
  Calls Tryz.prog 58 #[.pointer (some ⟨k, 0, none⟩), u] w
   fun e w' => e = .returned (.tuple #[]) ∧ ∃ v', Sk w' k base v' (bs ++ padBits bs.length ++ byteBits ys) ∧ Wrt k w v w' v' := by
 have HF := hide (skFill k base v bs w h)
 obtain ⟨i0, hi, hz0, hz1, hz2⟩ := info_parts Tryz.info5
 go_enter Tryz.func58, Tryz.ntmps58
 have hu2 : (∃ a c, u = .slice a 0 c ∧ ys = []) ∨ (ys ≠ [] ∧ ∃ j off cap, u = .slice (some ⟨j, off, none⟩) ys.length cap ∧ Lies w j off ys) := by
  rcases hu with hu | ⟨j, off, cap, hv, hli⟩
  ·exact .inl hu
  ·by_cases hy0 : ys = []
   ·subst hy0; exact .inl ⟨_, _, hv, rfl⟩
   ·exact .inr ⟨hy0, j, off, cap, hv, hli⟩
 clear hu
 rcases hu2 with ⟨ua, uc, rfl, rfl⟩ | ⟨hy0, j, off, uc, rfl, hli⟩
 ·clear h hne
  go_wp2_with fail
  refine (unhide HF).mono ?_
  rintro r w1 ⟨rfl, ⟨B, h1⟩, hw1⟩
  obtain ⟨k0, k1, kf0, kf1⟩ := blk_two h1.blk
  obtain ⟨va, vc, hvs⟩ : ∃ a c, v = .slice a B.length c := by
   obtain ⟨_, ⟨hv, hn⟩ | ⟨g, cap, _, hv, _⟩⟩ := h1.own
   ·exact ⟨none, 0, by rw [hv, hn]⟩
   ·exact ⟨_, _, hv⟩
  have HV := hide hvs
  have HW := hide h1.own
  have H1 := hide h1
  have HST := hide hw1
  rw [hvs] at k0
  have HG := hide (show Sk (w1.setCell ⟨k, 0, none⟩ (.slice va B.length vc)) k base v (bs ++ padBits bs.length ++ byteBits []) ∧ Wrt k w v (w1.setCell ⟨k, 0, none⟩ (.slice va B.length vc)) v from by
   have hs : Step (· = k) w1 (w1.setCell ⟨k, 0, none⟩ (.slice va B.length vc)) := (Step.refl (· = k) w1).setCell (p := ⟨k, 0, none⟩) rfl _
   have hap := h1.apart
   refine ⟨⟨B, ?_, ?_, ?_, ?_, hap⟩, wrt_k v (hw1.trans hs)⟩
   ·have h9 := blk_set h1.blk 0 (.slice va B.length vc)
    rw [show byteBits [] = [] from rfl, List.append_nil, hvs]
    rw [hvs] at h9
    simpa using h9
   ·exact ownsRow_of_block h1.own (fun i hi => hs.block i (h1.own.lt i hi).2 (fun y => by have := (h1.own.lt i hi).1; omega))
   ·rw [show byteBits [] = [] from rfl, List.append_nil]; exact h1.bits
   ·rw [show byteBits [] = [] from rfl, List.append_nil]; exact h1.len)
  clear h1 hw1 hvs HF
  go_wp2_with (at_builtin; refine wpList_append_zero rfl _ _ 31 rfl base 5 i0 1 Tryz.underlying31 hi _ B.length (u8s B) rfl (by rw [← unhide HV]; exact unhide HW) ua uc rfl ?_)
  go_end0
  exact ⟨rfl, v, unhide HG⟩
 ·have hjk := hne j off ys.length uc rfl
  have hyl : 0 < ys.length := List.length_pos_iff.2 hy0
  clear h hne
  go_wp2_with fail
  refine (unhide HF).mono ?_
  rintro r w1 ⟨rfl, ⟨B, h1⟩, hw1⟩
  obtain ⟨k0, k1, kf0, kf1⟩ := blk_two h1.blk
  have hkl1 := lt_of_block h1.blk
  have hsz1 := hw1.size
  obtain ⟨va, vc, hvs⟩ : ∃ a c, v = .slice a B.length c := by
   obtain ⟨_, ⟨hv, hn⟩ | ⟨g, cap, _, hv, _⟩⟩ := h1.own
   ·exact ⟨none, 0, by rw [hv, hn]⟩
   ·exact ⟨_, _, hv⟩
  have hli1 : Lies w1 j off ys := fun i hi => hw1.cell (p := ⟨j, off + i, none⟩) (hli i hi) hjk
  have hB8 : (bs ++ padBits bs.length).length = 8 * B.length := by
   have h8 := fill_len bs.length
   have h9 := h1.len
   rw [List.length_append] at h9 ⊢
   omega
  have hfl : (padBits bs.length).length < 8 := by unfold padBits; rw [List.length_replicate]; omega
  have hBl : 8 * B.length < bs.length + 8 := by rw [← hB8, List.length_append]; omega
  have HB8 := hide hB8
  have HBL := hide hBl
  have HV := hide hvs
  have HW := hide h1.own
  have H1 := hide h1
  have HST := hide hw1
  have HLI := hide hli1
  have HYL := hide hyl
  rw [hvs] at k0
  obtain ⟨m, hm⟩ : ∃ m, m = ys.length := ⟨_, rfl⟩
  have HM := hide hm
  rw [← hm]
  clear h1 hw1 hvs HF hli hli1 hB8 hm hy0 hyl hfl hBl
  go_wp2_with (at_builtin; refine wpList_append_row _ rfl _ _ 31 rfl base 5 i0 (.int .u8 0) 1 1 Tryz.underlying31 hi hz0 hz1 hz2 rfl (by decide) _ B.length (u8s B) rfl (by rw [← unhide HV]; exact unhide HW) ⟨j, off, none⟩ m uc (u8s ys) rfl ?c0 ?c1 ?c2 ?c6 ?c3 ?c4 ?c5 ?_)
  case c0 => rw [List.length_map, unhide HM, Nat.mul_one]
  case c1 => exact (unhide HLI).news
  case c2 => exact u8s_one _
  case c6 => rw [unhide HM]; exact unhide HYL
  case c3 => have := unhide HBL; have := unhide HM; unfold maxLen; omega
  case c4 => have := unhide HBL; have := unhide HM; omega
  case c5 => omega
  intro g cap w2 hown' hgr hg
  have hne : v.ownBlock ≠ some k := fun hk => by have := ((unhide HW).lt k hk).1; have := (unhide H1).apart; omega
  have hs2 : Step (fun i => v.ownBlock = some i) w1 w2 := (Step.refl _ w1).grown hgr (fun i hi => .inl (by rw [unhide HV]; exact hi))
  have hb2 := hs2.at_ (unhide H1).blk hne
  obtain ⟨m0, m1, mf0, mf1⟩ := blk_two hb2
  have hkl2 := lt_of_block hb2
  rw [unhide HV] at m0
  have HG := hide (show ∃ v', Sk (w2.setCell ⟨k, 0, none⟩ (.slice (some ⟨g, 0, none⟩) (B.length + m) cap)) k base v' (bs ++ padBits bs.length ++ byteBits ys) ∧ Wrt k w v (w2.setCell ⟨k, 0, none⟩ (.slice (some ⟨g, 0, none⟩) (B.length + m) cap)) v' from by
   have hap := (unhide H1).apart
   have hgb : base ≤ g := (hown'.lt g rfl).1
   have hs3 : Step (· = k) w2 (w2.setCell ⟨k, 0, none⟩ (.slice (some ⟨g, 0, none⟩) (B.length + m) cap)) := (Step.refl (· = k) w2).setCell (p := ⟨k, 0, none⟩) rfl _
   have el : (B ++ ys).length = B.length + m := by rw [List.length_append, unhide HM]
   refine ⟨.slice (some ⟨g, 0, none⟩) (B.length + m) cap, ⟨B ++ ys, ?_, ?_, bits_bytes (unhide H1).bits (unhide HB8) ys hy, ?_, hap⟩, (wrt_k v (unhide HST)).trans ⟨(hs2.mono (fun i y => .inr y)).trans (hs3.mono (fun i y => .inl y)), fun i hi => ?_⟩⟩
   ·have h9 := blk_set hb2 0 (.slice (some ⟨g, 0, none⟩) (B.length + m) cap)
    have e1 : roomOf (bs ++ padBits bs.length ++ byteBits ys).length = roomOf (bs ++ padBits bs.length).length := by
     rw [List.length_append, byteBits_length, unhide HB8]
     unfold roomOf
     omega
    rw [e1]
    simpa using h9
   ·rw [el, show u8s (B ++ ys) = u8s B ++ u8s ys by simp [u8s]]
    exact ownsRow_of_block hown' (fun i hi => hs3.block i (hown'.lt i hi).2 (fun y => by
     simp only [Value.ownBlock, Option.some.injEq] at hi
     omega))
   ·rw [el, List.length_append, byteBits_length, unhide HB8, ← unhide HM]
    omega
   ·simp only [Value.ownBlock, Option.some.injEq] at hi
    subst hi
    rcases hg with y | y
    ·exact .inl (by rw [unhide HV]; exact y)
    ·exact .inr y)
  clear hown' hgr hg hs2 hb2 hne
  go_wp2_with fail
  go_end0
  exact ⟨rfl, unhide HG⟩
theorem skOut (k base : Nat) (v : Value) (bs : List Bool) (w : World) (h : Sk w k base v bs) :
  Calls Tryz.prog 59 #[.pointer (some ⟨k, 0, none⟩)] w fun e w' => e = .returned v ∧ w' = w := by
 obtain ⟨B, h⟩ := h
 obtain ⟨h0, _⟩ := blk_two h.blk
 obtain ⟨va, vn, vc, hvs⟩ : ∃ a n c, v = .slice a n c := by
  obtain ⟨_, ⟨hv, _⟩ | ⟨g, cap, _, hv, _⟩⟩ := h.own
  ·exact ⟨_, _, _, hv⟩
  ·exact ⟨_, _, _, hv⟩
 subst hvs
 clear h
 go_enter Tryz.func59, Tryz.ntmps59
 go_wp2_with fail
 go_ret
 exact ⟨rfl, rfl⟩
end Go.Proofs.YtbpahojchgpdnaaGreatDoor
namespace Go.Proofs.YtbpahojchgpdnaaGreatDoor
open Go.RowKit Go.Bel
theorem writeHead_ok (k base kind : Nat) (last : Bool) (v : Value) (bs : List Bool) (w : World) (h : Sk w k base v bs) (hk : kind < 4) (hl : bs.length < 70368744160000) (hbase : base ≤ w.heap.size) :
  Calls Tryz.prog 99 #[.pointer (some ⟨k, 0, none⟩), .int .i64 (kind : Nat), .bool last] w
   fun e w' => e = .returned (.tuple #[]) ∧ ∃ v', Sk w' k base v' (bs ++ beginBits last kind) ∧ Wrt k w v w' v' := by
 have HB := hide (fun x (hx : x < 2) => skBitS k base x v bs w h hx (by omega) hbase)
 clear h
 have HNEXT := hide (show ∀ (x : Nat) (w1 : World) (v1 : Value), Sk w1 k base v1 (bs ++ [decide (x = 1)]) → Wrt k w v w1 v1 → Calls Tryz.prog 93 #[.pointer (some ⟨k, 0, none⟩), .int .i64 (kind : Nat), .int .i64 2] w1 fun e w' => e = .returned (.tuple #[]) ∧ ∃ v', Sk w' k base v' (bs ++ [decide (x = 1)] ++ numBits kind 2) ∧ Wrt k w v w' v' from fun x w1 v1 h1 hw1 => by
  have := hw1.step.size
  refine (skNum k base kind 2 v1 _ w1 h1 (by omega) (by omega) (by simp; omega) (by omega)).mono ?_
  rintro e w2 ⟨rfl, v2, h2, hw2⟩
  exact ⟨rfl, v2, h2, hw1.trans hw2⟩)
 cases last with
 | true =>
  go_enter Tryz.func99, Tryz.ntmps99
  go_wp2_with fail
  refine (unhide HB 1 (by omega)).mono ?_
  rintro r w1 ⟨rfl, v1, h1, hw1⟩
  have HN := hide (unhide HNEXT 1 w1 v1 h1 hw1)
  clear h1 hw1 HNEXT HB
  go_wp2_with fail
  refine (unhide HN).mono ?_
  rintro r w2 ⟨rfl, v2, h2, hw2⟩
  have HF := hide (And.intro h2 hw2)
  clear h2 hw2 HN
  go_wp2_with fail
  go_end0
  exact ⟨rfl, v2, by have := (unhide HF).1; rw [List.append_assoc] at this; exact this, (unhide HF).2⟩
 | false =>
  go_enter Tryz.func99, Tryz.ntmps99
  go_wp2_with fail
  refine (unhide HB 0 (by omega)).mono ?_
  rintro r w1 ⟨rfl, v1, h1, hw1⟩
  have HN := hide (unhide HNEXT 0 w1 v1 h1 hw1)
  clear h1 hw1 HNEXT HB
  go_wp2_with fail
  refine (unhide HN).mono ?_
  rintro r w2 ⟨rfl, v2, h2, hw2⟩
  have HF := hide (And.intro h2 hw2)
  clear h2 hw2 HN
  go_wp2_with fail
  go_end0
  exact ⟨rfl, v2, by have := (unhide HF).1; rw [List.append_assoc] at this; exact this, (unhide HF).2⟩
structure BytesFar (w : World) (k : Nat) (u : Value) (ys : List Nat) : Prop where
 bytes : BytesV w u ys
 far : ∀ j off n c, u = .slice (some ⟨j, off, none⟩) n c → j ≠ k ∧ j < w.heap.size
theorem BytesFar.go {w w' : World} {k : Nat} {v v' : Value} {u : Value} {ys : List Nat} (h : BytesFar w k u ys) (hw : Wrt k w v w' v') (hv : ∀ j off n c, u = .slice (some ⟨j, off, none⟩) n c → v.ownBlock ≠ some j) : BytesFar w' k u ys := by
 have hz := hw.step.size
 refine ⟨?_, fun j off n c hu => ⟨(h.far j off n c hu).1, Nat.lt_of_lt_of_le (h.far j off n c hu).2 hz⟩⟩
 rcases h.bytes with hb | ⟨j, off, cap, hu, hli⟩
 ·exact .inl hb
 ·refine .inr ⟨j, off, cap, hu, fun i hi => hw.step.cell (p := ⟨j, off + i, none⟩) (hli i hi) (fun y => ?_)⟩
  rcases y with y | y
  ·exact (h.far j off _ _ hu).1 y
  ·exact hv j off _ _ hu y
theorem storedBlock_ok (k base : Nat) (last : Bool) (v u : Value) (bs : List Bool) (ys : List Nat) (w : World) (h : Sk w k base v bs) (hu : BytesFar w k u ys) (huv : ∀ j off n c, u = .slice (some ⟨j, off, none⟩) n c → j < base) (hy : ∀ y ∈ ys, y < 256) (hlen : ys.length ≤ 65535) (hl : bs.length < 70368743000000) (hbase : base ≤ w.heap.size) :
  Calls Tryz.prog 98 #[.pointer (some ⟨k, 0, none⟩), u, .bool last] w
   fun e w' => e = .returned (.tuple #[]) ∧ ∃ v', Sk w' k base v' (bs ++ storedBits bs.length ys last) ∧ Wrt k w v w' v' := by
 have HH := hide (writeHead_ok k base 0 last v bs w h (by omega) (by omega) hbase)
 obtain ⟨ua, uc, hus⟩ : ∃ a c, u = .slice a ys.length c := by
  rcases hu.bytes with ⟨a, c, rfl, rfl⟩ | ⟨j, off, cap, rfl, _⟩
  ·exact ⟨a, c, rfl⟩
  ·exact ⟨_, _, rfl⟩
 have HU := hide hu
 have HUS := hide hus
 have HY := hide hy
 have HL := hide hlen
 have hlen' : (ys.length : Int) ≤ 65535 := by omega
 obtain ⟨m, hm⟩ : ∃ m, m = ys.length := ⟨_, rfl⟩
 rw [← hm] at hus hlen'
 have HM := hide hm
 have HOWN : ∀ (w1 : World) (v1 : Value) (b1 : List Bool), Sk w1 k base v1 b1 → ∀ j off n c, u = .slice (some ⟨j, off, none⟩) n c → v1.ownBlock ≠ some j := fun w1 v1 b1 h1 j off n c hu' hj => by
  obtain ⟨B1, h1⟩ := h1
  have := (h1.own.lt j hj).1
  have := huv j off n c hu'
  omega
 have HO := hide HOWN
 have HVV := hide (HOWN w v bs h)
 have HHV := hide h
 clear h hu hy hm hlen HOWN
 rw [hus]
 go_enter Tryz.func98, Tryz.ntmps98
 go_wp2_with fail
 refine (unhide HH).mono ?_
 rintro r w1 ⟨rfl, v1, h1, hw1⟩
 have HF := hide (skFill k base v1 _ w1 h1)
 have H1 := hide (And.intro h1 hw1)
 clear HH h1 hw1
 go_wp2_with fail
 refine (unhide HF).mono ?_
 rintro r w2 ⟨rfl, h2, hw2⟩
 have hb2 : (bs ++ beginBits last 0 ++ padBits (bs ++ beginBits last 0).length).length < 70368743001000 := by
  simp only [List.length_append, beginBits_length]
  unfold padBits
  rw [List.length_replicate]
  omega
 have hz2 : base ≤ w2.heap.size := by have := (unhide H1).2.step.size; have := hw2.size; omega
 have HN := hide (skNum k base m 16 v1 _ w2 h2 (by omega) (by omega) (by omega) hz2)
 have H2 := hide ((unhide H1).2.trans (wrt_k v1 hw2))
 clear HF h2 hw2
 go_wp2_with fail
 refine (unhide HN).mono ?_
 rintro r w3 ⟨rfl, v3, h3, hw3⟩
 have hz3 : base ≤ w3.heap.size := by have := hw3.step.size; omega
 have hm2 : (65535 : Int) - (m : Int) = ((65535 - m : Nat) : Int) := by omega
 have HN3 := hide (skNum k base (65535 - m) 16 v3 _ w3 h3 (by omega) (by omega) (by rw [List.length_append, numBits_length]; omega) hz3)
 have H3 := hide ((unhide H2).trans hw3)
 clear HN h3 hw3
 go_wp2_with fail
 refine (unhide HN3).mono ?_
 rintro r w4 ⟨rfl, v4, h4, hw4⟩
 have hz4 : base ≤ w4.heap.size := by have := hw4.step.size; omega
 have hw04 := (unhide H3).trans hw4
 have hu4 := (unhide HU).go hw04 (unhide HVV)
 have HB := hide (skBytes k base v4 u _ ys w4 h4 hu4.bytes (unhide HY) (by have := unhide HL; simp only [List.length_append, numBits_length] at hb2 ⊢; omega) hz4 (fun j off n c hj => (hu4.far j off n c hj).1))
 have H4 := hide hw04
 rw [hus] at HB
 clear HN3 h4 hw4 hw04 hu4
 go_wp2_with fail
 refine (unhide HB).mono ?_
 rintro r w5 ⟨rfl, v5, h5, hw5⟩
 have HFIN := hide (show Sk w5 k base v5 (bs ++ storedBits bs.length ys last) ∧ Wrt k w v w5 v5 from ⟨by
  have e1 : (bs ++ beginBits last 0).length = bs.length + 3 := by rw [List.length_append, beginBits_length]
  have e2 : padBits (bs ++ beginBits last 0 ++ padBits (bs ++ beginBits last 0).length ++ numBits m 16 ++ numBits (65535 - m) 16).length = [] := by
   have h8 := fill_len (bs ++ beginBits last 0).length
   simp only [List.length_append, numBits_length] at h8 ⊢
   unfold padBits at h8 ⊢
   rw [List.replicate_eq_nil_iff]
   simp only [List.length_replicate] at h8 ⊢
   omega
  rw [e2, List.append_nil, e1] at h5
  unfold storedBits
  rw [← unhide HM]
  simp only [List.append_assoc] at h5 ⊢
  exact h5, (unhide H4).trans hw5⟩)
 clear h5 hw5 HB
 go_wp2_with fail
 go_end0
 exact ⟨rfl, v5, unhide HFIN⟩
end Go.Proofs.YtbpahojchgpdnaaGreatDoor
namespace Go.Proofs.YtbpahojchgpdnaaGreatDoor
open Go.RowKit Go.Bel
inductive StoR : Nat → List Nat → List Bool → Prop
 | last (n : Nat) (ys : List Nat) (h : ys.length ≤ 65535) : StoR n ys (storedBits n ys true)
 | more (n : Nat) (ys : List Nat) (bits : List Bool) (h : 65535 < ys.length) (ht : StoR (n + (storedBits n (ys.take 65535) false).length) (ys.drop 65535) bits) : StoR n ys (storedBits n (ys.take 65535) false ++ bits)
theorem stoR_ex : ∀ k n (ys : List Nat), ys.length ≤ k → ∃ bits, StoR n ys bits := by
 intro k
 induction k with
 | zero => intro n ys h; exact ⟨_, .last n ys (by omega)⟩
 | succ k ih =>
  intro n ys h
  by_cases h1 : ys.length ≤ 65535
  ·exact ⟨_, .last n ys h1⟩
  ·obtain ⟨bits, hb⟩ := ih (n + (storedBits n (ys.take 65535) false).length) (ys.drop 65535) (by rw [List.length_drop]; omega)
   exact ⟨_, .more n ys bits (by omega) hb⟩
theorem storedBits_length (n : Nat) (l : List Nat) (last : Bool) : (storedBits n l last).length ≤ 3 + 7 + 32 + 8 * l.length ∧ (n + (storedBits n l last).length) % 8 = 0 := by
 unfold storedBits padBits
 simp only [List.length_append, beginBits_length, numBits_length, byteBits_length, List.length_replicate]
 omega
theorem stored1_ok (k base box : Nat) (last : Bool) (v u : Value) (bs : List Bool) (ys : List Nat) (w : World) (h : Sk w k base v bs) (hbox : w.cell? ⟨box, 0, none⟩ = some (.pointer (some ⟨k, 0, none⟩))) (hus : ∃ a n c, u = .slice a n c) (hu : BytesFar w k u ys) (huv : ∀ j off n c, u = .slice (some ⟨j, off, none⟩) n c → j < base) (hy : ∀ y ∈ ys, y < 256) (hlen : ys.length ≤ 65535) (hl : bs.length < 70368743000000) (hbase : base ≤ w.heap.size) :
  Calls Tryz.prog 97 #[u, .bool last, .pointer (some ⟨box, 0, none⟩)] w
   fun e w' => e = .returned (.tuple #[]) ∧ ∃ v', Sk w' k base v' (bs ++ storedBits bs.length ys last) ∧ Wrt k w v w' v' := by
 have HC := hide (storedBlock_ok k base last v u bs ys w h hu huv hy hlen hl hbase)
 obtain ⟨a, n, c, rfl⟩ := hus
 clear h hu huv hy
 go_enter Tryz.func97, Tryz.ntmps97
 go_wp2_with fail
 refine (unhide HC).mono ?_
 rintro r w1 ⟨rfl, v1, h1, hw1⟩
 have HF := hide (And.intro h1 hw1)
 clear h1 hw1 HC
 go_wp2_with fail
 go_end0
 exact ⟨rfl, v1, unhide HF⟩
structure InB (w wr : World) (k base j o c : Nat) (v v1 : Value) (zs : List Nat) (b1 b2 : List Bool) : Prop where
 sk : Sk wr k base v1 b1
 wrt : Wrt k w v wr v1
 lies : Lies wr j o zs
 byte : ∀ y ∈ zs, y < 256
 rest : StoR b1.length zs b2
 cap : zs.length ≤ c
theorem InB.far {w wr : World} {k base j o c : Nat} {v v1 : Value} {zs : List Nat} {b1 b2 : List Bool} (h : InB w wr k base j o c v v1 zs b1 b2) (hj : j ≠ k ∧ j < base) (hb : base ≤ wr.heap.size) (m c' : Nat) (hm : m ≤ zs.length) : BytesFar wr k (.slice (some ⟨j, o, none⟩) m c') (zs.take m) := by
 refine ⟨.inr ⟨j, o, c', by rw [List.length_take, Nat.min_eq_left hm], fun i hi => ?_⟩, fun j' off n c2 hu => ?_⟩
 ·rw [List.length_take] at hi
  rw [h.lies i (by omega), List.getElem?_take_of_lt (by omega)]
 ·simp only [Value.slice.injEq, Option.some.injEq, Addr.mk.injEq, and_true] at hu
  rw [← hu.1.1]
  omega
theorem InB.next {w wr w1 : World} {k base j o c : Nat} {v v1 v2 : Value} {zs : List Nat} {b1 b3 : List Bool} {b2 : List Bool} (h : InB w wr k base j o c v v1 zs b1 b2) (hj : j ≠ k ∧ j < base) (hz : 65535 < zs.length) (h1 : Sk w1 k base v2 (b1 ++ storedBits b1.length (zs.take 65535) false)) (hw : Wrt k wr v1 w1 v2) (hr : StoR (b1.length + (storedBits b1.length (zs.take 65535) false).length) (zs.drop 65535) b3) : InB w w1 k base j (o + 65535) (c - 65535) v v2 (zs.drop 65535) (b1 ++ storedBits b1.length (zs.take 65535) false) b3 := by
 refine ⟨h1, h.wrt.trans hw, fun i hi => ?_, fun y hy => h.byte y (List.mem_of_mem_drop hy), by rw [List.length_append]; exact hr, by have := h.cap; rw [List.length_drop]; omega⟩
 rw [List.length_drop] at hi
 have h2 := hw.step.cell (p := ⟨j, o + (65535 + i), none⟩) (h.lies (65535 + i) (by omega)) (fun y => by
  rcases y with y | y
  ·exact hj.1 y
  ·obtain ⟨B1, hB⟩ := h.sk
   have := (hB.own.lt j y).1
   omega)
 rw [Nat.add_assoc, h2, List.getElem?_drop]
theorem inBlocks_ok (k base box j off cap : Nat) (v : Value) (bs : List Bool) (ys : List Nat) (bits : List Bool) (w : World) (h : Sk w k base v bs) (hbox : w.cell? ⟨box, 0, none⟩ = some (.pointer (some ⟨k, 0, none⟩))) (hbk : box ≠ k ∧ box < base) (hli : Lies w j off ys) (hj : j ≠ k ∧ j < base) (hcap : ys.length ≤ cap) (hy : ∀ y ∈ ys, y < 256) (hr : StoR bs.length ys bits) (hl : bs.length + 9 * ys.length < 70368740000000) (hbase : base ≤ w.heap.size) :
  Calls Tryz.prog 96 #[.slice (some ⟨j, off, none⟩) ys.length cap, .int .i64 65535, .func (.func 97) #[] #[.pointer (some ⟨box, 0, none⟩)]] w
   fun e w' => e = .returned (.tuple #[]) ∧ ∃ v', Sk w' k base v' (bs ++ bits) ∧ Wrt k w v w' v' := by
 have HH := hide (show InB w w k base j off cap v v ys bs bits from ⟨h, Wrt.refl _ _ _, hli, hy, hr, hcap⟩)
 have HBOX := hide hbox
 have hvb : ∀ (wr : World) (v1 : Value), Wrt k w v wr v1 → wr.cell? ⟨box, 0, none⟩ = some (.pointer (some ⟨k, 0, none⟩)) := fun wr v1 hw => hw.step.cell (p := ⟨box, 0, none⟩) hbox (fun y => by
  rcases y with y | y
  ·exact hbk.1 y
  ·obtain ⟨B1, hB⟩ := h
   have := (hB.own.lt box y).1
   omega)
 have HVB := hide hvb
 clear h hli hy hr hbox hvb
 go_enter Tryz.func96, Tryz.ntmps96
 go_wp2_with fail
 go_loopg [0] ys.length (fun g u0 wr => ∃ (n o c : Nat) (v1 : Value) (zs : List Nat) (b1 b2 : List Bool), u0 = .slice (some ⟨j, o, none⟩) n c ∧ n = zs.length ∧ n ≤ g ∧ bs ++ bits = b1 ++ b2 ∧ InB w wr k base j o c v v1 zs b1 b2 ∧ b1.length + 9 * n ≤ bs.length + 9 * ys.length ∧ c ≤ cap)
 case atStart => exact ⟨ys.length, off, cap, v, ys, bs, bits, rfl, rfl, Nat.le_refl _, rfl, unhide HH, Nat.le_refl _, Nat.le_refl _⟩
 case round =>
  obtain ⟨n, o, c, v1, zs, b1, b2, rfl, hn, hng, heq, hin, hbl, hcc⟩ := hrel
  have hcb := unhide HVB wr v1 hin.wrt
  have hzs := hin.wrt.step.size
  have hcz := hin.cap
  by_cases hbig : 65535 < n
  ·have hbig' : (n : Int) > 65535 := by omega
   have hc1 : (65535 : Int) ≤ (c : Int) := by omega
   have hn1 : (65535 : Int) ≤ (n : Int) := by omega
   have hcne : ¬ c = 65535 := by omega
   have hcne2 : 65535 < c := by omega
   obtain ⟨b3, hb3, hr3⟩ : ∃ b3, b2 = storedBits b1.length (zs.take 65535) false ++ b3 ∧ StoR (b1.length + (storedBits b1.length (zs.take 65535) false).length) (zs.drop 65535) b3 := by
    rcases hin.rest with ⟨_, _, h1⟩ | ⟨_, _, bits', h1, h2⟩
    ·omega
    ·exact ⟨bits', rfl, h2⟩
   have hC := stored1_ok k base box false v1 (.slice (some ⟨j, o, none⟩) 65535 c) b1 (zs.take 65535) wr hin.sk hcb ⟨_, _, _, rfl⟩ (hin.far hj (by omega) 65535 c (by omega)) (fun j' off' n' c' hu => by
    simp only [Value.slice.injEq, Option.some.injEq, Addr.mk.injEq, and_true] at hu
    rw [← hu.1.1]
    exact hj.2) (fun y hy => hin.byte y (List.mem_of_mem_take hy)) (by rw [List.length_take]; omega) (by omega) (by omega)
   have HC := hide hC
   have HIN := hide (And.intro hin (And.intro hb3 (And.intro hr3 (And.intro heq hn))))
   clear hC hin hb3 hr3 heq hn hcz
   go_wp2_with fail
   refine (unhide HC).mono ?_
   rintro r w1 ⟨rfl, v2, h1, hw1⟩
   have HNEXT := hide (And.intro h1 hw1)
   clear h1 hw1 HC
   go_wp2_with fail
   go_roundg (gk - 65535)
   case measure => omega
   case rel =>
    obtain ⟨hin, hb3, hr3, heq, hn⟩ := unhide HIN
    obtain ⟨h1, hw1⟩ := unhide HNEXT
    have hsl := (storedBits_length b1.length (zs.take 65535) false).1
    refine ⟨n - 65535, o + 65535, c - 65535, v2, zs.drop 65535, b1 ++ storedBits b1.length (zs.take 65535) false, b3, rfl, by rw [List.length_drop, hn], by omega, by rw [heq, hb3, List.append_assoc], hin.next hj (by omega) h1 hw1 hr3, ?_, by omega⟩
    rw [List.length_append]
    rw [List.length_take] at hsl
    omega
  ·have hbig' : ¬ (n : Int) > 65535 := by omega
   have hb2 : b2 = storedBits b1.length zs true := by
    rcases hin.rest with ⟨_, _, h1⟩ | ⟨_, _, bits', h1, h2⟩
    ·rfl
    ·omega
   have hC := stored1_ok k base box true v1 (.slice (some ⟨j, o, none⟩) n c) b1 zs wr hin.sk hcb ⟨_, _, _, rfl⟩ (by
    have h9 := hin.far hj (by omega) n c (by omega)
    rw [List.take_of_length_le (by omega)] at h9
    exact h9) (fun j' off' n' c' hu => by
    simp only [Value.slice.injEq, Option.some.injEq, Addr.mk.injEq, and_true] at hu
    rw [← hu.1.1]
    exact hj.2) hin.byte (by omega) (by omega) (by omega)
   have HC := hide hC
   have HIN := hide (And.intro hin.wrt (And.intro hb2 heq))
   clear hC hin hb2 heq hn hcz
   go_wp2_with fail
   refine (unhide HC).mono ?_
   rintro r w1 ⟨rfl, v2, h1, hw1⟩
   have HFIN := hide (show Sk w1 k base v2 (bs ++ bits) ∧ Wrt k w v w1 v2 from ⟨by
    rw [(unhide HIN).2.2, (unhide HIN).2.1]; exact h1, (unhide HIN).1.trans hw1⟩)
   clear h1 hw1 HC HIN
   go_wp2_with fail
   go_end0
   exact ⟨rfl, v2, unhide HFIN⟩
theorem inBlocks_nil (k base box : Nat) (a : Option Addr) (c : Nat) (v : Value) (bs : List Bool) (w : World) (h : Sk w k base v bs) (hbox : w.cell? ⟨box, 0, none⟩ = some (.pointer (some ⟨k, 0, none⟩))) (ha : ∀ j off, a = some ⟨j, off, none⟩ → j < k) (hkb : k < base) (hl : bs.length < 70368740000000) (hbase : base ≤ w.heap.size) :
  Calls Tryz.prog 96 #[.slice a 0 c, .int .i64 65535, .func (.func 97) #[] #[.pointer (some ⟨box, 0, none⟩)]] w
   fun e w' => e = .returned (.tuple #[]) ∧ ∃ v', Sk w' k base v' (bs ++ storedBits bs.length [] true) ∧ Wrt k w v w' v' := by
 have hfa : ∀ j off n c', Value.slice a 0 c = .slice (some ⟨j, off, none⟩) n c' → j < k := fun j off n c' hu => by
  simp only [Value.slice.injEq] at hu
  exact ha j off hu.1
 have HC := hide (stored1_ok k base box true v (.slice a 0 c) bs [] w h hbox ⟨_, _, _, rfl⟩ ⟨.inl ⟨a, c, rfl, rfl⟩, fun j off n c' hu => by have := hfa j off n c' hu; omega⟩ (fun j off n c' hu => by have := hfa j off n c' hu; omega) (fun y hy => by simp at hy) (by simp) (by omega) hbase)
 clear h
 go_enter Tryz.func96, Tryz.ntmps96
 go_wp2_with fail
 go_loopg [0] 1 (fun _ u0 wr => u0 = .slice a 0 c ∧ wr = w)
 case atStart => exact ⟨rfl, rfl⟩
 case round =>
  obtain ⟨rfl, rfl⟩ := hrel
  go_wp2_with fail
  refine (unhide HC).mono ?_
  rintro r w1 ⟨rfl, v1, h1, hw1⟩
  have HF := hide (And.intro h1 hw1)
  clear h1 hw1 HC
  go_wp2_with fail
  go_end0
  exact ⟨rfl, v1, unhide HF⟩
structure BytesIn (w : World) (u : Value) (ys : List Nat) : Prop where
 bytes : BytesV w u ys
 byte : ∀ y ∈ ys, y < 256
 old : ∀ j off n c, u = .slice (some ⟨j, off, none⟩) n c → j < w.heap.size
 cap : ∀ a n c, u = .slice a n c → n ≤ c
 len : ys.length ≤ 1048576
theorem BytesIn.shape {w : World} {u : Value} {ys : List Nat} (h : BytesIn w u ys) : ∃ a c, u = .slice a ys.length c := by
 rcases h.bytes with ⟨a, c, rfl, rfl⟩ | ⟨j, off, cap, rfl, _⟩
 ·exact ⟨a, c, rfl⟩
 ·exact ⟨_, _, rfl⟩
theorem BytesIn.step0 {w w' : World} {u : Value} {ys : List Nat} (h : BytesIn w u ys) (hs : Step (fun _ => False) w w') : BytesIn w' u ys := by
 have hz := hs.size
 refine ⟨?_, h.byte, fun j off n c hu => by have := h.old j off n c hu; omega, h.cap, h.len⟩
 rcases h.bytes with hb | ⟨j, off, cap, hv, hli⟩
 ·exact .inl hb
 ·exact .inr ⟨j, off, cap, hv, fun i hi => hs.cell (p := ⟨j, off + i, none⟩) (hli i hi) (fun y => y)⟩
def Packed (w w' : World) (v : Value) (bits : List Bool) : Prop := ∃ B, w'.ownsRow w.heap.size 5 1 v B.length (u8s B) ∧ BitsIn bits B ∧ B.length = (bits.length + 7) / 8 ∧ Step (fun _ => False) w w'
theorem inBlocks_any (k base box : Nat) (v u : Value) (bs : List Bool) (ys : List Nat) (bits : List Bool) (w : World) (h : Sk w k base v bs) (hbox : w.cell? ⟨box, 0, none⟩ = some (.pointer (some ⟨k, 0, none⟩))) (hbk : box ≠ k ∧ box < base) (hu : BytesIn w u ys) (hold : ∀ j off n c, u = .slice (some ⟨j, off, none⟩) n c → j < k) (hkb : k < base) (hr : StoR bs.length ys bits) (hl : bs.length < 1000) (hbase : base ≤ w.heap.size) :
  Calls Tryz.prog 96 #[u, .int .i64 65535, .func (.func 97) #[] #[.pointer (some ⟨box, 0, none⟩)]] w
   fun e w' => e = .returned (.tuple #[]) ∧ ∃ v', Sk w' k base v' (bs ++ bits) ∧ Wrt k w v w' v' := by
 have hlen := hu.len
 by_cases h0 : ys = []
 ·subst h0
  have hb : bits = storedBits bs.length [] true := by
   rcases hr with ⟨_, _, h1⟩ | ⟨_, _, b2, h1, h2⟩
   ·rfl
   ·simp at h1
  obtain ⟨a, c, rfl⟩ := hu.shape
  rw [hb]
  exact inBlocks_nil k base box a c v bs w h hbox (fun j off ha => by subst ha; exact hold j off _ _ rfl) hkb (by omega) hbase
 ·rcases hu.bytes with ⟨a, c, rfl, h1⟩ | ⟨j, off, cap, rfl, hli⟩
  ·exact absurd h1 h0
  ·have hjk := hold j off _ _ rfl
   exact inBlocks_ok k base box j off cap v bs ys bits w h hbox hbk hli ⟨by omega, by omega⟩ (hu.cap _ _ _ rfl) hu.byte hr (by omega) hbase
theorem packStored_ok (u : Value) (ys : List Nat) (bits : List Bool) (w : World) (hu : BytesIn w u ys) (hr : StoR 0 ys bits) :
  Calls Tryz.prog 60 #[u] w fun e w' => ∃ v', e = .returned v' ∧ Packed w w' v' bits := by
 have hmf : ∀ (fn : Fn) (first cap : Array Value) (w : World), (Instr.makeFunc fn first cap).run Tryz.prog w = .ok (.func fn first cap) w := fun _ _ _ _ => rfl
 obtain ⟨ua, uc, hus⟩ := hu.shape
 have HU := hide hu
 have HR := hide hr
 have HUS := hide hus
 clear hu hr
 generalize ys.length = m at hus
 subst hus
 go_enter Tryz.func60, Tryz.ntmps60
 go_wp2_with fail
 obtain ⟨k, hk⟩ : ∃ k, k = w.heap.size := ⟨_, rfl⟩
 obtain ⟨w2, hw2⟩ : ∃ w2, w2 = (w.alloc (.cells #[.slice none 0 0, .int .i64 0] 103)).alloc (.cells #[.pointer (some ⟨w.heap.size, 0, none⟩)] 101) := ⟨_, rfl⟩
 have hs2 : Step (fun _ => False) w w2 := by rw [hw2]; exact ((Step.refl _ _).alloc _).alloc _
 have hz2 : w2.heap.size = k + 2 := by rw [hw2, hk]; simp
 have hk2 : w2.heap[k]? = some (.cells #[.slice none 0 0, .int .i64 0] 103 (0, 0)) := by
  rw [hw2, hk]
  exact (Below.heap_alloc _ _ _ (by simp)).trans (heap_alloc_new _ _)
 have hb2 : w2.cell? ⟨k + 1, 0, none⟩ = some (.pointer (some ⟨k, 0, none⟩)) := by
  have h9 := heap_alloc_new (w.alloc (.cells #[.slice none 0 0, .int .i64 0] 103)) (.cells #[.pointer (some ⟨w.heap.size, 0, none⟩)] 101)
  rw [show (w.alloc (.cells #[.slice none 0 0, .int .i64 0] 103)).heap.size = w.heap.size + 1 by simp, ← hw2, ← hk] at h9
  exact blk_cell h9 0 _ rfl
 have hsk : Sk w2 k (k + 2) (.slice none 0 0) [] := ⟨[], hk2, World.ownsRow_nil _ _ _ _, BitsIn.nil, rfl, by omega⟩
 have hkw : w.heap.size ≤ k := by omega
 have hkw2 : k ≤ w.heap.size := by omega
 rw [← hw2, ← hk]
 have HS2 := hide hs2
 clear hw2 hk
 refine (inBlocks_any k (k + 2) (k + 1) (.slice none 0 0) (.slice ua m uc) [] ys bits w2 hsk hb2 ⟨by omega, by omega⟩ ((unhide HU).step0 hs2) (fun j off n c hu => by have := (unhide HU).old j off n c hu; omega) (by omega) (unhide HR) (by simp) (by omega)).mono ?_
 rintro r w3 ⟨rfl, v3, h3, hw3⟩
 rw [List.nil_append] at h3
 have hb3 := hw3.step.cell (p := ⟨k + 1, 0, none⟩) hb2 (fun y => by
  rcases y with y | y
  ·have y : k + 1 = k := y; omega
  ·cases y)
 have HO := hide (skOut k (k + 2) v3 bits w3 h3)
 have HF := hide (show Packed w w3 v3 bits from by
  obtain ⟨B, hB⟩ := h3
  refine ⟨B, ownsRow_mono hB.own (by omega), hB.bits, hB.len, (unhide HS2).trans' hw3.step (fun i hi y => ?_)⟩
  rcases y with y | y
  ·omega
  ·cases y)
 obtain ⟨va, vn, vc, hvs⟩ : ∃ a n c, v3 = .slice a n c := by
  obtain ⟨B, hB⟩ := h3
  obtain ⟨_, ⟨hv, _⟩ | ⟨g, cap, _, hv, _⟩⟩ := hB.own
  ·exact ⟨_, _, _, hv⟩
  ·exact ⟨_, _, _, hv⟩
 subst hvs
 clear h3 hw3 hsk hs2 hb2 hk2
 go_wp2_with fail
 refine (unhide HO).mono ?_
 rintro r w4 ⟨rfl, rfl⟩
 go_wp2_with fail
 go_ret
 exact ⟨_, rfl, unhide HF⟩
end Go.Proofs.YtbpahojchgpdnaaGreatDoor
