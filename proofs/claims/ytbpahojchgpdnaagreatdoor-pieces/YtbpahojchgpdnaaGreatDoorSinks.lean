/- Proved here: what one call of the sink's Bit does. -/
import Derived.Deep.RegionHeld3
import Derived.Deep.DeepCutAuto
import Derived.Deep.LoopGhost
import Derived.Test.YtbpahojchgpdnaaGreatDoorSummed
set_option maxRecDepth 20000
set_option maxHeartbeats 4000000
namespace Go.Proofs.YtbpahojchgpdnaaGreatDoor
open Go.RowKit Go.Bel
def roomOf (n : Nat) : Nat := (8 - n % 8) % 8
structure SkAt (w : World) (k base : Nat) (v : Value) (bs : List Bool) (B : List Nat) : Prop where
 blk : w.heap[k]? = some (.cells #[v, .int .i64 (roomOf bs.length : Nat)] 103 (0, 0))
 own : w.ownsRow base 5 1 v B.length (u8s B)
 bits : BitsIn bs B
 len : B.length = (bs.length + 7) / 8
 apart : k < base
structure SkMid (w : World) (k base : Nat) (v : Value) (bs : List Bool) (B : List Nat) : Prop where
 blk : w.heap[k]? = some (.cells #[v, .int .i64 (8 - bs.length % 8 : Nat)] 103 (0, 0))
 own : w.ownsRow base 5 1 v B.length (u8s B)
 bits : BitsIn bs B
 len : B.length = bs.length / 8 + 1
 apart : k < base
theorem SkMid.put {w : World} {k base g cap x : Nat} {bs : List Bool} {B : List Nat} (h : SkMid w k base (.slice (some ⟨g, 0, none⟩) B.length cap) bs B) (hx : x < 2) (c : Nat) (hc : c = B[bs.length / 8]?.getD 0 ||| x * 2 ^ (bs.length % 8)) :
  ∃ B', SkAt (((w.setCell ⟨g, bs.length / 8, none⟩ (.int .u8 (c : Nat))).setCell ⟨k, 1, none⟩ (.int .i64 ((8 - bs.length % 8 : Nat) - 1 : Int))).drew) k base (.slice (some ⟨g, 0, none⟩) B.length cap) (bs ++ [decide (x = 1)]) B' ∧ B'.length = B.length := by
 have hl := h.len
 have hlt : bs.length / 8 < B.length := by omega
 have hgb : base ≤ g := (h.own.lt g rfl).1
 have hap := h.apart
 have hg : g ≠ k := by omega
 refine ⟨B.set (bs.length / 8) c, ⟨?_, ?_, ?_, ?_, hap⟩, by simp⟩
 ·have h1 : (w.setCell ⟨g, bs.length / 8, none⟩ (.int .u8 (c : Nat))).heap[k]? = _ := (Below.heap_setCell w ⟨g, bs.length / 8, none⟩ _ k (fun y => hg y.symm)).trans h.blk
  have h2 := blk_set h1 1 (.int .i64 ((8 - bs.length % 8 : Nat) - 1 : Int))
  have e : ((8 - bs.length % 8 : Nat) - 1 : Int) = ((roomOf (bs ++ [decide (x = 1)]).length : Nat) : Int) := by
   unfold roomOf
   rw [List.length_append, List.length_singleton]
   omega
  rw [e] at h2 ⊢
  show (World.setCell _ _ _).heap[k]? = _
  simpa using h2
 ·have ho := (h.own.stored (bs.length / 8) (.int .u8 (c : Nat))).1
  have ho2 := ownsRow_of_block (w' := ((w.setCell ⟨g, bs.length / 8, none⟩ (.int .u8 (c : Nat))).setCell ⟨k, 1, none⟩ (.int .i64 ((8 - bs.length % 8 : Nat) - 1 : Int))).drew) ho (fun j hj => Below.heap_setCell _ _ _ _ (fun y => by
   simp only [Value.ownBlock, Option.some.injEq] at hj
   rw [← hj] at y
   exact hg y))
  rw [List.length_set]
  have e : (u8s B).set (bs.length / 8) (.int .u8 (c : Nat)) = u8s (B.set (bs.length / 8) c) := by simp [u8s, List.map_set]
  rw [← e]
  exact ho2
 ·have hx2 : x = 0 ∨ x = 1 := by omega
  rcases hx2 with rfl | rfl
  ·have e : B.set (bs.length / 8) c = B := by
    rw [hc, Nat.zero_mul, Nat.or_zero]
    refine List.ext_getElem? fun i => ?_
    by_cases hi : i = bs.length / 8
    ·subst hi
     rw [List.getElem?_set_self hlt, List.getElem?_eq_getElem hlt]
     rfl
    ·rw [List.getElem?_set_ne (fun y => hi y.symm)]
   rw [e]
   exact h.bits.noBit
  ·rw [hc, Nat.one_mul]
   exact h.bits.oneBit hlt
 ·rw [List.length_set, List.length_append, List.length_singleton]
  omega
theorem skBit (k base x : Nat) (v : Value) (bs : List Bool) (B : List Nat) (w : World) (h : SkAt w k base v bs B) (hx : x < 2) (hl : bs.length < 70368744177664) (hbase : base ≤ w.heap.size) :
  Calls Tryz.prog 126 #[.pointer (some ⟨k, 0, none⟩), .int .i64 (x : Nat)] w
   fun e w' => e = .returned (.tuple #[]) ∧ ∃ v' B', SkAt w' k base v' (bs ++ [decide (x = 1)]) B' ∧ Wrt k w v w' v' := by
 obtain ⟨h0, h1, hf0, hf1⟩ := blk_two h.blk
 have hkl := lt_of_block h.blk
 have hlen := hide h.len
 have HH := hide h
 go_enter Tryz.func126, Tryz.ntmps126
 go_upto_if 8 with fail
 go_cut [] (fun wc => ∃ v1 B1, SkMid wc k base v1 bs B1 ∧ Wrt k w v wc v1)
 case first =>
  by_cases hr : bs.length % 8 = 0
  ·have hro : roomOf bs.length = 0 := by unfold roomOf; omega
   rw [hro] at h1
   obtain ⟨i0, hi, hz0, hz1, hz2⟩ := info_parts Tryz.info5
   have hown := h.own
   obtain ⟨va, vc, hvs⟩ : ∃ a c, v = .slice a B.length c := by
    obtain ⟨_, ⟨hv, hn⟩ | ⟨g, cap, _, hv, _⟩⟩ := hown
    ·exact ⟨none, 0, by rw [hv, hn]⟩
    ·exact ⟨_, _, hv⟩
   have HV := hide hvs
   have HW := hide hown
   rw [hvs] at h0
   clear h hvs hown
   go_wp2_with (at_builtin; refine wpList_append_row _ rfl _ _ 31 rfl base 5 i0 (.int .u8 0) 1 1 Tryz.underlying31 hi hz0 hz1 hz2 rfl (by decide) _ B.length (u8s B) rfl (by rw [← unhide HV]; exact (unhide HW).alloc _) ⟨w.heap.size, 0, none⟩ 1 1 [.int .u8 0] rfl rfl ?c1 ?c2 (by decide) ?c3 ?c4 ?c5 ?_)
   case c1 =>
    intro j u hj
    match j, hj with
    | 0, hj => simp at hj; subst hj; exact cell_of_one (heap_alloc_new w (.cells #[.int .u8 0] 5))
   case c2 => intro u hu; simp at hu; subst hu; rfl
   case c3 => have := unhide hlen; unfold maxLen; omega
   case c4 => have := unhide hlen; omega
   case c5 => simp; omega
   intro g cap w1 hown' hgr hg
   have hne : v.ownBlock ≠ some k := fun hk => by have := ((unhide HW).lt k hk).1; have := (unhide HH).apart; omega
   have hal : Step (fun _ => False) w (w.alloc (.cells #[.int .u8 0] 5)) := (Step.refl _ _).alloc _
   have hs1 : Step (fun j => v.ownBlock = some j) w w1 := (hal.mono (fun _ y => y.elim)).grown hgr (fun j hj => .inl (by rw [unhide HV]; exact hj))
   have hb1 := hs1.at_ (unhide HH).blk hne
   obtain ⟨k0, k1, kf0, kf1⟩ := blk_two hb1
   have hkl1 := lt_of_block hb1
   have hgb : base ≤ g := (hown'.lt g rfl).1
   have HG := hide (show SkMid ((w1.setCell ⟨k, 0, none⟩ (.slice (some ⟨g, 0, none⟩) (B.length + 1) cap)).setCell ⟨k, 1, none⟩ (.int .i64 8)) k base (.slice (some ⟨g, 0, none⟩) (B.length + 1) cap) bs (B ++ [0]) ∧ Wrt k w v ((w1.setCell ⟨k, 0, none⟩ (.slice (some ⟨g, 0, none⟩) (B.length + 1) cap)).setCell ⟨k, 1, none⟩ (.int .i64 8)) (.slice (some ⟨g, 0, none⟩) (B.length + 1) cap) from by
    have hap := (unhide HH).apart
    have el : (B ++ [0]).length = B.length + 1 := by simp
    have eu : u8s B ++ [.int .u8 0] = u8s (B ++ [0]) := by simp [u8s]
    have hs2 : Step (· = k) w1 ((w1.setCell ⟨k, 0, none⟩ (.slice (some ⟨g, 0, none⟩) (B.length + 1) cap)).setCell ⟨k, 1, none⟩ (.int .i64 8)) := ((Step.refl (· = k) w1).setCell (p := ⟨k, 0, none⟩) rfl _).setCell (p := ⟨k, 1, none⟩) rfl _
    refine ⟨⟨?_, ?_, (unhide HH).bits.zero, by have := unhide hlen; rw [el]; omega, hap⟩, ⟨(hs1.mono (fun j y => .inr y)).trans (hs2.mono (fun j y => .inl y)), fun j hj => ?_⟩⟩
    ·have h8 := blk_set hb1 0 (.slice (some ⟨g, 0, none⟩) (B.length + 1) cap)
     have h9 := blk_set h8 1 (.int .i64 8)
     rw [hr]
     simpa using h9
    ·rw [el, ← eu]
     exact ownsRow_of_block hown' (fun j hj => hs2.block j (hown'.lt j hj).2 (fun y => by
      simp only [Value.ownBlock, Option.some.injEq] at hj
      omega))
    ·simp only [Value.ownBlock, Option.some.injEq] at hj
     subst hj
     rcases hg with y | y
     ·exact .inl (by rw [unhide HV]; exact y)
     ·exact .inr (by omega))
   rw [unhide HV] at k0
   rw [hro] at k1
   clear hown' hgr hg hs1 hb1 hal hne
   go_wp2_with fail
   go_meet
   case rel => exact ⟨_, _, unhide HG⟩
  ·have hro : roomOf bs.length = 8 - bs.length % 8 := by unfold roomOf; omega
   have hrb : ((roomOf bs.length : Int) == 0) = false := beq_eq_false_iff_ne.2 (by omega)
   have HG := hide (show SkMid w k base v bs B from ⟨by rw [← hro]; exact h.blk, h.own, h.bits, by have := unhide hlen; omega, h.apart⟩)
   clear h hro
   go_wp2_with fail
   go_meet
   case rel => exact ⟨v, B, unhide HG, Wrt.refl _ _ _⟩
 case rest =>
  obtain ⟨v1, B1, hm, hw⟩ := hcut
  clear h0 h1 hf0 hf1 HH h
  have hml := hm.len
  obtain ⟨_, ⟨_, hz⟩ | ⟨g, cap, cur, hv, hgb, hh, _⟩⟩ := hm.own
  ·omega
  subst hv
  obtain ⟨k0, k1, kf0, kf1⟩ := blk_two hm.blk
  have hfg := blk_free hh (bs.length / 8)
  have hc0 : wc.cell? ⟨g, bs.length / 8, none⟩ = some (.int .u8 (B1[bs.length / 8]?.getD 0 : Nat)) := by
   rw [hm.own.cellAt (bs.length / 8) (by omega), u8s_get _ _ (by omega)]
  have hb := hm.bits.byte (bs.length / 8)
  obtain ⟨c, hc⟩ : ∃ c, c = B1[bs.length / 8]?.getD 0 := ⟨_, rfl⟩
  obtain ⟨j, hj⟩ : ∃ j, j = bs.length / 8 := ⟨_, rfl⟩
  obtain ⟨t, ht⟩ : ∃ t, t = bs.length % 8 := ⟨_, rfl⟩
  rw [← hc] at hc0 hb
  rw [← hj] at hc0 hfg
  rw [← ht] at k1
  have ht8 : t < 8 := by omega
  have HM := hide hm
  have HWR := hide hw
  have hap := hm.apart
  have hgk : ¬ g = k := by omega
  have hgk2 : ¬ k = g := by omega
  have HC := hide hc
  have HJ := hide hj
  have HT := hide ht
  have hlj : (B1.length : Int) - 1 = (j : Int) := by omega
  have hjl : (j : Int) < (B1.length : Int) := by omega
  have hj0 : (0 : Int) ≤ (j : Int) := by omega
  have hjw : IntKind.i64.wrap (j : Int) = (j : Int) := by rw [IntKind.wrap_i64]; omega
  have hxw : IntKind.i64.wrap (8 - ((8 - t : Nat) : Int)) = (t : Int) := by rw [IntKind.wrap_i64]; omega
  have hx8 : (8 : Int) - ((8 - t : Nat) : Int) = (t : Int) := by omega
  clear hm hw hc hj ht hh hml
  go_wp2_with fail
  go_region
  go_wp2_with fail
  go_end0
  have hx2 : x = 0 ∨ x = 1 := by omega
  have hval : bits BinOp.or IntKind.u8 (c : Int) ((x : Int) * 2 ^ t % 256) = ((c ||| x * 2 ^ t : Nat) : Int) := by
   rcases hx2 with rfl | rfl
   ·rw [show (((0 : Nat) : Int) * 2 ^ t % 256) = ((0 : Nat) : Int) by simp, bits_or_u8 c 0 hb (by decide), Nat.zero_mul]
   ·rw [show (((1 : Nat) : Int) * 2 ^ t % 256) = 2 ^ t % 256 by simp, or_val c t hb ht8, Nat.one_mul]
  obtain ⟨B', hsk, hBl⟩ := (unhide HM).put hx (c ||| x * 2 ^ t) (by rw [unhide HC, unhide HT])
  rw [unhide HT] at hsk
  rw [hval, unhide HJ, unhide HT]
  refine ⟨rfl, _, B', hsk, (unhide HWR).trans ⟨?_, fun j hj => .inl hj⟩⟩
  exact (((Step.refl _ _).setCell (.inr rfl) _).setCell (.inl rfl) _).drew
end Go.Proofs.YtbpahojchgpdnaaGreatDoor
namespace Go.Proofs.YtbpahojchgpdnaaGreatDoor
open Go.RowKit Go.Bel
def Sk (w : World) (k base : Nat) (v : Value) (bs : List Bool) : Prop := ∃ B, SkAt w k base v bs B
theorem Sk.lt {w : World} {k base : Nat} {v : Value} {bs : List Bool} (h : Sk w k base v bs) : k < w.heap.size := by
 obtain ⟨B, h⟩ := h; exact lt_of_block h.blk
theorem skBitS (k base x : Nat) (v : Value) (bs : List Bool) (w : World) (h : Sk w k base v bs) (hx : x < 2) (hl : bs.length < 70368744177664) (hbase : base ≤ w.heap.size) :
  Calls Tryz.prog 126 #[.pointer (some ⟨k, 0, none⟩), .int .i64 (x : Nat)] w
   fun e w' => e = .returned (.tuple #[]) ∧ ∃ v', Sk w' k base v' (bs ++ [decide (x = 1)]) ∧ Wrt k w v w' v' := by
 obtain ⟨B, h⟩ := h
 refine (skBit k base x v bs B w h hx hl hbase).mono ?_
 rintro e w' ⟨rfl, v', B', h1, h2⟩
 exact ⟨rfl, v', ⟨B', h1⟩, h2⟩
theorem and_one_num (a : Nat) (ha : a < 4611686018427387904) : bits .and .i64 (a : Int) 1 = ((a % 2 : Nat) : Int) := by
 have hx : a &&& 1 < 2 ^ 1 := Nat.and_lt_two_pow _ (by omega)
 show IntKind.i64.wrap ((BitVec.ofInt 64 (a : Int) &&& BitVec.ofInt 64 ((1 : Nat) : Int)).toNat : Int) = _
 rw [BitVec.toNat_and, ofInt_nat 64 a (by omega), ofInt_nat 64 1 (by omega), IntKind.wrap_i64, Nat.and_one_is_mod]
 omega
theorem skNum (k base x n : Nat) (v : Value) (bs : List Bool) (w : World) (h : Sk w k base v bs) (hx : x < 4611686018427387904) (hn : n ≤ 60) (hl : bs.length < 70368744170000) (hbase : base ≤ w.heap.size) :
  Calls Tryz.prog 93 #[.pointer (some ⟨k, 0, none⟩), .int .i64 (x : Nat), .int .i64 (n : Nat)] w
   fun e w' => e = .returned (.tuple #[]) ∧ ∃ v', Sk w' k base v' (bs ++ numBits x n) ∧ Wrt k w v w' v' := by
 have HH := hide h
 clear h
 go_enter Tryz.func93, Tryz.ntmps93
 go_wp2_with fail
 go_loopg [8] n (fun g u8 wr => ∃ (i : Nat) (v1 : Value), u8 = .int .i64 (i : Nat) ∧ g + i = n ∧ Sk wr k base v1 (bs ++ numBits x i) ∧ Wrt k w v wr v1)
 case atStart => exact ⟨0, v, rfl, by omega, by rw [show numBits x 0 = [] from rfl, List.append_nil]; exact unhide HH, Wrt.refl _ _ _⟩
 case round =>
  obtain ⟨i, v1, rfl, hg, hs, hw⟩ := hrel
  by_cases hi : i < n
  ·have hi' : (i : Int) < (n : Int) := by omega
   have hi0 : (0 : Int) ≤ (i : Int) := by omega
   have hd : x / 2 ^ i < 4611686018427387904 := Nat.lt_of_le_of_lt (Nat.div_le_self _ _) hx
   have hbit := and_one_num (x / 2 ^ i) hd
   have hbit' : bits .and .i64 ((x : Int) / 2 ^ i) 1 = ((x / 2 ^ i % 2 : Nat) : Int) := by rw [← hbit]; simp
   have hsz := hw.step.size
   have hC := skBitS k base (x / 2 ^ i % 2) v1 (bs ++ numBits x i) wr hs (by omega) (by rw [List.length_append, numBits_length]; omega) (by omega)
   have HC := hide hC
   have HW := hide hw
   obtain ⟨y, hy⟩ : ∃ y, y = x / 2 ^ i % 2 := ⟨_, rfl⟩
   rw [← hy] at hbit' HC
   have HY := hide hy
   clear hC hw hs hbit hd hy
   go_wp2_with fail
   refine (unhide HC).mono ?_
   rintro r w2 ⟨rfl, v2, hs2, hw2⟩
   have HF := hide (show Sk w2 k base v2 (bs ++ numBits x (i + 1)) ∧ Wrt k w v w2 v2 from ⟨by
    rw [numBits_succ, ← List.append_assoc, ← unhide HY]; exact hs2, (unhide HW).trans hw2⟩)
   clear hs2 hw2 HC HW
   go_wp2_with fail
   go_roundg (gk - 1)
   case measure => omega
   case rel => exact ⟨i + 1, v2, by simp, by omega, unhide HF⟩
  ·obtain rfl : i = n := by omega
   have hi' : ¬ (i : Int) < (i : Int) := by omega
   have HF := hide (And.intro hs hw)
   clear hs hw
   go_wp2_with fail
   go_end0
   exact ⟨rfl, v1, unhide HF⟩
theorem _root_.Go.Bel.BitsIn.fill {bs : List Bool} {B : List Nat} (h : BitsIn bs B) (n : Nat) : BitsIn (bs ++ List.replicate n false) B := by
 induction n with
 | zero => simpa using h
 | succ n ih => rw [List.replicate_succ', ← List.append_assoc]; exact ih.noBit
theorem skFill (k base : Nat) (v : Value) (bs : List Bool) (w : World) (h : Sk w k base v bs) :
  Calls Tryz.prog 95 #[.pointer (some ⟨k, 0, none⟩)] w
   fun e w' => e = .returned (.tuple #[]) ∧ Sk w' k base v (bs ++ padBits bs.length) ∧ Step (· = k) w w' := by
 obtain ⟨B, h⟩ := h
 obtain ⟨h0, h1, hf0, hf1⟩ := blk_two h.blk
 have hkl := lt_of_block h.blk
 have HF := hide (show Sk (w.setCell ⟨k, 1, none⟩ (.int .i64 0)) k base v (bs ++ padBits bs.length) ∧ Step (· = k) w (w.setCell ⟨k, 1, none⟩ (.int .i64 0)) from by
  have hs : Step (· = k) w (w.setCell ⟨k, 1, none⟩ (.int .i64 0)) := (Step.refl (· = k) w).setCell (p := ⟨k, 1, none⟩) rfl _
  have hap := h.apart
  refine ⟨⟨B, ?_, ?_, h.bits.fill _, ?_, h.apart⟩, hs⟩
  ·have h9 := blk_set h.blk 1 (.int .i64 0)
   have e : roomOf (bs ++ padBits bs.length).length = 0 := by
    rw [List.length_append, padBits, List.length_replicate]
    unfold roomOf
    omega
   rw [e]
   simpa using h9
  ·exact ownsRow_of_block h.own (fun j hj => hs.block j (h.own.lt j hj).2 (fun y => by have := (h.own.lt j hj).1; omega))
  ·have := h.len
   rw [List.length_append, padBits, List.length_replicate]
   omega)
 clear h
 go_enter Tryz.func95, Tryz.ntmps95
 go_wp2_with fail
 go_end0
 exact ⟨rfl, unhide HF⟩
end Go.Proofs.YtbpahojchgpdnaaGreatDoor
namespace Go.Proofs.YtbpahojchgpdnaaGreatDoor
open Go.RowKit Go.Bel
theorem numBits_get (y p : Nat) (hp : p < 8) : (numBits y 8)[p]?.getD false = decide (y / 2 ^ p % 2 = 1) := by
 unfold numBits
 rw [List.getElem?_map, List.getElem?_range hp]
 rfl
theorem byteBits_get (ys : List Nat) (p : Nat) : ((byteBits ys)[p]?.getD false).toNat = bitAt ys p := by
 induction ys generalizing p with
 | nil => simp [byteBits, bitAt]
 | cons y ys ih =>
  rw [show byteBits (y :: ys) = numBits y 8 ++ byteBits ys from rfl]
  by_cases hp : p < 8
  ·rw [List.getElem?_append_left (by rw [numBits_length]; exact hp), numBits_get y p hp]
   unfold bitAt
   rw [show p / 8 = 0 by omega, show p % 8 = p by omega]
   show _ = y / 2 ^ p % 2
   rcases Nat.mod_two_eq_zero_or_one (y / 2 ^ p) with h | h <;> rw [h] <;> rfl
  ·rw [List.getElem?_append_right (by rw [numBits_length]; omega), numBits_length, ih]
   unfold bitAt
   rw [show p / 8 = (p - 8) / 8 + 1 by omega, show (p - 8) % 8 = p % 8 by omega, List.getElem?_cons_succ]
theorem bits_bytes {bs : List Bool} {B : List Nat} (h : BitsIn bs B) (h8 : bs.length = 8 * B.length) (ys : List Nat) (hy : ∀ y ∈ ys, y < 256) : BitsIn (bs ++ byteBits ys) (B ++ ys) := by
 refine ⟨fun i => ?_, fun p => ?_⟩
 ·by_cases hi : i < B.length
  ·rw [List.getElem?_append_left hi]; exact h.byte i
  ·rw [List.getElem?_append_right (by omega)]
   by_cases hj : i - B.length < ys.length
   ·rw [List.getElem?_eq_getElem hj]; exact hy _ (List.getElem_mem hj)
   ·rw [List.getElem?_eq_none (by omega)]; decide
 ·by_cases hp : p < bs.length
  ·have h1 := h.bit p
   rw [List.getElem?_append_left hp, ← h1]
   unfold bitAt
   rw [List.getElem?_append_left (by omega)]
  ·rw [List.getElem?_append_right (by omega), byteBits_get]
   unfold bitAt
   rw [List.getElem?_append_right (by omega), h8, show p / 8 - B.length = (p - 8 * B.length) / 8 by omega, show (p - 8 * B.length) % 8 = p % 8 by omega]
theorem run_append_zero {P : Program} {w : World} (base : Nat) (t ty e : TypeId) (i : TypeInfo) (size : Nat) (ht : P.underlying t = some (.slice e)) (hi : P.info? e = some i)
  (v : Value) (n : Nat) (xs : List Value) (hown : w.ownsRow base e size v n xs) (ad : Option Addr) (c : Nat) :
  (Builtin.append_ #[t, t] ty #[v, .slice ad 0 c]).run P w = .ok v w := by
 rcases hown.2 with ⟨rfl, rfl⟩ | ⟨g, cap, cur, rfl, _, _, hnc, _⟩ <;> cases ad <;> simp [Builtin.append_, run_underlying ht, sizeOf, typeInfo, Builtin.lenOf, Builtin.firstCells, storeCells, loadCells, loadCellsFrom, *]
theorem wpList_append_zero {P : Program} {w : World} {ops : Array Oper} {rest : List Oper} {o : Oper} {a : Act} {Q : Exit → Act → World → Prop} (hgd : o.guard = none) (s x : Operand) (t : TypeId)
  (ho : o.op = .call { callee := .builtin .append, args := #[s, x], argTypes := #[t, t] })
  (base : Nat) (e : TypeId) (i : TypeInfo) (size : Nat) (ht : P.underlying t = some (.slice e)) (hi : P.info? e = some i)
  (v : Value) (n : Nat) (xs : List Value) (hs : a.eval s = v) (hown : w.ownsRow base e size v n xs) (ad : Option Addr) (c : Nat) (hx : a.eval x = .slice ad 0 c)
  (h : wpList P ops Q rest (a.put o.dst v) w) : wpList P ops Q (o :: rest) a w := by
 refine wpList_plain hgd fun K hK => ?_
 have hrun := run_append_zero (P := P) (w := w) base t o.type e i size ht hi v n xs hown ad c
 unfold Oper.wp
 simp [execOp, ho, resolve, invoke, builtin, hs, hx, hrun, Result.andThen]
 exact hK _ _ h
theorem wrt_k {k : Nat} {w w' : World} (v : Value) (h : Step (· = k) w w') : Wrt k w v w' v := ⟨h.mono (fun _ y => .inl y), fun _ hj => .inl hj⟩
theorem fill_len (n : Nat) : (n + (padBits n).length) % 8 = 0 := by
 unfold padBits
 rw [List.length_replicate]
 omega
theorem skBytes (k base : Nat) (v u : Value) (bs : List Bool) (ys : List Nat) (w : World) (h : Sk w k base v bs) (hu : BytesV w u ys) (hy : ∀ y ∈ ys, y < 256) (hl : bs.length + 8 * ys.length < 70368744170000) (hbase : base ≤ w.heap.size) (hne : ∀ j off n c, u = .slice (some ⟨j, off, none⟩) n c → j ≠ k) :
  Calls Tryz.prog 58 #[.pointer (some ⟨k, 0, none⟩), u] w
   fun e w' => e = .returned (.tuple #[]) ∧ ∃ v', Sk w' k base v' (bs ++ padBits bs.length ++ byteBits ys) ∧ Wrt k w v w' v' := by
 have HF := hide (skFill k base v bs w h)
 obtain ⟨i0, hi, hz0, hz1, hz2⟩ := info_parts Tryz.info5
 go_enter Tryz.func58, Tryz.ntmps58
 have hu2 : (∃ a c, u = .slice a 0 c ∧ ys = []) ∨ (ys ≠ [] ∧ ∃ j off cap, u = .slice (some ⟨j, off, none⟩) ys.length cap ∧ Lies w j off ys) := by
  rcases hu with hu | ⟨j, off, cap, hv, hli⟩
  ·exact .inl hu
  ·by_cases hy0 : ys = []
   ·subst hy0; exact .inl ⟨_, _, hv, rfl⟩
   ·exact .inr ⟨hy0, j, off, cap, hv, hli⟩
 clear hu
 rcases hu2 with ⟨ua, uc, rfl, rfl⟩ | ⟨hy0, j, off, uc, rfl, hli⟩
 ·clear h hne
  go_wp2_with fail
  refine (unhide HF).mono ?_
  rintro r w1 ⟨rfl, ⟨B, h1⟩, hw1⟩
  obtain ⟨k0, k1, kf0, kf1⟩ := blk_two h1.blk
  obtain ⟨va, vc, hvs⟩ : ∃ a c, v = .slice a B.length c := by
   obtain ⟨_, ⟨hv, hn⟩ | ⟨g, cap, _, hv, _⟩⟩ := h1.own
   ·exact ⟨none, 0, by rw [hv, hn]⟩
   ·exact ⟨_, _, hv⟩
  have HV := hide hvs
  have HW := hide h1.own
  have H1 := hide h1
  have HST := hide hw1
  rw [hvs] at k0
  have HG := hide (show Sk (w1.setCell ⟨k, 0, none⟩ (.slice va B.length vc)) k base v (bs ++ padBits bs.length ++ byteBits []) ∧ Wrt k w v (w1.setCell ⟨k, 0, none⟩ (.slice va B.length vc)) v from by
   have hs : Step (· = k) w1 (w1.setCell ⟨k, 0, none⟩ (.slice va B.length vc)) := (Step.refl (· = k) w1).setCell (p := ⟨k, 0, none⟩) rfl _
   have hap := h1.apart
   refine ⟨⟨B, ?_, ?_, ?_, ?_, hap⟩, wrt_k v (hw1.trans hs)⟩
   ·have h9 := blk_set h1.blk 0 (.slice va B.length vc)
    rw [show byteBits [] = [] from rfl, List.append_nil, hvs]
    rw [hvs] at h9
    simpa using h9
   ·exact ownsRow_of_block h1.own (fun i hi => hs.block i (h1.own.lt i hi).2 (fun y => by have := (h1.own.lt i hi).1; omega))
   ·rw [show byteBits [] = [] from rfl, List.append_nil]; exact h1.bits
   ·rw [show byteBits [] = [] from rfl, List.append_nil]; exact h1.len)
  clear h1 hw1 hvs HF
  go_wp2_with (at_builtin; refine wpList_append_zero rfl _ _ 31 rfl base 5 i0 1 Tryz.underlying31 hi _ B.length (u8s B) rfl (by rw [← unhide HV]; exact unhide HW) ua uc rfl ?_)
  go_end0
  exact ⟨rfl, v, unhide HG⟩
 ·have hjk := hne j off ys.length uc rfl
  have hyl : 0 < ys.length := List.length_pos_iff.2 hy0
  clear h hne
  go_wp2_with fail
  refine (unhide HF).mono ?_
  rintro r w1 ⟨rfl, ⟨B, h1⟩, hw1⟩
  obtain ⟨k0, k1, kf0, kf1⟩ := blk_two h1.blk
  have hkl1 := lt_of_block h1.blk
  have hsz1 := hw1.size
  obtain ⟨va, vc, hvs⟩ : ∃ a c, v = .slice a B.length c := by
   obtain ⟨_, ⟨hv, hn⟩ | ⟨g, cap, _, hv, _⟩⟩ := h1.own
   ·exact ⟨none, 0, by rw [hv, hn]⟩
   ·exact ⟨_, _, hv⟩
  have hli1 : Lies w1 j off ys := fun i hi => hw1.cell (p := ⟨j, off + i, none⟩) (hli i hi) hjk
  have hB8 : (bs ++ padBits bs.length).length = 8 * B.length := by
   have h8 := fill_len bs.length
   have h9 := h1.len
   rw [List.length_append] at h9 ⊢
   omega
  have hfl : (padBits bs.length).length < 8 := by unfold padBits; rw [List.length_replicate]; omega
  have hBl : 8 * B.length < bs.length + 8 := by rw [← hB8, List.length_append]; omega
  have HB8 := hide hB8
  have HBL := hide hBl
  have HV := hide hvs
  have HW := hide h1.own
  have H1 := hide h1
  have HST := hide hw1
  have HLI := hide hli1
  have HYL := hide hyl
  rw [hvs] at k0
  obtain ⟨m, hm⟩ : ∃ m, m = ys.length := ⟨_, rfl⟩
  have HM := hide hm
  rw [← hm]
  clear h1 hw1 hvs HF hli hli1 hB8 hm hy0 hyl hfl hBl
  go_wp2_with (at_builtin; refine wpList_append_row _ rfl _ _ 31 rfl base 5 i0 (.int .u8 0) 1 1 Tryz.underlying31 hi hz0 hz1 hz2 rfl (by decide) _ B.length (u8s B) rfl (by rw [← unhide HV]; exact unhide HW) ⟨j, off, none⟩ m uc (u8s ys) rfl ?c0 ?c1 ?c2 ?c6 ?c3 ?c4 ?c5 ?_)
  case c0 => rw [List.length_map, unhide HM, Nat.mul_one]
  case c1 => exact (unhide HLI).news
  case c2 => exact u8s_one _
  case c6 => rw [unhide HM]; exact unhide HYL
  case c3 => have := unhide HBL; have := unhide HM; unfold maxLen; omega
  case c4 => have := unhide HBL; have := unhide HM; omega
  case c5 => omega
  intro g cap w2 hown' hgr hg
  have hne : v.ownBlock ≠ some k := fun hk => by have := ((unhide HW).lt k hk).1; have := (unhide H1).apart; omega
  have hs2 : Step (fun i => v.ownBlock = some i) w1 w2 := (Step.refl _ w1).grown hgr (fun i hi => .inl (by rw [unhide HV]; exact hi))
  have hb2 := hs2.at_ (unhide H1).blk hne
  obtain ⟨m0, m1, mf0, mf1⟩ := blk_two hb2
  have hkl2 := lt_of_block hb2
  rw [unhide HV] at m0
  have HG := hide (show ∃ v', Sk (w2.setCell ⟨k, 0, none⟩ (.slice (some ⟨g, 0, none⟩) (B.length + m) cap)) k base v' (bs ++ padBits bs.length ++ byteBits ys) ∧ Wrt k w v (w2.setCell ⟨k, 0, none⟩ (.slice (some ⟨g, 0, none⟩) (B.length + m) cap)) v' from by
   have hap := (unhide H1).apart
   have hgb : base ≤ g := (hown'.lt g rfl).1
   have hs3 : Step (· = k) w2 (w2.setCell ⟨k, 0, none⟩ (.slice (some ⟨g, 0, none⟩) (B.length + m) cap)) := (Step.refl (· = k) w2).setCell (p := ⟨k, 0, none⟩) rfl _
   have el : (B ++ ys).length = B.length + m := by rw [List.length_append, unhide HM]
   refine ⟨.slice (some ⟨g, 0, none⟩) (B.length + m) cap, ⟨B ++ ys, ?_, ?_, bits_bytes (unhide H1).bits (unhide HB8) ys hy, ?_, hap⟩, (wrt_k v (unhide HST)).trans ⟨(hs2.mono (fun i y => .inr y)).trans (hs3.mono (fun i y => .inl y)), fun i hi => ?_⟩⟩
   ·have h9 := blk_set hb2 0 (.slice (some ⟨g, 0, none⟩) (B.length + m) cap)
    have e1 : roomOf (bs ++ padBits bs.length ++ byteBits ys).length = roomOf (bs ++ padBits bs.length).length := by
     rw [List.length_append, byteBits_length, unhide HB8]
     unfold roomOf
     omega
    rw [e1]
    simpa using h9
   ·rw [el, show u8s (B ++ ys) = u8s B ++ u8s ys by simp [u8s]]
    exact ownsRow_of_block hown' (fun i hi => hs3.block i (hown'.lt i hi).2 (fun y => by
     simp only [Value.ownBlock, Option.some.injEq] at hi
     omega))
   ·rw [el, List.length_append, byteBits_length, unhide HB8, ← unhide HM]
    omega
   ·simp only [Value.ownBlock, Option.some.injEq] at hi
    subst hi
    rcases hg with y | y
    ·exact .inl (by rw [unhide HV]; exact y)
    ·exact .inr y)
  clear hown' hgr hg hs2 hb2 hne
  go_wp2_with fail
  go_end0
  exact ⟨rfl, unhide HG⟩
theorem skOut (k base : Nat) (v : Value) (bs : List Bool) (w : World) (h : Sk w k base v bs) :
  Calls Tryz.prog 59 #[.pointer (some ⟨k, 0, none⟩)] w fun e w' => e = .returned v ∧ w' = w := by
 obtain ⟨B, h⟩ := h
 obtain ⟨h0, _⟩ := blk_two h.blk
 obtain ⟨va, vn, vc, hvs⟩ : ∃ a n c, v = .slice a n c := by
  obtain ⟨_, ⟨hv, _⟩ | ⟨g, cap, _, hv, _⟩⟩ := h.own
  ·exact ⟨_, _, _, hv⟩
  ·exact ⟨_, _, _, hv⟩
 subst hvs
 clear h
 go_enter Tryz.func59, Tryz.ntmps59
 go_wp2_with fail
 go_ret
 exact ⟨rfl, rfl⟩
end Go.Proofs.YtbpahojchgpdnaaGreatDoor
namespace Go.Proofs.YtbpahojchgpdnaaGreatDoor
open Go.RowKit Go.Bel
theorem writeHead_ok (k base kind : Nat) (last : Bool) (v : Value) (bs : List Bool) (w : World) (h : Sk w k base v bs) (hk : kind < 4) (hl : bs.length < 70368744160000) (hbase : base ≤ w.heap.size) :
  Calls Tryz.prog 99 #[.pointer (some ⟨k, 0, none⟩), .int .i64 (kind : Nat), .bool last] w
   fun e w' => e = .returned (.tuple #[]) ∧ ∃ v', Sk w' k base v' (bs ++ beginBits last kind) ∧ Wrt k w v w' v' := by
 have HB := hide (fun x (hx : x < 2) => skBitS k base x v bs w h hx (by omega) hbase)
 clear h
 have HNEXT := hide (show ∀ (x : Nat) (w1 : World) (v1 : Value), Sk w1 k base v1 (bs ++ [decide (x = 1)]) → Wrt k w v w1 v1 → Calls Tryz.prog 93 #[.pointer (some ⟨k, 0, none⟩), .int .i64 (kind : Nat), .int .i64 2] w1 fun e w' => e = .returned (.tuple #[]) ∧ ∃ v', Sk w' k base v' (bs ++ [decide (x = 1)] ++ numBits kind 2) ∧ Wrt k w v w' v' from fun x w1 v1 h1 hw1 => by
  have := hw1.step.size
  refine (skNum k base kind 2 v1 _ w1 h1 (by omega) (by omega) (by simp; omega) (by omega)).mono ?_
  rintro e w2 ⟨rfl, v2, h2, hw2⟩
  exact ⟨rfl, v2, h2, hw1.trans hw2⟩)
 cases last with
 | true =>
  go_enter Tryz.func99, Tryz.ntmps99
  go_wp2_with fail
  refine (unhide HB 1 (by omega)).mono ?_
  rintro r w1 ⟨rfl, v1, h1, hw1⟩
  have HN := hide (unhide HNEXT 1 w1 v1 h1 hw1)
  clear h1 hw1 HNEXT HB
  go_wp2_with fail
  refine (unhide HN).mono ?_
  rintro r w2 ⟨rfl, v2, h2, hw2⟩
  have HF := hide (And.intro h2 hw2)
  clear h2 hw2 HN
  go_wp2_with fail
  go_end0
  exact ⟨rfl, v2, by have := (unhide HF).1; rw [List.append_assoc] at this; exact this, (unhide HF).2⟩
 | false =>
  go_enter Tryz.func99, Tryz.ntmps99
  go_wp2_with fail
  refine (unhide HB 0 (by omega)).mono ?_
  rintro r w1 ⟨rfl, v1, h1, hw1⟩
  have HN := hide (unhide HNEXT 0 w1 v1 h1 hw1)
  clear h1 hw1 HNEXT HB
  go_wp2_with fail
  refine (unhide HN).mono ?_
  rintro r w2 ⟨rfl, v2, h2, hw2⟩
  have HF := hide (And.intro h2 hw2)
  clear h2 hw2 HN
  go_wp2_with fail
  go_end0
  exact ⟨rfl, v2, by have := (unhide HF).1; rw [List.append_assoc] at this; exact this, (unhide HF).2⟩
end Go.Proofs.YtbpahojchgpdnaaGreatDoor
namespace Go.Proofs.YtbpahojchgpdnaaGreatDoor
open Go.RowKit Go.Bel
structure BytesIn (w : World) (u : Value) (ys : List Nat) : Prop where
 bytes : BytesV w u ys
 byte : ∀ y ∈ ys, y < 256
 old : ∀ j off n c, u = .slice (some ⟨j, off, none⟩) n c → j < w.heap.size
 cap : ∀ a n c, u = .slice a n c → n ≤ c
 len : ys.length ≤ 1048576
theorem BytesIn.shape {w : World} {u : Value} {ys : List Nat} (h : BytesIn w u ys) : ∃ a c, u = .slice a ys.length c := by
 rcases h.bytes with ⟨a, c, rfl, rfl⟩ | ⟨j, off, cap, rfl, _⟩
 ·exact ⟨a, c, rfl⟩
 ·exact ⟨_, _, rfl⟩
theorem BytesIn.step0 {w w' : World} {u : Value} {ys : List Nat} (h : BytesIn w u ys) (hs : Step (fun _ => False) w w') : BytesIn w' u ys := by
 have hz := hs.size
 refine ⟨?_, h.byte, fun j off n c hu => by have := h.old j off n c hu; omega, h.cap, h.len⟩
 rcases h.bytes with hb | ⟨j, off, cap, hv, hli⟩
 ·exact .inl hb
 ·exact .inr ⟨j, off, cap, hv, fun i hi => hs.cell (p := ⟨j, off + i, none⟩) (hli i hi) (fun y => y)⟩
def Packed (w w' : World) (v : Value) (bits : List Bool) : Prop := ∃ B, w'.ownsRow w.heap.size 5 1 v B.length (u8s B) ∧ BitsIn bits B ∧ B.length = (bits.length + 7) / 8 ∧ Step (fun _ => False) w w'
end Go.Proofs.YtbpahojchgpdnaaGreatDoor
