/- Proved here: what the reference's fail, bit, number, fill and put do. -/
import Derived.Deep.RegionHeld3
import Derived.Deep.LoopGhost
import Derived.Test.YtbpahojchgpdnaaGreatDoorKept
set_option maxRecDepth 20000
set_option maxHeartbeats 4000000
namespace Go.Proofs.YtbpahojchgpdnaaGreatDoor
open Go.RowKit Go.Bel
structure XS where
 at_ : Nat
 err : Nat
 v : Value
 out : List Nat
 most : Nat
 name : ByteArray
def XS.cells (b : ByteArray) (s : XS) : Array Value := #[.string b, .int .i64 (s.at_ : Nat), .int .i64 (s.err : Nat), s.v, .int .i64 (s.most : Nat), .string s.name]
structure XAt (w : World) (x base : Nat) (b : ByteArray) (s : XS) : Prop where
 blk : w.heap[x]? = some (.cells (s.cells b) 167 (0, 0))
 own : w.ownsRow base 5 1 s.v s.out.length (u8s s.out)
 xbase : x < base
 base_le : base ≤ w.heap.size
 there : s.at_ ≤ 8 * b.size
 much : b.size ≤ 140737488351232
theorem XAt.cell {w : World} {x base : Nat} {b : ByteArray} {s : XS} (h : XAt w x base b s) :
  w.cell? ⟨x, 0, none⟩ = some (.string b) ∧ w.cell? ⟨x, 1, none⟩ = some (.int .i64 (s.at_ : Nat)) ∧ w.cell? ⟨x, 2, none⟩ = some (.int .i64 (s.err : Nat)) ∧ w.cell? ⟨x, 3, none⟩ = some s.v ∧ w.cell? ⟨x, 4, none⟩ = some (.int .i64 (s.most : Nat)) ∧ w.cell? ⟨x, 5, none⟩ = some (.string s.name) :=
 ⟨blk_cell h.blk 0 _ rfl, blk_cell h.blk 1 _ rfl, blk_cell h.blk 2 _ rfl, blk_cell h.blk 3 _ rfl, blk_cell h.blk 4 _ rfl, blk_cell h.blk 5 _ rfl⟩
theorem XAt.free {w : World} {x base : Nat} {b : ByteArray} {s : XS} (h : XAt w x base b s) (i : Nat) : w.frozen? ⟨x, i, none⟩ = false := blk_free h.blk i
theorem XAt.row_ne {w : World} {x base : Nat} {b : ByteArray} {s : XS} (h : XAt w x base b s) : s.v.ownBlock ≠ some x := fun e => by
 have := (h.own.lt x e).1; have := h.xbase; omega
theorem XAt.set {w : World} {x base : Nat} {b : ByteArray} {s s' : XS} (h : XAt w x base b s) (i : Nat) (u : Value) (hc : (s.cells b).set! i u = s'.cells b) (hv : s'.v = s.v) (ho : s'.out = s.out) (ht : s'.at_ ≤ 8 * b.size) : XAt (w.setCell ⟨x, i, none⟩ u) x base b s' := by
 refine ⟨?_, ?_, h.xbase, by simpa [World.setCell] using h.base_le, ht, h.much⟩
 ·have := blk_set h.blk i u
  rw [hc] at this
  exact this
 ·rw [hv, ho]; exact ownsRow_setCell_other h.own (a := ⟨x, i, none⟩) (fun e => h.row_ne e) u
theorem XAt.step {S : Nat → Prop} {w w' : World} {x base : Nat} {b : ByteArray} {s : XS} (h : XAt w x base b s) (hs : Step S w w') (hx : ¬ S x) (hr : ∀ k, s.v.ownBlock = some k → ¬ S k) : XAt w' x base b s :=
 ⟨hs.at_ h.blk hx, ownsRow_of_block h.own (fun k hk => hs.block k (h.own.lt k hk).2 (hr k hk)), h.xbase, Nat.le_trans h.base_le hs.size, h.there, h.much⟩
theorem XAt.step0 {w w' : World} {x base : Nat} {b : ByteArray} {s : XS} (h : XAt w x base b s) (hs : Step (fun _ => False) w w') : XAt w' x base b s := h.step hs (fun y => y) (fun _ _ y => y)
theorem XAt.drew {w : World} {x base : Nat} {b : ByteArray} {s : XS} (h : XAt w x base b s) : XAt w.drew x base b s := h.step0 ((Step.refl _ _).drew)
theorem XAt.vslice {w : World} {x base : Nat} {b : ByteArray} {s : XS} (h : XAt w x base b s) : ∃ a c, s.v = .slice a s.out.length c := by
 obtain ⟨_, ⟨hv, hn⟩ | ⟨g, cap, _, hv, _⟩⟩ := h.own
 ·exact ⟨none, 0, by rw [hv, hn]⟩
 ·exact ⟨_, _, hv⟩
theorem Wrt.setX {x : Nat} {w : World} {v : Value} (i : Nat) (u : Value) : Wrt x w v (w.setCell ⟨x, i, none⟩ u) v := ⟨(Step.refl _ w).setCell (p := ⟨x, i, none⟩) (.inl rfl) u, fun _ h => .inl h⟩
theorem fail_any (x base e : Nat) (b : ByteArray) (s : XS) (w : World) (h : XAt w x base b s) :
  Calls Tryz.prog 145 #[.pointer (some ⟨x, 0, none⟩), .int .i64 (e : Nat)] w fun r w' => r = .returned (.tuple #[]) ∧ XAt w' x base b { s with err := if s.err = 0 then e else s.err } ∧ Wrt x w s.v w' s.v := by
 obtain ⟨_, _, c2, _⟩ := h.cell
 have f2 := h.free 2
 by_cases h0 : s.err = 0
 ·rw [if_pos h0]
  rw [h0] at c2
  have H1 := hide (h.set (s' := { s with err := e }) 2 (.int .i64 (e : Nat)) (by simp [XS.cells]) rfl rfl h.there)
  clear h h0
  go_enter Tryz.func145, Tryz.ntmps145
  go_wp2_with fail
  go_end0
  exact ⟨rfl, unhide H1, Wrt.setX 2 _⟩
 ·rw [if_neg h0]
  have hb : ((s.err : Int) == 0) = false := beq_eq_false_iff_ne.2 (by omega)
  have H1 := hide h
  clear h h0
  go_enter Tryz.func145, Tryz.ntmps145
  go_wp2_with fail
  go_end0
  exact ⟨rfl, unhide H1, Wrt.refl _ _ _⟩
theorem and_one_i64 (a : Nat) (ha : a < 256) : bits .and .i64 (a : Int) 1 = ((a % 2 : Nat) : Int) := by
 have hx : a &&& 1 < 2 ^ 63 := Nat.and_lt_two_pow _ (by omega)
 have h1 : bits .and .i64 (a : Int) ((1 : Nat) : Int) = ((a &&& 1 : Nat) : Int) := by
  show IntKind.i64.wrap ((BitVec.ofInt 64 (a : Int) &&& BitVec.ofInt 64 ((1 : Nat) : Int)).toNat : Int) = _
  rw [BitVec.toNat_and, ofInt_nat 64 a (by omega), ofInt_nat 64 1 (by omega), IntKind.wrap_i64]
  omega
 rw [Nat.and_one_is_mod] at h1
 exact h1
def bitX (b : ByteArray) (s : XS) : Nat × XS :=
 if s.err ≠ 0 then (0, s) else if s.at_ < 8 * b.size then (bitAt (bytesOf b) s.at_, { s with at_ := s.at_ + 1 }) else (0, { s with err := 3 })
theorem bitX_lt (b : ByteArray) (s : XS) : (bitX b s).1 < 2 := by
 unfold bitX
 split
 ·simp
 ·split
  ·exact bitAt_lt _ _
  ·simp
theorem bitX_v (b : ByteArray) (s : XS) : (bitX b s).2.v = s.v ∧ (bitX b s).2.out = s.out ∧ (bitX b s).2.most = s.most ∧ (bitX b s).2.name = s.name := by
 unfold bitX
 split
 ·exact ⟨rfl, rfl, rfl, rfl⟩
 ·split <;> exact ⟨rfl, rfl, rfl, rfl⟩
theorem bit_any (x base : Nat) (b : ByteArray) (s : XS) (w : World) (h : XAt w x base b s) :
  Calls Tryz.prog 139 #[.pointer (some ⟨x, 0, none⟩)] w fun r w' => r = .returned (.int .i64 ((bitX b s).1 : Nat)) ∧ XAt w' x base b (bitX b s).2 ∧ Wrt x w s.v w' s.v := by
 obtain ⟨c0, c1, c2, _⟩ := h.cell
 have f1 := h.free 1
 have hm := h.much
 have ht := h.there
 unfold bitX
 by_cases h0 : s.err = 0
 ·rw [if_neg (by omega)]
  rw [h0] at c2
  by_cases hlt : s.at_ < 8 * b.size
  ·rw [if_pos hlt]
   have hk : s.at_ / 8 < b.size := by omega
   have hc := b[s.at_ / 8].toNat_lt
   have hend : bits BinOp.and IntKind.i64 (((b[s.at_ / 8].toNat : Nat) : Int) / 2 ^ (s.at_ % 8)) 1 = (bitAt (bytesOf b) s.at_ : Nat) := by
    have e : (((b[s.at_ / 8].toNat : Nat) : Int) / 2 ^ (s.at_ % 8)) = ((b[s.at_ / 8].toNat / 2 ^ (s.at_ % 8) : Nat) : Int) := by simp
    rw [e, and_one_i64 _ (Nat.lt_of_le_of_lt (Nat.div_le_self _ _) hc)]
    unfold bitAt
    rw [bytesOf_get b _ hk]
   have H1 := hide (show ∀ n, XAt ((w.drewN n).setCell ⟨x, 1, none⟩ (.int .i64 ((s.at_ : Int) + 1))) x base b { s with at_ := s.at_ + 1 } ∧ Wrt x w s.v ((w.drewN n).setCell ⟨x, 1, none⟩ (.int .i64 ((s.at_ : Int) + 1))) s.v from fun n => ⟨(h.step0 ((Step.refl (fun _ => False) _).drewN n)).set (s' := { s with at_ := s.at_ + 1 }) 1 _ (by simp [XS.cells]) rfl rfl (by dsimp only; omega), ((Wrt.refl x w s.v).drewN n).trans (Wrt.setX 1 _)⟩)
   have HE := hide hend
   obtain ⟨k, hkk⟩ : ∃ k, k = s.at_ / 8 := ⟨_, rfl⟩
   have hki : (s.at_ : Int) / 8 = (k : Int) := by omega
   have hkl : k < b.size := by omega
   have hkl2 : (k : Int) < (b.size : Int) := by omega
   have hkl3 : (0 : Int) ≤ (k : Int) := by omega
   have hkw : IntKind.i64.wrap (k : Int) = (k : Int) := by rw [IntKind.wrap_i64]; omega
   have hbw : IntKind.i64.wrap ((b[k].toNat : Nat) : Int) = ((b[k].toNat : Nat) : Int) := by have := b[k].toNat_lt; rw [IntKind.wrap_i64]; omega
   obtain ⟨m, hmm⟩ : ∃ m, m = s.at_ % 8 := ⟨_, rfl⟩
   have hmi : ((s.at_ : Nat) : Int).tmod 8 = (m : Int) := by rw [Int.tmod_eq_emod_of_nonneg (by omega)]; omega
   have hm0 : (0 : Int) ≤ (m : Int) := by omega
   have hm8 : (m : Int) < 8 := by omega
   have hm9 : m < 8 := by omega
   have HMM := hide hmm
   clear hmm
   have HK := hide hkk
   clear h h0 hend hkk
   go_enter Tryz.func139, Tryz.ntmps139
   go_wp2_with fail
   go_quiet (fail)
   go_wp2_with fail
   go_region_held3 (fun w' => w'.cell? ⟨x, 0, none⟩ = some (.string b) ∧ w'.cell? ⟨x, 1, none⟩ = some (.int .i64 (s.at_ : Nat))) (go_keep) (fail)
   go_wp2_with fail
   go_ret
   rw [← unhide HE]
   have hkk := unhide HK
   subst hkk
   have hmm := unhide HMM
   subst hmm
   exact ⟨rfl, unhide H1 _⟩
  ·rw [if_neg hlt]
   have HH := hide h
   have hge : 8 * (b.size : Int) ≤ (s.at_ : Int) := by omega
   clear h
   go_enter Tryz.func139, Tryz.ntmps139
   go_wp2_with fail
   go_quiet (fail)
   go_wp2_with fail
   refine (fail_any x base 3 b s (w.drewN nq) ((unhide HH).step0 ((Step.refl (fun _ => False) _).drewN nq))).mono ?_
   rintro r w1 ⟨rfl, h1, h2⟩
   rw [if_pos h0] at h1
   have H1 := hide h1
   have H2 := hide (show Wrt x w s.v w1 s.v from ((Wrt.refl x w s.v).drewN nq).trans h2)
   clear h1 h2
   go_wp2_with fail
   go_ret
   exact ⟨rfl, unhide H1, unhide H2⟩
 ·rw [if_pos h0]
  have hb : ((s.err : Int) != 0) = true := by rw [bne_iff_ne]; omega
  have H1 := hide h
  clear h
  go_enter Tryz.func139, Tryz.ntmps139
  go_wp2_with fail
  go_ret
  exact ⟨rfl, unhide H1, Wrt.refl _ _ _⟩
def numX (b : ByteArray) (s : XS) : Nat → Nat × XS
 | 0 => (0, s)
 | n + 1 => ((numX b s n).1 + (bitX b (numX b s n).2).1 * 2 ^ n, (bitX b (numX b s n).2).2)
theorem numX_lt (b : ByteArray) (s : XS) (n : Nat) : (numX b s n).1 < 2 ^ n := by
 induction n with
 | zero => simp [numX]
 | succ n ih =>
  have h1 := bitX_lt b (numX b s n).2
  rw [numX, Nat.pow_succ]
  dsimp only
  have h2 : (bitX b (numX b s n).2).1 = 0 ∨ (bitX b (numX b s n).2).1 = 1 := by omega
  rcases h2 with h2 | h2 <;> rw [h2] <;> omega
theorem numX_err (b : ByteArray) (s : XS) (h : s.err ≠ 0) (n : Nat) : numX b s n = (0, s) := by
 induction n with
 | zero => rfl
 | succ n ih =>
  rw [numX, ih]
  have e : bitX b s = (0, s) := by unfold bitX; rw [if_pos h]
  dsimp only
  rw [e]
  simp
theorem numX_ok (b : ByteArray) (s : XS) (h : s.err = 0) (n : Nat) (hn : s.at_ + n ≤ 8 * b.size) : numX b s n = (numAt (bytesOf b) s.at_ n, { s with at_ := s.at_ + n }) := by
 induction n with
 | zero => rfl
 | succ n ih =>
  rw [numX, ih (by omega)]
  have e : bitX b { s with at_ := s.at_ + n } = (bitAt (bytesOf b) (s.at_ + n), { s with at_ := s.at_ + n + 1 }) := by
   unfold bitX
   rw [if_neg (by dsimp only; omega), if_pos (by dsimp only; omega)]
  dsimp only
  rw [e]
  rfl
theorem numX_miss (b : ByteArray) (s : XS) (h : s.err = 0) (ht : s.at_ ≤ 8 * b.size) (n : Nat) (hn : 8 * b.size < s.at_ + n) : (numX b s n).2 = { s with at_ := 8 * b.size, err := 3 } := by
 induction n with
 | zero => omega
 | succ n ih =>
  rw [numX]
  by_cases h1 : 8 * b.size < s.at_ + n
  ·rw [ih h1]
   unfold bitX
   rw [if_pos (by dsimp only; omega)]
  ·rw [numX_ok b s h n (by omega)]
   unfold bitX
   rw [if_neg (by dsimp only; omega), if_neg (by dsimp only; omega)]
   have : s.at_ + n = 8 * b.size := by omega
   rw [this]
theorem numX_v (b : ByteArray) (s : XS) (n : Nat) : (numX b s n).2.v = s.v ∧ (numX b s n).2.out = s.out ∧ (numX b s n).2.most = s.most ∧ (numX b s n).2.name = s.name := by
 induction n with
 | zero => exact ⟨rfl, rfl, rfl, rfl⟩
 | succ n ih =>
  have h := bitX_v b (numX b s n).2
  exact ⟨h.1.trans ih.1, h.2.1.trans ih.2.1, h.2.2.1.trans ih.2.2.1, h.2.2.2.trans ih.2.2.2⟩
theorem number_any (x base n : Nat) (b : ByteArray) (s : XS) (w : World) (h : XAt w x base b s) (hn : n ≤ 60) :
  Calls Tryz.prog 140 #[.pointer (some ⟨x, 0, none⟩), .int .i64 (n : Nat)] w fun r w' => r = .returned (.int .i64 ((numX b s n).1 : Nat)) ∧ XAt w' x base b (numX b s n).2 ∧ Wrt x w s.v w' s.v := by
 have HH := hide h
 clear h
 go_enter Tryz.func140, Tryz.ntmps140
 go_wp2
 go_loopw [5, 6] (fun v i wr => ∃ k : Nat, k ≤ n ∧ i = .int .i64 (k : Nat) ∧ v = .int .i64 ((numX b s k).1 : Nat) ∧ XAt wr x base b (numX b s k).2 ∧ Wrt x w s.v wr s.v) (fun _ i _ => n - (intOf i).toNat)
 case atStart => exact ⟨0, Nat.zero_le _, rfl, rfl, unhide HH, Wrt.refl _ _ _⟩
 case round =>
  obtain ⟨k, hk, rfl, rfl, hx, hw⟩ := hrel
  by_cases hlt : k < n
  ·have hbit := bit_any x base b (numX b s k).2 wr hx
   have hb2 := bitX_lt b (numX b s k).2
   have hnl := numX_lt b s k
   have hnl1 := numX_lt b s (k + 1)
   have hp : 2 ^ (k + 1) ≤ 2 ^ 60 := Nat.pow_le_pow_right (by omega) (by omega)
   have hp0 : 2 ^ k ≤ 2 ^ 60 := Nat.pow_le_pow_right (by omega) (by omega)
   have es : (numX b s (k + 1)).1 = (numX b s k).1 + (bitX b (numX b s k).2).1 * 2 ^ k := rfl
   rw [es] at hnl1
   rw [(numX_v b s k).1] at hbit
   have HB := hide hbit
   have HW := hide hw
   obtain ⟨y, hy⟩ : ∃ y, y = (bitX b (numX b s k).2).1 := ⟨_, rfl⟩
   obtain ⟨z, hz⟩ : ∃ z, z = (numX b s k).1 := ⟨_, rfl⟩
   rw [← hy, ← hz] at es hnl1
   have HY := hide hy
   have HES := hide es
   have hsh : wrap64 ((y : Int) * 2 ^ k) = ((y * 2 ^ k : Nat) : Int) := by
    have e : ((y : Int) * 2 ^ k) = ((y * 2 ^ k : Nat) : Int) := by simp
    rw [e, IntWalk.wrap64_in _ ⟨by omega, by omega⟩]
   have had : wrap64 ((z : Int) + ((y * 2 ^ k : Nat) : Int)) = ((z + y * 2 ^ k : Nat) : Int) := by
    have e : ((z : Int) + ((y * 2 ^ k : Nat) : Int)) = ((z + y * 2 ^ k : Nat) : Int) := by omega
    rw [e, IntWalk.wrap64_in _ ⟨by omega, by omega⟩]
   have HAD := hide had
   have HSH := hide hsh
   rw [← hz]
   clear hbit hw hx hy hz es hnl hnl1 hb2 hp hp0 hsh had
   go_wp2_with fail
   refine (unhide HB).mono ?_
   rintro e w1 ⟨rfl, hx1, hw1⟩
   rw [← unhide HY]
   have H1 := hide hx1
   have H2 := hide ((unhide HW).trans hw1)
   clear hx1 hw1
   go_wp2_with fail
   refine ⟨⟨k + 1, by omega, by go_num, ?_, unhide H1, unhide H2⟩, by simp [intOf]; omega⟩
   rw [unhide HSH, unhide HAD, unhide HES]
  ·have : k = n := by omega
   subst this
   have H1 := hide hx
   have H2 := hide hw
   clear hx hw
   go_wp2_with fail
   go_ret
   exact ⟨rfl, unhide H1, unhide H2⟩
end Go.Proofs.YtbpahojchgpdnaaGreatDoor
namespace Go.Proofs.YtbpahojchgpdnaaGreatDoor
open Go.RowKit Go.Bel
theorem fill_any (x base : Nat) (b : ByteArray) (s : XS) (w : World) (h : XAt w x base b s) :
  Calls Tryz.prog 146 #[.pointer (some ⟨x, 0, none⟩)] w fun r w' => r = .returned (.tuple #[]) ∧ XAt w' x base b { s with at_ := (s.at_ + 7) / 8 * 8 } ∧ Wrt x w s.v w' s.v := by
 have ht := h.there
 have hm := h.much
 have HH := hide h
 clear h
 go_enter Tryz.func146, Tryz.ntmps146
 go_wp2
 go_loopg [8] 8 (fun k u wr => ∃ a : Nat, s.at_ ≤ a ∧ a ≤ (s.at_ + 7) / 8 * 8 ∧ (s.at_ + 7) / 8 * 8 ≤ a + k ∧ XAt wr x base b { s with at_ := a } ∧ Wrt x w s.v wr s.v)
 case atStart => exact ⟨s.at_, by omega, by omega, by omega, unhide HH, Wrt.refl _ _ _⟩
 case round =>
  obtain ⟨a, h1, h2, h3, hx, hw⟩ := hrel
  obtain ⟨_, c1, _⟩ := hx.cell
  have f1 := hx.free 1
  have H1 := hide hx
  have H2 := hide hw
  clear hx hw
  dsimp only at c1
  by_cases h8 : a % 8 = 0
  ·have ht8 : ((a : Nat) : Int).tmod 8 = 0 := by rw [Int.tmod_eq_emod_of_nonneg (by omega)]; omega
   have he : a = (s.at_ + 7) / 8 * 8 := by omega
   have HE := hide he
   clear he
   go_wp2_with fail
   go_end0
   exact ⟨rfl, by rw [← unhide HE]; exact unhide H1, unhide H2⟩
  ·have ht8 : (((a : Nat) : Int).tmod 8 != 0) = true := by rw [Int.tmod_eq_emod_of_nonneg (by omega), bne_iff_ne]; omega
   have H3 := hide ((unhide H1).set (s' := { s with at_ := a + 1 }) 1 (.int .i64 ((a : Int) + 1)) (by simp [XS.cells]) rfl rfl (by dsimp only; omega))
   go_wp2_with fail
   go_roundg (gk - 1)
   case measure => omega
   case rel => exact ⟨a + 1, by omega, by omega, by omega, unhide H3, (unhide H2).trans (Wrt.setX 1 _)⟩
theorem XAt.app {w w1 : World} {x base g cap c : Nat} {b : ByteArray} {s : XS} (h : XAt w x base b s) (hown : w1.ownsRow base 5 1 (.slice (some ⟨g, 0, none⟩) (s.out.length + 1) cap) (s.out.length + 1) (u8s s.out ++ [.int .u8 (c : Nat)])) (hs : Step (fun k => s.v.ownBlock = some k) w w1) (hg : s.v.ownBlock = some g ∨ w.heap.size ≤ g) :
  w1.heap[x]? = some (.cells (s.cells b) 167 (0, 0)) ∧ XAt (w1.setCell ⟨x, 3, none⟩ (.slice (some ⟨g, 0, none⟩) (s.out.length + 1) cap)) x base b { s with out := s.out ++ [c], v := .slice (some ⟨g, 0, none⟩) (s.out.length + 1) cap } ∧
  Wrt x w s.v (w1.setCell ⟨x, 3, none⟩ (.slice (some ⟨g, 0, none⟩) (s.out.length + 1) cap)) (.slice (some ⟨g, 0, none⟩) (s.out.length + 1) cap) := by
 have hx := hs.at_ h.blk (fun e => h.row_ne e)
 have hgb : base ≤ g := (hown.lt g rfl).1
 have hxb := h.xbase
 refine ⟨hx, ⟨?_, ?_, h.xbase, ?_, h.there, h.much⟩, ⟨?_, ?_⟩⟩
 ·have := blk_set hx 3 (.slice (some ⟨g, 0, none⟩) (s.out.length + 1) cap)
  simpa [XS.cells] using this
 ·have ho := ownsRow_setCell_other hown (a := ⟨x, 3, none⟩) (by simp [Value.ownBlock]; omega) (.slice (some ⟨g, 0, none⟩) (s.out.length + 1) cap)
  have e1 : (s.out ++ [c]).length = s.out.length + 1 := by simp
  have e2 : u8s (s.out ++ [c]) = u8s s.out ++ [.int .u8 (c : Nat)] := by simp [u8s]
  show World.ownsRow _ _ _ _ _ (s.out ++ [c]).length (u8s (s.out ++ [c]))
  rw [e1, e2]
  exact ho
 ·have := h.base_le; have := hs.size; simp [World.setCell]; omega
 ·exact (hs.mono (fun k hk => .inr hk)).setCell (p := ⟨x, 3, none⟩) (.inl rfl) _
 ·intro k hk
  simp only [Value.ownBlock, Option.some.injEq] at hk
  subst hk
  exact hg
def putX (c : Nat) (s : XS) (v' : Value) : XS := if s.err ≠ 0 then s else if s.out.length < s.most then { s with out := s.out ++ [c], v := v' } else { s with err := 11 }
theorem putX_any (x base c : Nat) (b : ByteArray) (s : XS) (w : World) (h : XAt w x base b s) (hm : s.most ≤ 1048576) :
  Calls Tryz.prog 166 #[.pointer (some ⟨x, 0, none⟩), .int .u8 (c : Nat)] w fun r w' => r = .returned (.tuple #[]) ∧ ∃ v', XAt w' x base b (putX c s v') ∧ Wrt x w s.v w' (putX c s v').v := by
 obtain ⟨_, _, c2, c3, c4, _⟩ := h.cell
 have f2 := h.free 2
 have f3 := h.free 3
 by_cases h0 : s.err = 0
 case neg =>
  have hp : ∀ v', putX c s v' = s := fun v' => by unfold putX; rw [if_pos h0]
  have HP := hide hp
  have hb : ((s.err : Int) != 0) = true := by rw [bne_iff_ne]; omega
  have H1 := hide h
  clear h hp
  go_enter Tryz.func166, Tryz.ntmps166
  go_wp2_with fail
  refine bodyPost_ret (results_none rfl _ _ _) rfl ?_
  exact ⟨rfl, s.v, by rw [unhide HP]; exact unhide H1, by rw [unhide HP]; exact Wrt.refl _ _ _⟩
 obtain ⟨va, vc, hv⟩ := h.vslice
 rw [hv] at c3
 rw [h0] at c2
 by_cases hr : s.out.length < s.most
 ·have hp : ∀ v', putX c s v' = { s with out := s.out ++ [c], v := v' } := fun v' => by unfold putX; rw [if_neg (by omega), if_pos hr]
  have HP := hide hp
  have hown := h.own
  rw [hv] at hown
  have hbase := h.base_le
  obtain ⟨i0, hi, hz0, hz1, hz2⟩ := info_parts Tryz.info5
  have HH := hide h
  have HV := hide hv
  have HW := hide hown
  clear h hv hown hp
  go_enter Tryz.func166, Tryz.ntmps166
  go_wp2_with fail
  go_quiet (fail)
  go_wp2_with (at_builtin; refine wpList_append_row _ rfl _ _ 31 rfl base 5 i0 (.int .u8 0) 1 1 Tryz.underlying31 hi hz0 hz1 hz2 rfl (by decide) _ s.out.length (u8s s.out) rfl (by exact (unhide HW).alloc _) ⟨w.heap.size, 0, none⟩ 1 1 [.int .u8 (c : Nat)] rfl rfl ?c1 ?c2 (by decide) ?c3 ?c4 ?c5 ?_)
  case c1 =>
   intro j u hj
   match j, hj with
   | 0, hj => simp at hj; subst hj; exact cell_of_one (heap_alloc_new (w.drewN nq) (.cells #[.int .u8 (c : Nat)] 5))
  case c2 => intro u hu; simp at hu; subst hu; rfl
  case c3 => unfold maxLen; omega
  case c4 => omega
  case c5 => simp; omega
  intro g cap' w1 hown' hgr hg
  have hs1 : Step (fun k => s.v.ownBlock = some k) w w1 := (((Step.refl (fun k => s.v.ownBlock = some k) w).drewN nq).alloc _).grown hgr (fun k hk => .inl (by rw [unhide HV]; exact hk))
  obtain ⟨hb1, hx1, hw1⟩ := (unhide HH).app (c := c) hown' hs1 (by rw [unhide HV]; exact hg.imp id (fun hx => Nat.le_trans (by simp) hx))
  have k3 := (show w1.cell? ⟨x, 3, none⟩ = some s.v from blk_cell hb1 3 _ rfl)
  have kf3 := (show w1.frozen? ⟨x, 3, none⟩ = false from blk_free hb1 3)
  have H1 := hide hx1
  have H2 := hide hw1
  clear hown' hgr hg hs1 hb1 hx1 hw1
  go_wp2_with fail
  go_end0
  exact ⟨rfl, _, by rw [unhide HP]; exact unhide H1, by rw [unhide HP]; exact unhide H2⟩
 ·have hp : ∀ v', putX c s v' = { s with err := 11 } := fun v' => by unfold putX; rw [if_neg (by omega), if_neg hr]
  have HP := hide hp
  have HH := hide h
  have hge : (s.most : Int) ≤ (s.out.length : Int) := by omega
  clear h hp
  go_enter Tryz.func166, Tryz.ntmps166
  go_wp2_with fail
  go_quiet (fail)
  go_wp2_with fail
  refine (fail_any x base 11 b s (w.drewN nq) ((unhide HH).step0 ((Step.refl (fun _ => False) _).drewN nq))).mono ?_
  rintro r w1 ⟨rfl, h1, h2⟩
  rw [if_pos h0] at h1
  have H1 := hide h1
  have H2 := hide (show Wrt x w s.v w1 s.v from ((Wrt.refl x w s.v).drewN nq).trans h2)
  clear h1 h2
  go_wp2_with fail
  refine bodyPost_ret (results_none rfl _ _ _) rfl ?_
  exact ⟨rfl, s.v, by rw [unhide HP]; exact unhide H1, by rw [unhide HP]; exact unhide H2⟩
end Go.Proofs.YtbpahojchgpdnaaGreatDoor
namespace Go.Proofs.YtbpahojchgpdnaaGreatDoor
open Go.RowKit Go.Bel
theorem cnt_ones (L : List Nat) (h : ∀ i : Nat, L[i]?.getD 0 ≤ 15) (k : Nat) : cntTo L k = 1 → (wgtTo L k = 16384 ↔ cntEq L 1 k = 1) := by
 have hz : ∀ k, cntTo L k = 0 → wgtTo L k = 0 ∧ cntEq L 1 k = 0 := by
  intro k
  induction k with
  | zero => intro _; exact ⟨rfl, rfl⟩
  | succ k ih =>
   intro h0
   rw [cntTo] at h0
   have hk : L[k]?.getD 0 = 0 := by
    by_cases hp : 0 < L[k]?.getD 0
    ·rw [if_pos hp] at h0; omega
    ·omega
   have := ih (by omega)
   rw [wgtTo, cntEq, hk]
   exact ⟨by simp; exact this.1, by simp; exact this.2⟩
 induction k with
 | zero => intro h1; simp [cntTo] at h1
 | succ k ih =>
  intro h1
  rw [cntTo] at h1
  rw [wgtTo, cntEq]
  by_cases hp : 0 < L[k]?.getD 0
  ·rw [if_pos hp] at h1 ⊢
   have h0 := hz k (by omega)
   rw [h0.1, h0.2]
   have hl := h k
   by_cases h1' : L[k]?.getD 0 = 1
   ·rw [h1']; simp
   ·rw [if_neg h1']
    have hd : 32768 / 2 ^ (L[k]?.getD 0) ≤ 32768 / 2 ^ 2 := Nat.div_le_div_left (Nat.pow_le_pow_right (by omega) (by omega)) (by decide)
    constructor
    ·intro hx; omega
    ·intro hx; omega
  ·rw [if_neg hp] at h1 ⊢
   have := ih (by omega)
   rw [if_neg (by omega)]
   simpa using this
def mayX (L : List Nat) (none_ : Bool) : Bool := if none_ then farB L else mayB L
theorem cntEq_le (L : List Nat) (l k : Nat) : cntEq L l k ≤ k := by
 induction k with
 | zero => simp [cntEq]
 | succ k ih => rw [cntEq]; split <;> omega
theorem mayX_eq (L : List Nat) (h : ∀ i : Nat, L[i]?.getD 0 ≤ 15) (none_ : Bool) :
  mayX L none_ = (wgtTo L L.length == 32768 || (cntTo L L.length == 1 && cntEq L 1 L.length == 1) || (none_ && cntTo L L.length == 0)) := by
 have h1 : (cntTo L L.length == 1 && wgtTo L L.length == 16384) = (cntTo L L.length == 1 && cntEq L 1 L.length == 1) := by
  by_cases hc : cntTo L L.length = 1
  ·have := cnt_ones L h L.length hc
   rw [hc]
   by_cases hw : wgtTo L L.length = 16384
   ·rw [hw, this.1 hw]; rfl
   ·have hn : ¬ cntEq L 1 L.length = 1 := fun x => hw (this.2 x)
    rw [beq_eq_false_iff_ne.2 hw, beq_eq_false_iff_ne.2 hn]
  ·rw [beq_eq_false_iff_ne.2 hc]; rfl
 unfold mayX farB mayB
 rw [h1]
 cases none_ with
 | true => simp; exact Bool.or_comm _ _
 | false => simp
theorem int_beq (a c : Nat) : ((a : Int) == (c : Int)) = (a == c) := by
 by_cases h : a = c
 ·subst h; simp
 ·rw [beq_eq_false_iff_ne.2 h, beq_eq_false_iff_ne.2 (by omega)]
theorem mayBeX_any (g off cap : Nat) (none_ : Bool) (L : List Nat) (w : World) (h : Ints w g off L) :
  Calls Tryz.prog 171 #[.slice (some ⟨g, off, none⟩) L.length cap, .bool none_] w fun e w' => e = .returned (.bool (mayX L none_)) ∧ w' = w := by
 have hm := h.much
 have hX := mayX_eq L h.le none_
 have HX := hide hX
 clear hX
 go_enter Tryz.func171, Tryz.ntmps171
 go_wp2
 go_loop [5, 6, 7, 8] (fun y m o i => ∃ k : Nat, k ≤ L.length ∧ i = .int .i64 (k : Nat) ∧ y = .int .i64 (wgtTo L k : Nat) ∧ m = .int .i64 (cntTo L k : Nat) ∧ o = .int .i64 (cntEq L 1 k : Nat)) (fun _ _ _ i => L.length - (intOf i).toNat)
 case atStart => exact ⟨0, by omega, rfl, rfl, rfl, rfl⟩
 case round =>
  obtain ⟨k, hk, rfl, rfl, rfl, rfl⟩ := hrel
  have h1 := cntTo_le L k
  have h2 := wgtTo_le L k
  have h3 := cntEq_le L 1 k
  by_cases hlt : k < L.length
  ·have hc := h.cell k hlt
   have hle := h.le k
   obtain ⟨q, hq⟩ : ∃ q, q = L[k]?.getD 0 := ⟨_, rfl⟩
   rw [← hq] at hc hle
   have HQ := hide hq
   clear hq
   by_cases h0 : 0 < q
   ·have hsub : (15 : Int) - (q : Int) = ((15 - q : Nat) : Int) := by omega
    have hdi : 32768 / 2 ^ q = 2 ^ (15 - q) := by rw [show (32768 : Nat) = 2 ^ 15 by rfl, Nat.pow_div hle (by omega)]
    have hdb : 2 ^ (15 - q) ≤ 2 ^ 15 := Nat.pow_le_pow_right (by omega) (by omega)
    obtain ⟨d, hd⟩ : ∃ d, d = 2 ^ (15 - q) := ⟨_, rfl⟩
    obtain ⟨r, hr⟩ : ∃ r, r = 15 - q := ⟨_, rfl⟩
    have hpw : (2 : Int) ^ r = (d : Int) := by rw [hd, hr]; simp
    rw [← hr] at hsub
    rw [← hd] at hdi hdb
    have hwr1 : wrap64 (d : Int) = (d : Int) := IntWalk.wrap64_in (d : Int) ⟨by omega, by omega⟩
    have HD := hide hdi
    clear hdi hd hr
    by_cases h1' : q = 1
    ·have h1b : ((q : Int) == 1) = true := beq_iff_eq.2 (by omega)
     have h9 : d = 16384 := by have h := unhide HD; rw [h1'] at h; omega
     have H9 := hide h9
     clear h9
     go_wp2
     exact ⟨⟨k + 1, by omega, by go_num, by rw [wgtTo, ← unhide HQ, if_pos h0, unhide HD, unhide H9]; go_num, by rw [cntTo, ← unhide HQ, if_pos h0]; go_num, by rw [cntEq, ← unhide HQ, if_pos h1']; go_num⟩, by simp [intOf]; omega⟩
    ·have h1b : ((q : Int) == 1) = false := beq_eq_false_iff_ne.2 (by omega)
     go_wp2
     exact ⟨⟨k + 1, by omega, by go_num, by rw [wgtTo, ← unhide HQ, if_pos h0, unhide HD]; go_num, by rw [cntTo, ← unhide HQ, if_pos h0]; go_num, by rw [cntEq, ← unhide HQ, if_neg h1']; go_num⟩, by simp [intOf]; omega⟩
   ·have hq0 : q = 0 := by omega
    subst hq0
    go_wp2
    go_round
    case rel => exact ⟨k + 1, by omega, by go_num, by rw [wgtTo, ← unhide HQ, if_neg h0]; go_num, by rw [cntTo, ← unhide HQ, if_neg h0]; go_num, by rw [cntEq, ← unhide HQ, if_neg (by omega)]; go_num⟩
    case measure => simp [intOf]; omega
  ·have : k = L.length := by omega
   subst this
   obtain ⟨W, hW⟩ : ∃ W, W = wgtTo L L.length := ⟨_, rfl⟩
   obtain ⟨C, hC⟩ : ∃ C, C = cntTo L L.length := ⟨_, rfl⟩
   obtain ⟨O, hO⟩ : ∃ O, O = cntEq L 1 L.length := ⟨_, rfl⟩
   rw [← hW, ← hC, ← hO] at HX ⊢
   clear hW hC hO h1 h2 h3
   obtain ⟨bw, hbw⟩ : ∃ bw, bw = (W == 32768) := ⟨_, rfl⟩
   obtain ⟨bc, hbc⟩ : ∃ bc, bc = (C == 1) := ⟨_, rfl⟩
   obtain ⟨bo, hbo⟩ : ∃ bo, bo = (O == 1) := ⟨_, rfl⟩
   obtain ⟨bz, hbz⟩ : ∃ bz, bz = (C == 0) := ⟨_, rfl⟩
   have iw : ((W : Int) == 32768) = bw := by rw [hbw]; exact int_beq W 32768
   have ic : ((C : Int) == 1) = bc := by rw [hbc]; exact int_beq C 1
   have io : ((O : Int) == 1) = bo := by rw [hbo]; exact int_beq O 1
   have iz : ((C : Int) == 0) = bz := by rw [hbz]; exact int_beq C 0
   rw [← hbw, ← hbc, ← hbo, ← hbz] at HX
   clear hbw hbc hbo hbz
   rcases none_ with _ | _ <;> rcases bw with _ | _ <;> rcases bc with _ | _ <;> rcases bo with _ | _ <;> rcases bz with _ | _
   all_goals
    go_wp2
    go_ret
    exact ⟨by rw [unhide HX]; rfl, rfl⟩
end Go.Proofs.YtbpahojchgpdnaaGreatDoor
namespace Go.Proofs.YtbpahojchgpdnaaGreatDoor
open Go.RowKit Go.Bel
def beginsX (n c k v : Nat) : Bool := decide (k ≤ n) && decide (0 < n) && (c / 2 ^ (n - k) == v)
theorem begins_any (n c k v : Nat) (w : World) (hn : n ≤ 15) (_hc : c < 2 ^ 40) (_hv : v < 2 ^ 40) (hk : k ≤ 16) :
  Calls Tryz.prog 188 #[.agg #[nat n, nat c], .agg #[nat k, nat v]] w fun e w' => e = .returned (.bool (beginsX n c k v)) ∧ Step (fun _ => False) w w' := by
 have hst : Step (fun _ => False) w ((w.alloc (.cells #[nat n, nat c] 234)).alloc (.cells #[nat k, nat v] 234)) := ((Step.refl _ _).alloc _).alloc _
 by_cases h1 : k ≤ n
 ·by_cases h2 : 0 < n
  ·have hsub : (n : Int) - (k : Int) = ((n - k : Nat) : Int) := by omega
   have hdi : ((c : Int) / 2 ^ (n - k)) = ((c / 2 ^ (n - k) : Nat) : Int) := by simp
   obtain ⟨d, hd⟩ : ∃ d, d = c / 2 ^ (n - k) := ⟨_, rfl⟩
   have hb : beginsX n c k v = (d == v) := by unfold beginsX; rw [hd, decide_eq_true h1, decide_eq_true h2]; simp
   rw [← hd] at hdi
   have hib := int_beq d v
   rw [hb]
   obtain ⟨r, hr⟩ : ∃ r, r = n - k := ⟨_, rfl⟩
   rw [← hr] at hsub hdi
   clear hb hd hr
   go_enter Tryz.func188, Tryz.ntmps188
   go_wp2_with fail
   go_quiet (fail)
   go_wp2_with fail
   go_ret
   exact ⟨rfl, hst.drewN _⟩
  ·have hn0 : n = 0 := by omega
   subst hn0
   have hk0 : k = 0 := by omega
   subst hk0
   have hb : beginsX 0 c 0 v = false := by unfold beginsX; simp
   rw [hb]
   go_enter Tryz.func188, Tryz.ntmps188
   go_wp2_with fail
   go_quiet (fail)
   go_wp2_with fail
   go_ret
   exact ⟨rfl, hst.drewN _⟩
 ·have hb : beginsX n c k v = false := by unfold beginsX; simp [h1]
  rw [hb]
  have hki : ¬ (k : Int) ≤ (n : Int) := by omega
  go_enter Tryz.func188, Tryz.ntmps188
  go_wp2_with fail
  go_quiet (fail)
  go_wp2_with fail
  go_ret
  exact ⟨rfl, hst.drewN _⟩
end Go.Proofs.YtbpahojchgpdnaaGreatDoor
namespace Go.Proofs.YtbpahojchgpdnaaGreatDoor
open Go.RowKit Go.Bel
def codeX (L : List Nat) (s : Nat) : Nat × Nat := if 1 ≤ L[s]?.getD 0 ∧ L[s]?.getD 0 ≤ 15 then (L[s]?.getD 0, Go.Bel.keyOf L s - 2 ^ (L[s]?.getD 0)) else (0, 0)
def dealtX (L : List Nat) (n k s : Nat) : Nat × Nat := if L[s]?.getD 0 < n ∨ (L[s]?.getD 0 = n ∧ s < k) then codeX L s else (0, 0)
def codeCell (f : Nat → Nat × Nat) (i : Nat) : Value := if i % 2 = 0 then nat (f (i / 2)).1 else nat (f (i / 2)).2
theorem Tryz.info234 : (Tryz.prog.info? 234).map (fun i => (i.zero, i.size, i.bytes)) = some (some (.agg #[.int .i64 0, .int .i64 0]), 2, 16) := by kernel_rfl
def nextX (L : List Nat) (n k : Nat) : Nat := 2 * (nx L (n - 1) - 2 ^ (n - 1)) + cntEq L n k
theorem dealtX_same (L : List Nat) (n k s : Nat) (h : L[k]?.getD 0 ≠ n) : dealtX L n (k + 1) s = dealtX L n k s := by
 unfold dealtX
 by_cases hs : L[s]?.getD 0 = n
 ·have : s ≠ k := fun e => h (e ▸ hs)
  by_cases h2 : s < k
  ·rw [if_pos (.inr ⟨hs, by omega⟩), if_pos (.inr ⟨hs, h2⟩)]
  ·rw [if_neg (by omega), if_neg (by omega)]
 ·by_cases h3 : L[s]?.getD 0 < n
  ·rw [if_pos (.inl h3), if_pos (.inl h3)]
  ·rw [if_neg (by omega), if_neg (by omega)]
theorem dealtX_put (L : List Nat) (n k s : Nat) (hn : 1 ≤ n) (hn2 : n ≤ 15) (h : L[k]?.getD 0 = n) : dealtX L n (k + 1) s = if s = k then (n, nextX L n k) else dealtX L n k s := by
 by_cases hs : s = k
 ·subst hs
  rw [if_pos rfl]
  unfold dealtX codeX
  rw [if_pos (.inr ⟨h, by omega⟩), if_pos (by omega), h]
  unfold nextX Go.Bel.keyOf
  rw [h]
  have h1 := nx_pos L (n - 1)
  have h2 : 2 ^ n = 2 * 2 ^ (n - 1) := by rw [← Nat.pow_succ', show (n - 1).succ = n by omega]
  rw [h2]
  congr 1
  omega
 ·rw [if_neg hs]
  unfold dealtX
  by_cases h1 : L[s]?.getD 0 < n ∨ (L[s]?.getD 0 = n ∧ s < k)
  ·rw [if_pos h1, if_pos (h1.imp id (fun x => ⟨x.1, by omega⟩))]
  ·rw [if_neg h1, if_neg (by omega)]
theorem dealtX_next (L : List Nat) (n s : Nat) (hs : s < L.length) : dealtX L n L.length s = dealtX L (n + 1) 0 s := by
 unfold dealtX
 by_cases h1 : L[s]?.getD 0 < n ∨ (L[s]?.getD 0 = n ∧ s < L.length)
 ·rw [if_pos h1, if_pos (.inl (by omega))]
 ·rw [if_neg h1, if_neg (by omega)]
theorem nextX_end (L : List Nat) (n : Nat) (hn : 1 ≤ n) : nextX L n L.length = nx L n - 2 ^ n := by
 obtain ⟨m, rfl⟩ : ∃ m, n = m + 1 := ⟨n - 1, by omega⟩
 unfold nextX
 rw [nx, Nat.add_sub_cancel, Nat.pow_succ]
 have := nx_pos L m
 omega
theorem nextX_le (L : List Nat) (hL : L.length ≤ 1000) (n k : Nat) (hn : n ≤ 15) (hn1 : 1 ≤ n) (hk : k ≤ L.length) : nextX L n k ≤ 100000000 := by
 unfold nextX
 have h1 := dealTo_bd L hL (n - 1) (by omega)
 rw [dealTo_next] at h1
 have h2 := cntEq_le L n k
 have h3 := Nat.sub_le (nx L (n - 1)) (2 ^ (n - 1))
 omega
theorem dealX_any (g off cap : Nat) (L : List Nat) (w : World) (h : Ints w g off L) :
  Calls Tryz.prog 167 #[.slice (some ⟨g, off, none⟩) L.length cap] w fun e w' => ∃ R, e = .returned (.slice (some ⟨R, 0, none⟩) L.length L.length) ∧ w.heap.size ≤ R ∧ RowAt w' R 234 (2 * L.length) (codeCell (codeX L)) ∧ Step (fun _ => False) w w' := by
 obtain ⟨i0, hi, hz0, hz1, hz2⟩ := info_parts Tryz.info234
 have hm := h.much
 go_enter Tryz.func167, Tryz.ntmps167
 go_wp2_with (at_make; refine wpList_make_full _ rfl _ _ 187 rfl w.heap.size 234 i0 (.agg #[.int .i64 0, .int .i64 0]) 2 Tryz.underlying187 hi hz0 hz1 .i64 .i64 _ _ L.length rfl rfl rfl rfl (by rw [hz2]; omega) (by unfold maxLen; omega) (Nat.le_refl _) ?_; intro w1 hown1 hgr1)
 have hrow : RowAt w1 w.heap.size 234 (2 * L.length) (codeCell (dealtX L 1 0)) := by
  obtain ⟨_, ⟨hv, _⟩ | ⟨g', cap', cur, hv, _, hh, _, _, hcs, htk⟩⟩ := hown1
  ·cases hv
  ·cases hv
   refine ⟨cur, hh, by rw [hcs]; omega, fun i hi' => ?_⟩
   have e1 : cur.toList = (madeCells (Value.agg #[.int .i64 0, .int .i64 0]).cells (L.length * 2)).toList := by
    rw [← htk, List.take_of_length_le (by rw [Array.length_toList, hcs]; exact Nat.le_refl _)]
   have e2 : cur = madeCells (Value.agg #[.int .i64 0, .int .i64 0]).cells (L.length * 2) := Array.toList_inj.1 e1
   have hz : codeCell (dealtX L 1 0) i = .int .i64 0 := by
    have hd : dealtX L 1 0 (i / 2) = (0, 0) := by
     unfold dealtX codeX
     by_cases h9 : L[i / 2]?.getD 0 < 1 ∨ (L[i / 2]?.getD 0 = 1 ∧ i / 2 < 0)
     ·rw [if_pos h9, if_neg (by omega)]
     ·rw [if_neg h9]
    unfold codeCell
    rw [hd]
    split <;> rfl
   rw [hz, e2]
   have hmod : i % 2 = 0 ∨ i % 2 = 1 := by omega
   unfold madeCells
   rw [Array.getElem?_map, Array.getElem?_range, if_pos (by omega)]
   rcases hmod with h9 | h9
   ·show some ((#[.int .i64 0, .int .i64 0] : Array Value)[i % 2]!) = _
    rw [h9]; rfl
   ·show some ((#[.int .i64 0, .int .i64 0] : Array Value)[i % 2]!) = _
    rw [h9]; rfl
 have hst : Step (fun _ => False) w w1 := (Step.refl _ w).grown hgr1 (fun k hk => by cases hk)
 obtain ⟨R, hR⟩ : ∃ R, R = w.heap.size := ⟨_, rfl⟩
 rw [← hR] at hrow ⊢
 have hRw : w.heap.size ≤ R := by omega
 clear hown1 hgr1 hR
 go_wp2_with fail
 go_loopw [4, 5] (fun x i wr => ∃ n : Nat, 1 ≤ n ∧ n ≤ 16 ∧ i = .int .i64 (n : Nat) ∧ x = .int .i64 ((nx L (n - 1) - 2 ^ (n - 1) : Nat) : Int) ∧ RowAt wr R 234 (2 * L.length) (codeCell (dealtX L n 0)) ∧ Step (fun _ => False) w wr) (fun _ i _ => 16 - (intOf i).toNat)
 case atStart => exact ⟨1, by omega, by omega, rfl, rfl, hrow, hst⟩
 case round =>
  clear hrow hst
  obtain ⟨n, hn1, hn2, rfl, rfl, hrow, hst⟩ := hrel
  by_cases hlt : n ≤ 15
  ·have hb := dealTo_bd L hm (n - 1) (by omega)
   rw [dealTo_next] at hb
   obtain ⟨y, hy⟩ : ∃ y, y = nx L (n - 1) - 2 ^ (n - 1) := ⟨_, rfl⟩
   rw [← hy]
   have hyb : y ≤ 32800768 := by rw [hy]; exact Nat.le_trans (Nat.sub_le _ _) hb
   have HROW := hide hrow
   have HST := hide hst
   have HY := hide hy
   clear hrow hst hb hy
   go_wp2_with fail
   go_loopw [4, 6] (fun x i wr => ∃ k : Nat, k ≤ L.length ∧ i = .int .i64 (k : Nat) ∧ x = .int .i64 (nextX L n k : Nat) ∧ RowAt wr R 234 (2 * L.length) (codeCell (dealtX L n k)) ∧ Step (fun _ => False) w wr) (fun _ i _ => L.length - (intOf i).toNat)
   case atStart => exact ⟨0, by omega, rfl, by unfold nextX; rw [← unhide HY]; simp [cntEq], unhide HROW, unhide HST⟩
   case round =>
    clear HROW HST HY
    obtain ⟨k, hk, rfl, rfl, hrow, hst⟩ := hrel
    by_cases hlk : k < L.length
    ·have hc := (h.step hst (fun x => x)).cell k hlk
     have hle := h.le k
     have hnb := nextX_le L hm n k hlt hn1 hk
     obtain ⟨q, hq⟩ : ∃ q, q = L[k]?.getD 0 := ⟨_, rfl⟩
     rw [← hq] at hc hle
     have HQ := hide hq
     have hkl : (k : Int) < (L.length : Int) := by omega
     have hk0 : (0 : Int) ≤ (k : Int) := by omega
     by_cases hqn : q = n
     ·have hqb : ((q : Int) == (n : Int)) = true := beq_iff_eq.2 (by omega)
      have z0 := hrow.cell (k * 2) (by omega)
      have z1 := hrow.cell (k * 2 + 1) (by omega)
      have fz0 := hrow.free (k * 2)
      have fz1 := hrow.free (k * 2 + 1)
      have HROW := hide hrow
      have HST := hide hst
      clear hq hrow hst
      go_wp2_with fail
      refine ⟨⟨k + 1, by omega, by go_num, ?_, ?_, ?_⟩, by simp [intOf]; omega⟩
      ·have e9 : nextX L n (k + 1) = nextX L n k + 1 := by
        unfold nextX
        rw [cntEq, ← unhide HQ, if_pos hqn]; omega
       rw [e9]
       go_num
      ·refine (((unhide HROW).set (k * 2) (.int .i64 (n : Nat))).set (k * 2 + 1) (.int .i64 (nextX L n k : Nat))).congr fun i _ => ?_
       have hp := dealtX_put L n k (i / 2) hn1 hlt (by rw [← unhide HQ]; exact hqn)
       unfold codeCell
       by_cases h1 : i = k * 2 + 1
       ·rw [if_pos h1, if_neg (by omega), hp, if_pos (by omega)]
       ·rw [if_neg h1]
        by_cases h2 : i = k * 2
        ·rw [if_pos h2, if_pos (by omega), hp, if_pos (by omega)]
        ·have hne : ¬ i / 2 = k := by omega
         rw [if_neg h2, hp, if_neg hne]
      ·exact ((unhide HST).setNew hRw _).setNew hRw _
     ·have hqb : ((q : Int) == (n : Int)) = false := beq_eq_false_iff_ne.2 (by omega)
      have HROW := hide hrow
      have HST := hide hst
      clear hq hrow hst
      go_wp2_with fail
      refine ⟨⟨k + 1, by omega, by go_num, ?_, ?_, unhide HST⟩, by simp [intOf]; omega⟩
      ·unfold nextX
       rw [cntEq, ← unhide HQ, if_neg hqn]; rfl
      ·refine (unhide HROW).congr fun i _ => ?_
       unfold codeCell
       rw [dealtX_same L n k _ (by rw [← unhide HQ]; exact hqn)]
    ·have : k = L.length := by omega
     subst this
     have HROW := hide hrow
     have HST := hide hst
     clear hrow hst
     go_wp2_with fail
     go_roundw
     case rel =>
      refine ⟨n + 1, by omega, by omega, by go_num, by rw [nextX_end L n hn1]; rfl, ?_, unhide HST⟩
      refine (unhide HROW).congr fun i hi' => ?_
      unfold codeCell
      rw [dealtX_next L n (i / 2) (by omega)]
     case measure => simp [intOf]; omega
  ·have : n = 16 := by omega
   subst this
   have HROW := hide hrow
   have HST := hide hst
   clear hrow hst
   go_wp2_with fail
   go_ret
   refine ⟨R, rfl, hRw, ?_, unhide HST⟩
   refine (unhide HROW).congr fun i _ => ?_
   have hd : dealtX L 16 0 (i / 2) = codeX L (i / 2) := by
    unfold dealtX
    have := h.le (i / 2)
    rw [if_pos (.inl (by omega))]
   unfold codeCell
   rw [hd]
end Go.Proofs.YtbpahojchgpdnaaGreatDoor
namespace Go.Proofs.YtbpahojchgpdnaaGreatDoor
open Go.RowKit Go.Bel
theorem nx_room (L : List Nat) (hr : nx L 15 ≤ 65536) (l : Nat) (hl : l ≤ 15) : nx L l ≤ 2 ^ (l + 1) := by
 have h := nx_mono L hl
 have e : 65536 = 2 ^ (l + 1) * 2 ^ (15 - l) := by rw [← Nat.pow_add, show l + 1 + (15 - l) = 16 by omega]
 have h2 : nx L l * 2 ^ (15 - l) ≤ 2 ^ (l + 1) * 2 ^ (15 - l) := by omega
 exact Nat.le_of_mul_le_mul_right h2 (Nat.pow_pos (by omega))
theorem key_bd (L : List Nat) (hr : nx L 15 ≤ 65536) (s : Nat) (hs : s < L.length) (h1 : 1 ≤ L[s]?.getD 0) (h15 : L[s]?.getD 0 ≤ 15) : 2 ^ (L[s]?.getD 0) ≤ Go.Bel.keyOf L s ∧ Go.Bel.keyOf L s < 2 ^ (L[s]?.getD 0 + 1) := by
 have h2 := keyOf_lt L s hs h1
 have h3 := nx_room L hr _ h15
 refine ⟨?_, by omega⟩
 unfold Go.Bel.keyOf
 have h4 := nx_pos L (L[s]?.getD 0 - 1)
 have e : 2 ^ (L[s]?.getD 0) = 2 * 2 ^ (L[s]?.getD 0 - 1) := by rw [← Nat.pow_succ', show (L[s]?.getD 0 - 1).succ = L[s]?.getD 0 by omega]
 omega
theorem tab_one (L : List Nat) : (dealAll L).tab 1 = none := by
 cases h : (dealAll L).tab 1 with
 | none => rfl
 | some s =>
  exfalso
  obtain ⟨h1, h2, h3, h4⟩ := (dealTo_tab L 15 1 s).1 h
  unfold Go.Bel.keyOf at h4
  have := nx_pos L (L[s]?.getD 0 - 1)
  have h5 : 0 < 2 ^ (L[s]?.getD 0 - 1) := Nat.pow_pos (by omega)
  omega
theorem match_iff (L : List Nat) (hr : nx L 15 ≤ 65536) (hL : ∀ i : Nat, L[i]?.getD 0 ≤ 15) (j K s : Nat) (hK : 2 ^ j ≤ K ∧ K < 2 ^ (j + 1)) (hs : s < L.length) :
  (beginsX (codeX L s).1 (codeX L s).2 j (K - 2 ^ j) = true ∧ (codeX L s).1 = j) ↔ (dealAll L).tab K = some s := by
 constructor
 ·rintro ⟨h1, h2⟩
  unfold beginsX at h1
  simp only [Bool.and_eq_true, decide_eq_true_eq, beq_iff_eq] at h1
  have hl : 1 ≤ L[s]?.getD 0 := by
   have h3 := h1.1.2
   unfold codeX at h3
   split at h3
   ·rename_i h4; exact h4.1
   ·simp at h3
  have hc : codeX L s = (L[s]?.getD 0, Go.Bel.keyOf L s - 2 ^ (L[s]?.getD 0)) := by unfold codeX; rw [if_pos ⟨hl, hL s⟩]
  rw [hc] at h1 h2
  dsimp only at h1 h2
  have hb := key_bd L hr s hs hl (hL s)
  have h5 := h1.2
  rw [h2, Nat.sub_self, Nat.pow_zero, Nat.div_one] at h5
  rw [h2] at hb
  refine (dealTo_tab L 15 K s).2 ⟨hs, hl, hL s, ?_⟩
  omega
 ·intro h
  obtain ⟨_, h2, h3, h4⟩ := (dealTo_tab L 15 K s).1 h
  have hb := key_bd L hr s hs h2 h3
  have hj : L[s]?.getD 0 = j := by
   rw [← h4] at hb
   have a1 : 2 ^ (L[s]?.getD 0) < 2 ^ (j + 1) := by omega
   have a2 : 2 ^ j < 2 ^ (L[s]?.getD 0 + 1) := by omega
   have b1 := (Nat.pow_lt_pow_iff_right (by omega : 1 < 2)).1 a1
   have b2 := (Nat.pow_lt_pow_iff_right (by omega : 1 < 2)).1 a2
   omega
  have hc : codeX L s = (L[s]?.getD 0, Go.Bel.keyOf L s - 2 ^ (L[s]?.getD 0)) := by unfold codeX; rw [if_pos ⟨h2, h3⟩]
  rw [hc]
  refine ⟨?_, hj⟩
  unfold beginsX
  rw [hj, decide_eq_true (Nat.le_refl j), decide_eq_true (by omega : 0 < j), Nat.sub_self, Nat.pow_zero, Nat.div_one, ← h4]
  simp
theorem cntEq_hit (L : List Nat) (l : Nat) : ∀ k t, t < cntEq L l k → ∃ s, s < k ∧ L[s]?.getD 0 = l ∧ cntEq L l s = t := by
 intro k
 induction k with
 | zero => intro t h; simp [cntEq] at h
 | succ k ih =>
  intro t h
  rw [cntEq] at h
  by_cases hk : L[k]?.getD 0 = l
  ·rw [if_pos hk] at h
   by_cases ht : t < cntEq L l k
   ·obtain ⟨s, h1, h2, h3⟩ := ih t ht
    exact ⟨s, by omega, h2, h3⟩
   ·exact ⟨k, by omega, hk, by omega⟩
  ·rw [if_neg hk] at h
   obtain ⟨s, h1, h2, h3⟩ := ih t (by omega)
   exact ⟨s, by omega, h2, h3⟩
theorem dealt_hit (L : List Nat) (m c : Nat) (hm : 1 ≤ m) (h1 : 2 * nx L (m - 1) ≤ c) (h2 : c < nx L m) : ∃ s, s < L.length ∧ L[s]?.getD 0 = m ∧ Go.Bel.keyOf L s = c := by
 obtain ⟨l, rfl⟩ : ∃ l, m = l + 1 := ⟨m - 1, by omega⟩
 rw [Nat.add_sub_cancel] at h1
 rw [nx] at h2
 obtain ⟨s, h3, h4, h5⟩ := cntEq_hit L (l + 1) L.length (c - 2 * nx L l) (by omega)
 refine ⟨s, h3, h4, ?_⟩
 unfold Go.Bel.keyOf
 rw [h4, Nat.add_sub_cancel, h5]
 omega
theorem key_ge (L : List Nat) (hL : ∀ i : Nat, L[i]?.getD 0 ≤ 15) (B : List Nat) (p j : Nat) (hj : j ≤ 15) (hno : ∀ i, 1 ≤ i → i ≤ j → (dealAll L).tab (keyAt B p i) = none) : nx L j ≤ keyAt B p j := by
 induction j with
 | zero => simp [nx, keyAt]
 | succ j ih =>
  have h1 := ih (by omega) (fun i h1 h2 => hno i h1 (by omega))
  have h2 := hno (j + 1) (by omega) (Nat.le_refl _)
  rcases Nat.lt_or_ge (keyAt B p (j + 1)) (nx L (j + 1)) with h3 | h3
  ·exfalso
   obtain ⟨s, a1, a2, a3⟩ := dealt_hit L (j + 1) (keyAt B p (j + 1)) (by omega) (by rw [keyAt, Nat.add_sub_cancel]; omega) h3
   have := (dealTo_tab L 15 (keyAt B p (j + 1)) s).2 ⟨a1, by omega, hL s, a3.symm⟩
   unfold dealAll at h2
   rw [h2] at this
   cases this
  ·exact h3
theorem begins_of (L : List Nat) (hr : nx L 15 ≤ 65536) (hL : ∀ i : Nat, L[i]?.getD 0 ≤ 15) (s j K : Nat) (hs : s < L.length) (h1 : 1 ≤ L[s]?.getD 0) (hj : j ≤ L[s]?.getD 0) (hk : Go.Bel.keyOf L s / 2 ^ (L[s]?.getD 0 - j) = K) : beginsX (codeX L s).1 (codeX L s).2 j (K - 2 ^ j) = true := by
 have hc : codeX L s = (L[s]?.getD 0, Go.Bel.keyOf L s - 2 ^ (L[s]?.getD 0)) := by unfold codeX; rw [if_pos ⟨h1, hL s⟩]
 rw [hc]
 unfold beginsX
 dsimp only
 rw [decide_eq_true hj, decide_eq_true (by omega : 0 < L[s]?.getD 0)]
 simp only [Bool.true_and, beq_iff_eq]
 have hb := key_bd L hr s hs h1 (hL s)
 have e : 2 ^ (L[s]?.getD 0) = 2 ^ (L[s]?.getD 0 - j) * 2 ^ j := by rw [← Nat.pow_add, show L[s]?.getD 0 - j + j = L[s]?.getD 0 by omega]
 rw [e, ← hk, Nat.sub_mul_div]
theorem some_of_full (L : List Nat) (hL : ∀ i : Nat, L[i]?.getD 0 ≤ 15) (hf : nx L 15 = 65536) (B : List Nat) (p j : Nat) (hj : j ≤ 15) (hno : ∀ i, 1 ≤ i → i ≤ j → (dealAll L).tab (keyAt B p i) = none) :
  ∃ s, s < L.length ∧ beginsX (codeX L s).1 (codeX L s).2 j (keyAt B p j - 2 ^ j) = true := by
 have h1 := key_ge L hL B p j hj hno
 have h2 := (keyAt_bd B p j).2
 have hex : ∀ d, j + d ≤ 15 → keyAt B p j * 2 ^ d < nx L (j + d) → ∃ m, j < m ∧ m ≤ j + d ∧ keyAt B p j * 2 ^ (m - j) < nx L m ∧ nx L (m - 1) ≤ keyAt B p j * 2 ^ (m - 1 - j) := by
  intro d
  induction d with
  | zero => intro _ h; rw [Nat.pow_zero, Nat.mul_one, Nat.add_zero] at h; omega
  | succ d ih =>
   intro hd h
   by_cases h3 : keyAt B p j * 2 ^ d < nx L (j + d)
   ·obtain ⟨m, a1, a2, a3, a4⟩ := ih (by omega) h3
    exact ⟨m, a1, by omega, a3, a4⟩
   ·refine ⟨j + d + 1, by omega, by omega, ?_, ?_⟩
    ·rw [show j + d + 1 - j = d + 1 by omega]; exact h
    ·rw [show j + d + 1 - 1 - j = d by omega, show j + d + 1 - 1 = j + d by omega]; omega
 have h15 : keyAt B p j * 2 ^ (15 - j) < nx L (j + (15 - j)) := by
  rw [show j + (15 - j) = 15 by omega, hf]
  have e : 65536 = 2 ^ (j + 1) * 2 ^ (15 - j) := by rw [← Nat.pow_add, show j + 1 + (15 - j) = 16 by omega]
  rw [e]
  exact Nat.mul_lt_mul_of_pos_right h2 (Nat.pow_pos (by omega))
 obtain ⟨m, a1, a2, a3, a4⟩ := hex (15 - j) (by omega) h15
 obtain ⟨s, b1, b2, b3⟩ := dealt_hit L m (keyAt B p j * 2 ^ (m - j)) (by omega) (by
  have e : keyAt B p j * 2 ^ (m - j) = 2 * (keyAt B p j * 2 ^ (m - 1 - j)) := by
   rw [show m - j = (m - 1 - j) + 1 by omega, Nat.pow_succ, ← Nat.mul_assoc]; omega
  rw [e]; omega) a3
 refine ⟨s, b1, begins_of L (by omega) hL s j _ b1 (by omega) (by omega) ?_⟩
 rw [b3, b2, Nat.mul_div_cancel _ (Nat.pow_pos (by omega))]
theorem none_of_long (L : List Nat) (hr : nx L 15 ≤ 65536) (hL : ∀ i : Nat, L[i]?.getD 0 ≤ 15) (j K s : Nat) (hK : 2 ^ j ≤ K ∧ K < 2 ^ (j + 1)) (hj : (dealAll L).longest ≤ j) (hno : (dealAll L).tab K = none) (hs : s < L.length) :
  beginsX (codeX L s).1 (codeX L s).2 j (K - 2 ^ j) = false := by
 cases hb : beginsX (codeX L s).1 (codeX L s).2 j (K - 2 ^ j) with
 | false => rfl
 | true =>
  exfalso
  have h1 := hb
  unfold beginsX at h1
  simp only [Bool.and_eq_true, decide_eq_true_eq, beq_iff_eq] at h1
  have hl : 1 ≤ L[s]?.getD 0 ∧ (codeX L s).1 = L[s]?.getD 0 := by
   have h3 := h1.1.2
   unfold codeX at h3 ⊢
   split at h3
   ·rename_i h4; exact ⟨h4.1, by rw [if_pos h4]⟩
   ·simp at h3
  have h2 := longest_ge L 15 s hs hl.1 (hL s)
  have h3 : (codeX L s).1 = j := by
   have h4 := h1.1.1
   unfold dealAll at hj
   omega
  have := (match_iff L hr hL j K s hK hs).1 ⟨hb, h3⟩
  rw [hno] at this
  cases this
theorem cntTo_two (L : List Nat) (s : Nat) (h2 : 2 ≤ L[s]?.getD 0) : ∀ k, cntEq L 1 k ≤ cntTo L k ∧ (s < k → cntEq L 1 k + 1 ≤ cntTo L k) := by
 intro k
 induction k with
 | zero => simp [cntEq, cntTo]
 | succ k ih =>
  rw [cntEq, cntTo]
  by_cases h1 : L[k]?.getD 0 = 1
  ·rw [if_pos h1, if_pos (by omega)]
   refine ⟨by omega, fun hs => ?_⟩
   have : s ≠ k := fun e => by rw [e] at h2; omega
   have := ih.2 (by omega)
   omega
  ·rw [if_neg h1]
   refine ⟨by split <;> omega, fun hs => ?_⟩
   by_cases hk : s = k
   ·subst hk
    rw [if_pos (by omega)]
    omega
   ·have := ih.2 (by omega)
    split <;> omega
theorem longest_le_of (L : List Nat) (m : Nat) (h : ∀ i, i < L.length → L[i]?.getD 0 ≤ m) : ∀ l, (dealTo L l).longest ≤ m := by
 have hin : ∀ l st k, k ≤ L.length → st.longest ≤ m → (dealIn L l st k).longest ≤ m := by
  intro l st k
  induction k with
  | zero => intro _ h1; simpa [dealIn] using h1
  | succ k ih =>
   intro hk h1
   rw [dealIn]
   split
   ·rename_i he
    have := h k (by omega)
    show l ≤ m
    omega
   ·exact ih (by omega) h1
 intro l
 induction l with
 | zero => simp [dealTo]
 | succ l ih => rw [dealTo]; exact hin _ _ _ (Nat.le_refl _) ih
theorem room_far (L : List Nat) (hL : ∀ i : Nat, L[i]?.getD 0 ≤ 15) (hf : farB L = true) : nx L 15 ≤ 65536 := by
 by_cases h0 : cntTo L L.length = 0
 ·rw [nx_eq, wTo_wgt L hL]
  have hz : ∀ k, k ≤ L.length → wgtTo L k = 0 := by
   intro k
   induction k with
   | zero => intro _; rfl
   | succ k ih =>
    intro hk
    have := cnt_zero L L.length h0 k (by omega)
    rw [wgtTo, ih (by omega), this]
    simp
  rw [hz _ (Nat.le_refl _)]
  decide
 ·refine Go.Bel.room L hL ?_
  unfold farB at hf
  simpa [h0] using hf
theorem some_any (L : List Nat) (hL : ∀ i : Nat, L[i]?.getD 0 ≤ 15) (hf : farB L = true) (B : List Nat) (p j : Nat) (hj : j ≤ (dealAll L).longest) (hno : ∀ i, 1 ≤ i → i ≤ j → (dealAll L).tab (keyAt B p i) = none) :
  (∃ s, s < L.length ∧ beginsX (codeX L s).1 (codeX L s).2 j (keyAt B p j - 2 ^ j) = true) ↔ j < (dealAll L).longest := by
 have hr := room_far L hL hf
 have h15 := longest_le L
 constructor
 ·rintro ⟨s, hs, hb⟩
  rcases Nat.lt_or_ge j (dealAll L).longest with h | h
  ·exact h
  ·exfalso
   have hn : (dealAll L).tab (keyAt B p j) = none := by
    by_cases h0 : j = 0
    ·subst h0; exact tab_one L
    ·exact hno j (by omega) (Nat.le_refl _)
   rw [none_of_long L hr hL j (keyAt B p j) s (keyAt_bd B p j) h hn hs] at hb
   cases hb
 ·intro hlt
  by_cases hfull : wgtTo L L.length = 32768
  ·exact some_of_full L hL (by rw [nx_eq, wTo_wgt L hL, hfull]) B p j (by omega) hno
  ·have h0 : cntTo L L.length ≠ 0 := fun h => by rw [longest_zero L h] at hlt; omega
   have hm : cntTo L L.length = 1 ∧ wgtTo L L.length = 16384 := by
    unfold farB mayB at hf
    simpa [h0, hfull] using hf
   have h1 := (cnt_ones L hL L.length hm.1).1 hm.2
   obtain ⟨s, a1, a2, _⟩ := cntEq_hit L 1 L.length 0 (by omega)
   have hall : ∀ i, i < L.length → L[i]?.getD 0 ≤ 1 := by
    intro i hi
    rcases Nat.lt_or_ge 1 (L[i]?.getD 0) with h | h
    ·have := (cntTo_two L i h L.length).2 hi
     omega
    ·exact h
   have hl1 := longest_le_of L 1 hall 15
   unfold dealAll at hlt
   have hj0 : j = 0 := by omega
   subst hj0
   refine ⟨s, a1, begins_of L hr hL s 0 _ a1 (by omega) (by omega) ?_⟩
   have hb := key_bd L hr s a1 (by omega) (hL s)
   rw [a2] at hb ⊢
   simp only [keyAt]
   omega
end Go.Proofs.YtbpahojchgpdnaaGreatDoor
