/- Proved here: how the reference goes on from a head to the blocks and to a tail. -/
import Derived.Test.YtbpahojchgpdnaaGreatDoorXGh
import Derived.Test.YtbpahojchgpdnaaGreatDoorToldx
set_option maxRecDepth 20000
set_option maxHeartbeats 4000000
namespace Go.Proofs.YtbpahojchgpdnaaGreatDoor
open Go.RowKit Go.Bel Go.Maps
variable {b : ByteArray} {x base M : Nat} {wA w : World} {K : Nat → List Nat → Prop} {e : Nat} {out : List Nat} {used : Nat} {name : List Nat} {s : XS}
structure GB (b : ByteArray) (x base : Nat) (wA w : World) (T : Nat → List Nat → List Nat → Prop) (e : Nat) (out : List Nat) (used : Nat) (name : List Nat) (s : XS) : Prop where
 xat : XAt w x base b s
 step : Step (· = x) wA w
 bytes : AllB s.out
 len : s.out.length ≤ 1048576
 st : (s.err = 0 ∧ s.at_ % 8 = 0 ∧ ∃ nm, s.name = baOf nm ∧ T s.at_ s.out nm) ∨ (s.err ≠ 0 ∧ e = s.err ∧ out = s.out ∧ used = 0 ∧ s.name = baOf name)
def GEx (e : Nat) (out : List Nat) (used : Nat) (name : List Nat) (s : XS) : Prop := s.err = e ∧ s.out = out ∧ (e = 0 → s.at_ = 8 * used) ∧ s.name = baOf name
structure GE (b : ByteArray) (x base : Nat) (wA w : World) (e : Nat) (out : List Nat) (used : Nat) (name : List Nat) (s : XS) : Prop where
 xat : XAt w x base b s
 step : Step (· = x) wA w
 fin : GEx e out used name s
theorem blocksX_err (x base : Nat) (b : ByteArray) (s : XS) (w : World) (h : XAt w x base b s) (h0 : s.err ≠ 0) :
  Calls Tryz.prog 111 #[.pointer (some ⟨x, 0, none⟩)] w fun r w' => r = .returned (.tuple #[]) ∧ w' = w := by
 obtain ⟨_, _, e2, _⟩ := h.cell
 have heb : ((s.err : Int) == 0) = false := beq_eq_false_iff_ne.2 (by omega)
 clear h h0
 go_enter Tryz.func111, Tryz.ntmps111
 go_wp2_with fail
 go_loopg [2] 1 (fun _ l wr => l = .int .i64 0 ∧ wr = w)
 case atStart => exact ⟨rfl, rfl⟩
 case round =>
  obtain ⟨rfl, rfl⟩ := hrel
  go_wp2_with fail
  go_end0
  exact ⟨rfl, rfl⟩
theorem GA.blocks (hT : ToldXSaid) (h : GA b x base M wA w K e out used name s) (hM : M ≤ 1048576) {T : Nat → List Nat → List Nat → Prop}
  (hK : ∀ p nm, K p nm → ∃ n e1 o1 q1, GRun (bytesOf b) n (gAt M p) e1 o1 q1 ∧ if e1 = 0 then T q1 o1 nm else e = e1 ∧ out = o1 ∧ used = 0 ∧ name = nm) :
  Calls Tryz.prog 111 #[.pointer (some ⟨x, 0, none⟩)] w fun r w' => r = .returned (.tuple #[]) ∧ ∃ s', GB b x base wA w' T e out used name s' := by
 by_cases h0 : s.err = 0
 ·obtain ⟨nm, k2, k3⟩ := h.live h0
  obtain ⟨n, e1, o1, q1, hr, hif⟩ := hK _ _ k3
  obtain ⟨r1, r2, r3⟩ := gAt_run hr
  refine (blocksX_any x base n e1 b s (gAt M s.at_) o1 q1 w hT h.xat h0 (by rw [h.mm]; exact hM) (by rw [h.oo]; exact Nat.zero_le _) ⟨by rw [h.oo]; rfl, by rw [h.mm]; rfl, rfl, rfl⟩ hr).mono ?_
  rintro r w1 ⟨rfl, s', h1, h2, h3, h4, h5, h6⟩
  have hst : Step (· = x) wA w1 := h.step.trans (h6.step.mono (fun k y => by
   rcases y with y | y
   ·exact y
   ·rw [h.vv] at y; cases y))
  refine ⟨rfl, s', h5, hst, by rw [h2]; exact r1, by rw [h2]; omega, ?_⟩
  by_cases he : e1 = 0
  ·rw [if_pos he] at hif
   obtain ⟨h7, h8⟩ := h3 he
   exact .inl ⟨h1.trans he, by rw [h7]; exact h8, nm, h4.trans k2, by rw [h7, h2]; exact hif⟩
  ·rw [if_neg he] at hif
   obtain ⟨i1, i2, i3, i4⟩ := hif
   exact .inr ⟨by rw [h1]; exact he, by rw [h1]; exact i1, by rw [h2]; exact i2, i3, by rw [h4, k2, i4]⟩
 ·refine (blocksX_err x base b s w h.xat h0).mono ?_
  rintro r w1 ⟨rfl, rfl⟩
  refine ⟨rfl, s, h.xat, h.step, by rw [h.oo]; intro y hy; simp at hy, by rw [h.oo]; exact Nat.zero_le _, ?_⟩
  rcases h.st with ⟨y, _⟩ | ⟨_, nm, k2, k3⟩
  ·exact absurd y h0
  ·exact .inr ⟨h0, k3.1, by rw [h.oo]; exact k3.2.1, k3.2.2.1, by rw [k2, k3.2.2.2]⟩
theorem wrt_own {x : Nat} {w w' : World} {v : Value} {wA : World} (h : Wrt x w v w' v) (hs : Step (· = x) wA w) (hv : ∀ k, v.ownBlock = some k → wA.heap.size ≤ k) : Step (· = x) wA w' :=
 hs.trans' h.step (fun k hk y => by
  rcases y with y | y
  ·exact y
  ·have := hv k y; omega)
theorem zTail_end (b : ByteArray) (s : XS) (h0 : s.err = 0) (h8 : s.at_ % 8 = 0) (hth : s.at_ ≤ 8 * b.size) (hn : s.name = baOf name) (hz : zTail (bytesOf b) s.at_ s.out e out used) : GEx e out used name (zTailX b s) := by
 obtain ⟨ho, hz⟩ := hz
 rw [bytesOf_length] at hz
 unfold zTailX
 by_cases hp : s.at_ + 32 ≤ 8 * b.size
 ·rw [if_pos hp] at hz
  rw [bigX_ok b s h0 4 hp]
  dsimp only
  by_cases he : bigAt (bytesOf b) s.at_ 4 = adWith 1 s.out
  ·rw [if_pos he] at hz
   rw [decide_eq_true he]
   show GEx e out used name (failIf false 12 _)
   rw [failIf_ok]
   exact ⟨h0.trans hz.1.symm, ho.symm, fun _ => by show s.at_ + 8 * 4 = _; omega, hn⟩
  ·rw [if_neg he] at hz
   rw [decide_eq_false he]
   show GEx e out used name (failIf true 12 _)
   rw [failIf_bad (by exact h0)]
   exact ⟨hz.1.symm, ho.symm, fun y => by omega, hn⟩
 ·rw [if_neg hp] at hz
  rw [bigX_miss b s h0 hth 4 (by omega), failIf_err (by show (3 : Nat) ≠ 0; decide)]
  exact ⟨hz.1.symm, ho.symm, fun y => by omega, hn⟩
theorem zTail_dead (b : ByteArray) (s : XS) (h0 : s.err ≠ 0) (he : e = s.err) (ho : out = s.out) (hn : s.name = baOf name) : GEx e out used name (zTailX b s) := by
 unfold zTailX
 rw [bigX_err b s h0 4, failIf_err h0]
 exact ⟨he.symm, ho.symm, fun y => by omega, hn⟩
theorem gTail_end (b : ByteArray) (s : XS) (nm : List Nat) (h0 : s.err = 0) (h8 : s.at_ % 8 = 0) (hth : s.at_ ≤ 8 * b.size) (hn : s.name = baOf nm) (hz : gzTail (bytesOf b) s.at_ s.out nm e out used name) : GEx e out used name (gTailX b s) := by
 unfold gzTail at hz
 rw [bytesOf_length] at hz
 unfold gTailX
 have hg1 : (s.at_ + 32 ≤ 8 * b.size ∧ numAt (bytesOf b) s.at_ 32 = crcWith 0 s.out ∧ gTail1 b s = { s with at_ := s.at_ + 32 }) ∨ ((gTail1 b s).err = e ∧ (gTail1 b s).err ≠ 0 ∧ (gTail1 b s).out = out ∧ (gTail1 b s).name = baOf name) := by
  unfold gTail1
  by_cases hp : s.at_ + 32 ≤ 8 * b.size
  ·rw [if_pos hp] at hz
   rw [numX_ok b s h0 32 hp]
   dsimp only
   by_cases he : numAt (bytesOf b) s.at_ 32 = crcWith 0 s.out
   ·rw [decide_eq_true he]
    exact .inl ⟨hp, he, failIf_ok⟩
   ·rw [if_neg he] at hz
    rw [decide_eq_false he]
    refine .inr ?_
    show (failIf true 12 _).err = e ∧ _
    rw [show failIf (!false) 12 { s with at_ := s.at_ + 32 } = { s with at_ := s.at_ + 32, err := 12 } from failIf_bad (s := { s with at_ := s.at_ + 32 }) h0, show failIf true 12 { s with at_ := s.at_ + 32 } = { s with at_ := s.at_ + 32, err := 12 } from failIf_bad (s := { s with at_ := s.at_ + 32 }) h0]
    exact ⟨hz.1.symm, by show (12 : Nat) ≠ 0; decide, hz.2.1.symm, by show s.name = _; rw [hn, hz.2.2.2]⟩
  ·rw [if_neg hp] at hz
   rw [numX_miss b s h0 hth 32 (by omega), failIf_err (by show (3 : Nat) ≠ 0; decide)]
   exact .inr ⟨hz.1.symm, by show (3 : Nat) ≠ 0; decide, hz.2.1.symm, by show s.name = _; rw [hn, hz.2.2.2]⟩
 rcases hg1 with ⟨hp, he, hg⟩ | ⟨g1, g2, g3, g4⟩
 ·rw [if_pos hp, if_pos he] at hz
  obtain ⟨ho, hnn, hz⟩ := hz
  rw [bytesOf_length] at hz
  have hn' : s.name = baOf name := by rw [hn, hnn]
  rw [hg]
  by_cases hp2 : s.at_ + 32 + 32 ≤ 8 * b.size
  ·rw [if_pos hp2] at hz
   rw [numX_ok b { s with at_ := s.at_ + 32 } h0 32 hp2]
   dsimp only
   by_cases he2 : numAt (bytesOf b) (s.at_ + 32) 32 = s.out.length
   ·rw [if_pos he2] at hz
    rw [decide_eq_true he2]
    show GEx e out used name (failIf false 12 _)
    rw [failIf_ok]
    exact ⟨h0.trans hz.1.symm, ho.symm, fun _ => by show s.at_ + 32 + 32 = _; omega, hn'⟩
   ·rw [if_neg he2] at hz
    rw [decide_eq_false he2]
    show GEx e out used name (failIf true 12 _)
    rw [failIf_bad (by exact h0)]
    exact ⟨hz.1.symm, ho.symm, fun y => by omega, hn'⟩
  ·rw [if_neg hp2] at hz
   rw [numX_miss b { s with at_ := s.at_ + 32 } h0 hp 32 (by show _ < s.at_ + 32 + 32; omega), failIf_err (by show (3 : Nat) ≠ 0; decide)]
   exact ⟨hz.1.symm, ho.symm, fun y => by omega, hn'⟩
 ·rw [numX_err b _ g2 32, failIf_err g2]
  exact ⟨g1, g3, fun y => by omega, g4⟩
theorem gTail_dead (b : ByteArray) (s : XS) (h0 : s.err ≠ 0) (he : e = s.err) (ho : out = s.out) (hn : s.name = baOf name) : GEx e out used name (gTailX b s) := by
 have h1 : gTail1 b s = s := by unfold gTail1; rw [numX_err b s h0 32, failIf_err h0]
 unfold gTailX
 rw [h1, numX_err b s h0 32, failIf_err h0]
 exact ⟨he.symm, ho.symm, fun y => by omega, hn⟩
theorem GB.zlib (h : GB b x base wA w (fun q o nm => nm = [] ∧ name = [] ∧ zTail (bytesOf b) q o e out used) e out used name s) (hbase : wA.heap.size ≤ base) :
  Calls Tryz.prog 113 #[.pointer (some ⟨x, 0, none⟩)] w fun r w' => r = .returned (.tuple #[]) ∧ ∃ s', GE b x base wA w' e out used name s' := by
 refine (zlibTailX_any x base b s w h.xat h.bytes h.len).mono ?_
 rintro r w1 ⟨rfl, h1, h2⟩
 refine ⟨rfl, _, h1, wrt_own h2 h.step (fun k hk => Nat.le_trans hbase (h.xat.own.lt k hk).1), ?_⟩
 rcases h.st with ⟨k1, k8, nm, k2, k3, k4, k5⟩ | ⟨k1, k2, k3, k4, k5⟩
 ·exact zTail_end b s k1 k8 h.xat.there (by rw [k2, k3, k4]) k5
 ·exact zTail_dead b s k1 k2 k3 k5
theorem GB.gzip (h : GB b x base wA w (fun q o nm => gzTail (bytesOf b) q o nm e out used name) e out used name s) (hbase : wA.heap.size ≤ base) :
  Calls Tryz.prog 115 #[.pointer (some ⟨x, 0, none⟩)] w fun r w' => r = .returned (.tuple #[]) ∧ ∃ s', GE b x base wA w' e out used name s' := by
 refine (gzipTailX_any x base b s w h.xat h.bytes h.len).mono ?_
 rintro r w1 ⟨rfl, h1, h2⟩
 refine ⟨rfl, _, h1, wrt_own h2 h.step (fun k hk => Nat.le_trans hbase (h.xat.own.lt k hk).1), ?_⟩
 rcases h.st with ⟨k1, k8, nm, k2, k3⟩ | ⟨k1, k2, k3, k4, k5⟩
 ·exact gTail_end b s nm k1 k8 h.xat.there k2 k3
 ·exact gTail_dead b s k1 k2 k3 k5
theorem zHead_end (b : ByteArray) (s : XS) (h0 : s.err = 0) (ha : s.at_ = 0) (hz : zAll (bytesOf b) M e out used) : ((zHeadX b s).err = 0 ∧ zBody (bytesOf b) M (zHeadX b s).at_ e out used) ∨ ((zHeadX b s).err ≠ 0 ∧ e = (zHeadX b s).err ∧ out = [] ∧ used = 0) := by
 unfold zAll at hz
 rw [bytesOf_length] at hz
 have hg1 : (0 + 8 ≤ 8 * b.size ∧ zOk1 (numAt (bytesOf b) 0 8) ∧ (numX b s 8).1 = numAt (bytesOf b) 0 8 ∧ zHead1 b s = { s with at_ := 0 + 8 }) ∨ ((zHead1 b s).err ≠ 0 ∧ e = (zHead1 b s).err ∧ out = [] ∧ used = 0) := by
  unfold zHead1
  by_cases hp : 0 + 8 ≤ 8 * b.size
  ·rw [if_pos hp] at hz
   have hok := numX_ok b s h0 8 (by omega)
   rw [hok]
   dsimp only
   rw [ha]
   by_cases h1 : zOk1 (numAt (bytesOf b) 0 8)
   ·rw [decide_eq_true h1]
    exact .inl ⟨hp, h1, rfl, failIf_ok⟩
   ·rw [if_neg h1] at hz
    rw [decide_eq_false h1]
    refine .inr ?_
    rw [show failIf (!false) 4 { s with at_ := 0 + 8 } = { s with at_ := 0 + 8, err := 4 } from failIf_bad (s := { s with at_ := 0 + 8 }) h0]
    exact ⟨by show (4 : Nat) ≠ 0; decide, hz.1, hz.2.1, hz.2.2⟩
  ·rw [if_neg hp] at hz
   rw [numX_miss b s h0 (by omega) 8 (by omega), failIf_err (by show (3 : Nat) ≠ 0; decide)]
   exact .inr ⟨by show (3 : Nat) ≠ 0; decide, hz.1, hz.2.1, hz.2.2⟩
 unfold zHeadX
 rcases hg1 with ⟨hp, h1, hc, hg⟩ | ⟨g1, g2, g3, g4⟩
 ·rw [if_pos hp, if_pos h1] at hz
  unfold zSec at hz
  rw [bytesOf_length] at hz
  rw [hg, hc]
  by_cases hp2 : 0 + 8 + 8 ≤ 8 * b.size
  ·rw [if_pos hp2] at hz
   rw [numX_ok b { s with at_ := 0 + 8 } h0 8 hp2]
   dsimp only
   by_cases h2 : zOk2 (numAt (bytesOf b) 0 8) (numAt (bytesOf b) (0 + 8) 8)
   ·rw [if_pos h2] at hz
    rw [decide_eq_true h2, show failIf (!true) 4 { s with at_ := 0 + 8 + 8 } = { s with at_ := 0 + 8 + 8 } from failIf_ok]
    exact .inl ⟨h0, hz⟩
   ·rw [if_neg h2] at hz
    rw [decide_eq_false h2, show failIf (!false) 4 { s with at_ := 0 + 8 + 8 } = { s with at_ := 0 + 8 + 8, err := 4 } from failIf_bad (s := { s with at_ := 0 + 8 + 8 }) h0]
    exact .inr ⟨by show (4 : Nat) ≠ 0; decide, hz.1, hz.2.1, hz.2.2⟩
  ·rw [if_neg hp2] at hz
   rw [numX_miss b { s with at_ := 0 + 8 } h0 hp 8 (by show _ < 0 + 8 + 8; omega), failIf_err (by show (3 : Nat) ≠ 0; decide)]
   exact .inr ⟨by show (3 : Nat) ≠ 0; decide, hz.1, hz.2.1, hz.2.2⟩
 ·rw [numX_err b _ g1 8, failIf_err g1]
  exact .inr ⟨g1, g2, g3, g4⟩
theorem zHeadX_v (b : ByteArray) (s : XS) : (zHeadX b s).v = s.v ∧ (zHeadX b s).out = s.out ∧ (zHeadX b s).name = s.name ∧ (zHeadX b s).most = s.most := by
 have h1 : (zHead1 b s).v = s.v ∧ (zHead1 b s).out = s.out ∧ (zHead1 b s).name = s.name ∧ (zHead1 b s).most = s.most := by
  unfold zHead1
  obtain ⟨a1, a2, a3, a4, _⟩ := failIf_v (!decide (zOk1 (numX b s 8).1)) 4 (numX b s 8).2
  obtain ⟨c1, c2, c3, c4⟩ := numX_v b s 8
  exact ⟨a1.trans c1, a2.trans c2, a3.trans c4, a4.trans c3⟩
 unfold zHeadX
 obtain ⟨a1, a2, a3, a4, _⟩ := failIf_v (!decide (zOk2 (numX b s 8).1 (numX b (zHead1 b s) 8).1)) 4 (numX b (zHead1 b s) 8).2
 obtain ⟨c1, c2, c3, c4⟩ := numX_v b (zHead1 b s) 8
 exact ⟨a1.trans (c1.trans h1.1), a2.trans (c2.trans h1.2.1), a3.trans (c4.trans h1.2.2.1), a4.trans (c3.trans h1.2.2.2)⟩
end Go.Proofs.YtbpahojchgpdnaaGreatDoor
namespace Go.Proofs.YtbpahojchgpdnaaGreatDoor
open Go.RowKit Go.Bel Go.Maps
theorem refStart (most M : Int) (b : ByteArray) (w : World) (K : Nat → List Nat → Prop) (e : Nat) (out : List Nat) (used : Nat) (name : List Nat) (hb : b.size ≤ 140737488351232) (hM : M = (asked most : Nat)) (hK : K 0 []) (W : World) (hW : W = ((w.alloc (.cells #[.int .i64 0, .slice none 0 0, .int .i64 0, .string ⟨#[]⟩] 45)).alloc (.cells #[.string b, .int .i64 0, .int .i64 0, .slice none 0 0, .int .i64 M, .string ⟨#[]⟩] 167))) :
  GA b (w.heap.size + 1) (w.heap.size + 1 + 1) (asked most) W W K e out used name ⟨0, 0, .slice none 0 0, [], asked most, ⟨#[]⟩⟩ ∧ W.heap.size = w.heap.size + 1 + 1 ∧ W.heap[w.heap.size]? = some (.cells #[.int .i64 0, .slice none 0 0, .int .i64 0, .string ⟨#[]⟩] 45 (0, 0)) ∧ Step (fun _ => False) w W := by
 obtain ⟨w1, hw1⟩ : ∃ w1, w1 = w.alloc (.cells #[.int .i64 0, .slice none 0 0, .int .i64 0, .string ⟨#[]⟩] 45) := ⟨_, rfl⟩
 have hz1 : w1.heap.size = w.heap.size + 1 := by rw [hw1]; simp
 have hr1 : w1.heap[w.heap.size]? = some (.cells #[.int .i64 0, .slice none 0 0, .int .i64 0, .string ⟨#[]⟩] 45 (0, 0)) := by rw [hw1]; exact heap_alloc_new _ _
 have hs1 : Step (fun _ => False) w w1 := by rw [hw1]; exact (Step.refl _ _).alloc _
 rw [← hw1] at hW
 have hz2 : W.heap.size = w.heap.size + 1 + 1 := by rw [hW]; simp [hz1]
 have hs2 : Step (fun _ => False) w1 W := by rw [hW]; exact (Step.refl _ _).alloc _
 have hx2 : W.heap[w.heap.size + 1]? = some (.cells #[.string b, .int .i64 0, .int .i64 0, .slice none 0 0, .int .i64 M, .string ⟨#[]⟩] 167 (0, 0)) := by rw [hW, ← hz1]; exact heap_alloc_new _ _
 have hX : XAt W (w.heap.size + 1) (w.heap.size + 1 + 1) b ⟨0, 0, .slice none 0 0, [], asked most, ⟨#[]⟩⟩ :=
  ⟨by rw [hx2, hM]; rfl, World.ownsRow_nil _ _ _ _, by omega, by omega, Nat.zero_le _, hb⟩
 exact ⟨⟨hX, rfl, rfl, rfl, Step.refl _ _, .inl ⟨rfl, [], rfl, hK⟩⟩, hz2, hs2.at_ hr1 (fun y => y), hs1.trans hs2⟩
structure UE (w w' : World) (b : ByteArray) (e : Nat) (out : List Nat) (used : Nat) (name : List Nat) (s' : XS) : Prop where
 fin : GEx e out used name s'
 xat : XAt w' (w.heap.size + 1) (w.heap.size + 1 + 1) b s'
 res : w'.heap[w.heap.size]? = some (.cells #[.int .i64 0, .slice none 0 0, .int .i64 0, .string ⟨#[]⟩] 45 (0, 0))
 step : Step (fun _ => False) w w'
theorem UE.row {w w1 : World} {b : ByteArray} {e : Nat} {out : List Nat} {used : Nat} {name : List Nat} {s' : XS} (h : UE w w1 b e out used name s') {va : Option Addr} {vc len : Nat} (hv : s'.v = .slice va len vc) (u0 u1 u2 u3 : Value) (o : Obj) :
  ((((((w1.setCell ⟨w.heap.size, 0, none⟩ u0).setCell ⟨w.heap.size, 1, none⟩ u1).setCell ⟨w.heap.size, 2, none⟩ u2).setCell ⟨w.heap.size, 3, none⟩ u3).alloc o).drew).ownsRow w.heap.size 5 1 (.slice va len vc) out.length (u8s out) := by
 have h1 := h.xat.own
 rw [hv, h.fin.2.1] at h1
 have hne : (Value.slice va len vc).ownBlock ≠ some w.heap.size := fun hk => by
  have := (h1.lt _ hk).1
  omega
 have h2 := ownsRow_mono h1 (show w.heap.size ≤ w.heap.size + 1 + 1 by omega)
 exact (((ownsRow_setCell_other (ownsRow_setCell_other (ownsRow_setCell_other (ownsRow_setCell_other h2 (a := ⟨w.heap.size, 0, none⟩) hne u0) (a := ⟨w.heap.size, 1, none⟩) hne u1) (a := ⟨w.heap.size, 2, none⟩) hne u2) (a := ⟨w.heap.size, 3, none⟩) hne u3))).alloc o
theorem UE.far {w w1 : World} {b : ByteArray} {e : Nat} {out : List Nat} {used : Nat} {name : List Nat} {s' : XS} (h : UE w w1 b e out used name s') (u0 u1 u2 u3 : Value) (o : Obj) :
  Step (fun _ => False) w (((((w1.setCell ⟨w.heap.size, 0, none⟩ u0).setCell ⟨w.heap.size, 1, none⟩ u1).setCell ⟨w.heap.size, 2, none⟩ u2).setCell ⟨w.heap.size, 3, none⟩ u3).alloc o).drew :=
 (((((h.step.setNew (Nat.le_refl _) _).setNew (Nat.le_refl _) _).setNew (Nat.le_refl _) _).setNew (Nat.le_refl _) _).alloc _).drew
theorem GE.ue {w W w' : World} {b : ByteArray} {e : Nat} {out : List Nat} {used : Nat} {name : List Nat} {s' : XS} (h : GE b (w.heap.size + 1) (w.heap.size + 1 + 1) W w' e out used name s') (hr : W.heap[w.heap.size]? = some (.cells #[.int .i64 0, .slice none 0 0, .int .i64 0, .string ⟨#[]⟩] 45 (0, 0))) (hs : Step (fun _ => False) w W) : UE w w' b e out used name s' :=
 ⟨h.fin, h.xat, h.step.at_ hr (by omega), hs.trans' h.step (fun k hk y => by omega)⟩
theorem most_cases (most : Int) : (most < 0 ∧ (0 : Int) = (asked most : Nat)) ∨ (¬ most < 0 ∧ 1048576 < most ∧ (1048576 : Int) = (asked most : Nat)) ∨ (¬ most < 0 ∧ ¬ 1048576 < most ∧ most = (asked most : Nat)) := by
 by_cases h0 : most < 0
 ·exact .inl ⟨h0, by unfold asked; rw [if_pos h0]; rfl⟩
 ·by_cases h2 : 1048576 < most
  ·exact .inr (.inl ⟨h0, h2, by unfold asked; rw [if_neg h0, if_pos h2]; rfl⟩)
  ·exact .inr (.inr ⟨h0, h2, by unfold asked; rw [if_neg h0, if_neg h2]; omega⟩)
theorem chain1 (e : Nat) (most M : Int) (b : ByteArray) (out : List Nat) (used : Nat) (w : World) (hT : ToldXSaid) (hb : b.size ≤ 140737488351232) (hr : zAll (bytesOf b) (asked most) e out used) (hM : M = (asked most : Nat)) (W : World) (hW : W = ((w.alloc (.cells #[.int .i64 0, .slice none 0 0, .int .i64 0, .string ⟨#[]⟩] 45)).alloc (.cells #[.string b, .int .i64 0, .int .i64 0, .slice none 0 0, .int .i64 M, .string ⟨#[]⟩] 167))) :
  Calls Tryz.prog 112 #[.pointer (some ⟨w.heap.size + 1, 0, none⟩)] W fun r wa => r = .returned (.tuple #[]) ∧ Calls Tryz.prog 111 #[.pointer (some ⟨w.heap.size + 1, 0, none⟩)] wa fun r wb => r = .returned (.tuple #[]) ∧ Calls Tryz.prog 113 #[.pointer (some ⟨w.heap.size + 1, 0, none⟩)] wb fun r w1 => r = .returned (.tuple #[]) ∧ ∃ s', UE w w1 b e out used [] s' := by
 obtain ⟨hga, hz, hrs, hst⟩ := refStart most M b w (fun _ _ => True) e out used [] hb hM trivial W hW
 refine (zlibHeadX_any _ _ b _ W hga.xat).mono ?_
 rintro r wa ⟨rfl, h1, h2⟩
 obtain ⟨v1, v2, v3, v4⟩ := zHeadX_v b ⟨0, 0, .slice none 0 0, [], asked most, ⟨#[]⟩⟩
 have hga1 : GA b (w.heap.size + 1) (w.heap.size + 1 + 1) (asked most) W wa (fun p nm => nm = [] ∧ zBody (bytesOf b) (asked most) p e out used) e out used [] (zHeadX b ⟨0, 0, .slice none 0 0, [], asked most, ⟨#[]⟩⟩) := by
  refine ⟨h1, v1, v2, v4, wrt_nil h2 rfl, ?_⟩
  rcases zHead_end b ⟨0, 0, .slice none 0 0, [], asked most, ⟨#[]⟩⟩ rfl rfl hr with ⟨k1, k2⟩ | ⟨k1, k2, k3, k4⟩
  ·exact .inl ⟨k1, [], v3, rfl, k2⟩
  ·exact .inr ⟨k1, [], v3, k2, k3, k4, rfl⟩
 refine ⟨rfl, (hga1.blocks hT (asked_le most) (T := fun q o nm => nm = [] ∧ ([] : List Nat) = [] ∧ zTail (bytesOf b) q o e out used) (fun p nm h => ?_)).mono ?_⟩
 ·obtain ⟨rfl, n, e1, o1, q1, hr1, hif⟩ := h
  refine ⟨n, e1, o1, q1, hr1, ?_⟩
  by_cases he : e1 = 0
  ·rw [if_pos he] at hif ⊢
   exact ⟨rfl, rfl, hif⟩
  ·rw [if_neg he] at hif ⊢
   exact ⟨hif.1, hif.2.1, hif.2.2, rfl⟩
 ·rintro r wb ⟨rfl, s2, hgb⟩
  refine ⟨rfl, (hgb.zlib (by omega)).mono ?_⟩
  rintro r w1 ⟨rfl, s', hge⟩
  exact ⟨rfl, s', hge.ue hrs hst⟩
theorem unpackX1 (e : Nat) (most : Int) (b : ByteArray) (out : List Nat) (used : Nat) (w : World) (hT : ToldXSaid) (hb : b.size ≤ 140737488351232) (hr : zAll (bytesOf b) (asked most) e out used) (hu : e ≠ 0 → used = 0) :
  Calls Tryz.prog 67 #[.int .i64 1, .string b, .int .i64 most] w
   fun r w' => ∃ v', r = .returned (.agg #[.int .i64 (e : Nat), v', .int .i64 (used : Nat), .string (baOf [])]) ∧ w'.ownsRow w.heap.size 5 1 v' out.length (u8s out) ∧ Step (fun _ => False) w w' := by
 have HST := hide (fun M hM W hW => chain1 e most M b out used w hT hb hr hM W hW)
 have HU := hide hu
 clear hr hu
 go_enter Tryz.func67, Tryz.ntmps67
 rcases most_cases most with ⟨h0, ha⟩ | ⟨h0, h2, ha⟩ | ⟨h0, h2, ha⟩
 all_goals
  have HC := hide (unhide HST _ ha _ rfl)
  clear HST ha
  go_wp2_with fail
  refine (unhide HC).mono ?_
  rintro r wa ⟨rfl, hca⟩
  have HCA := hide hca
  clear HC hca
  go_wp2_with fail
  refine (unhide HCA).mono ?_
  rintro r wb ⟨rfl, hcb⟩
  have HCB := hide hcb
  clear HCA hcb
  go_wp2_with fail
  refine (unhide HCB).mono ?_
  rintro r w1 ⟨rfl, s', hd⟩
  clear HCB
  obtain ⟨c0, c1, c2, c3, c4, c5⟩ := hd.xat.cell
  obtain ⟨va, vc, hv⟩ := hd.xat.vslice
  rw [hv] at c3
  rw [hd.fin.2.2.2] at c5
  rw [hd.fin.1] at c2
  have hrl := lt_of_block hd.res
  have hxl := lt_of_block hd.xat.blk
  have q0 : w1.cell? ⟨w.heap.size, 0, none⟩ = some (.int .i64 0) := blk_cell hd.res 0 _ rfl
  have q1 : w1.cell? ⟨w.heap.size, 1, none⟩ = some (.slice none 0 0) := blk_cell hd.res 1 _ rfl
  have q2 : w1.cell? ⟨w.heap.size, 2, none⟩ = some (.int .i64 0) := blk_cell hd.res 2 _ rfl
  have q3 : w1.cell? ⟨w.heap.size, 3, none⟩ = some (.string ⟨#[]⟩) := blk_cell hd.res 3 _ rfl
  have g0 := blk_free hd.res 0
  have g1 := blk_free hd.res 1
  have g2 := blk_free hd.res 2
  have g3 := blk_free hd.res 3
  obtain ⟨len, hlen⟩ : ∃ len, len = s'.out.length := ⟨_, rfl⟩
  rw [← hlen] at c3 hv
  have HLEN := hide hlen
  have HV := hide hv
  have HD := hide hd
  have hth := hd.xat.there
  clear hd hlen hv
  by_cases he : e = 0
  ·have he' : ((e : Int) == 0) = true := beq_iff_eq.2 (by omega)
   go_wp2_with fail
   go_region
   go_wp2_with fail
   refine bodyPost_ret (v := .agg #[.int .i64 0, .slice va len vc, .int .i64 ((s'.at_ : Int) / 8), .string (baOf [])]) (by simp [results, Tryz.results67, go_sem, q0, q1, q2, q3, hrl]) rfl ⟨.slice va len vc, ?_, (unhide HD).row (unhide HV) _ _ _ _ _, (unhide HD).far _ _ _ _ _⟩
   have h9 := (unhide HD).fin.2.2.1 he
   rw [he, show ((s'.at_ : Int) / 8) = ((used : Nat) : Int) by rw [h9]; omega]
   rfl
  ·have he' : ((e : Int) == 0) = false := beq_eq_false_iff_ne.2 (by omega)
   go_wp2_with fail
   go_region
   go_wp2_with fail
   refine bodyPost_ret (v := .agg #[.int .i64 (e : Nat), .slice va len vc, .int .i64 0, .string (baOf [])]) (by simp [results, Tryz.results67, go_sem, q0, q1, q2, q3, hrl]) rfl ⟨.slice va len vc, ?_, (unhide HD).row (unhide HV) _ _ _ _ _, (unhide HD).far _ _ _ _ _⟩
   rw [unhide HU he]
   rfl
theorem chain2 (e : Nat) (most M : Int) (b : ByteArray) (out : List Nat) (used : Nat) (name : List Nat) (w : World) (hT : ToldXSaid) (hb : b.size ≤ 140737488351232) (hr : gzAll (bytesOf b) (asked most) e out used name) (hM : M = (asked most : Nat)) (W : World) (hW : W = ((w.alloc (.cells #[.int .i64 0, .slice none 0 0, .int .i64 0, .string ⟨#[]⟩] 45)).alloc (.cells #[.string b, .int .i64 0, .int .i64 0, .slice none 0 0, .int .i64 M, .string ⟨#[]⟩] 167))) :
  Calls Tryz.prog 114 #[.pointer (some ⟨w.heap.size + 1, 0, none⟩)] W fun r wa => r = .returned (.tuple #[]) ∧ Calls Tryz.prog 111 #[.pointer (some ⟨w.heap.size + 1, 0, none⟩)] wa fun r wb => r = .returned (.tuple #[]) ∧ Calls Tryz.prog 115 #[.pointer (some ⟨w.heap.size + 1, 0, none⟩)] wb fun r w1 => r = .returned (.tuple #[]) ∧ ∃ s', UE w w1 b e out used name s' := by
 obtain ⟨hga, hz, hrs, hst⟩ := refStart most M b w (GkXM b (asked most) 0 e out used name) e out used name hb hM ⟨rfl, rfl, hr⟩ W hW
 refine (gzipHeadX_any _ _ (asked most) e used b out name _ W hga).mono ?_
 rintro r wa ⟨rfl, s1, hga1⟩
 refine ⟨rfl, (hga1.blocks hT (asked_le most) (T := fun q o nm => gzTail (bytesOf b) q o nm e out used name) (fun p nm h => h)).mono ?_⟩
 rintro r wb ⟨rfl, s2, hgb⟩
 refine ⟨rfl, (hgb.gzip (by omega)).mono ?_⟩
 rintro r w1 ⟨rfl, s', hge⟩
 exact ⟨rfl, s', hge.ue hrs hst⟩
theorem unpackX2 (e : Nat) (most : Int) (b : ByteArray) (out : List Nat) (used : Nat) (name : List Nat) (w : World) (hT : ToldXSaid) (hb : b.size ≤ 140737488351232) (hr : gzAll (bytesOf b) (asked most) e out used name) (hu : e ≠ 0 → used = 0) :
  Calls Tryz.prog 67 #[.int .i64 2, .string b, .int .i64 most] w
   fun r w' => ∃ v', r = .returned (.agg #[.int .i64 (e : Nat), v', .int .i64 (used : Nat), .string (baOf name)]) ∧ w'.ownsRow w.heap.size 5 1 v' out.length (u8s out) ∧ Step (fun _ => False) w w' := by
 have HST := hide (fun M hM W hW => chain2 e most M b out used name w hT hb hr hM W hW)
 have HU := hide hu
 clear hr hu
 go_enter Tryz.func67, Tryz.ntmps67
 rcases most_cases most with ⟨h0, ha⟩ | ⟨h0, h2, ha⟩ | ⟨h0, h2, ha⟩
 all_goals
  have HC := hide (unhide HST _ ha _ rfl)
  clear HST ha
  go_wp2_with fail
  refine (unhide HC).mono ?_
  rintro r wa ⟨rfl, hca⟩
  have HCA := hide hca
  clear HC hca
  go_wp2_with fail
  refine (unhide HCA).mono ?_
  rintro r wb ⟨rfl, hcb⟩
  have HCB := hide hcb
  clear HCA hcb
  go_wp2_with fail
  refine (unhide HCB).mono ?_
  rintro r w1 ⟨rfl, s', hd⟩
  clear HCB
  obtain ⟨c0, c1, c2, c3, c4, c5⟩ := hd.xat.cell
  obtain ⟨va, vc, hv⟩ := hd.xat.vslice
  rw [hv] at c3
  rw [hd.fin.2.2.2] at c5
  rw [hd.fin.1] at c2
  have hrl := lt_of_block hd.res
  have hxl := lt_of_block hd.xat.blk
  have q0 : w1.cell? ⟨w.heap.size, 0, none⟩ = some (.int .i64 0) := blk_cell hd.res 0 _ rfl
  have q1 : w1.cell? ⟨w.heap.size, 1, none⟩ = some (.slice none 0 0) := blk_cell hd.res 1 _ rfl
  have q2 : w1.cell? ⟨w.heap.size, 2, none⟩ = some (.int .i64 0) := blk_cell hd.res 2 _ rfl
  have q3 : w1.cell? ⟨w.heap.size, 3, none⟩ = some (.string ⟨#[]⟩) := blk_cell hd.res 3 _ rfl
  have g0 := blk_free hd.res 0
  have g1 := blk_free hd.res 1
  have g2 := blk_free hd.res 2
  have g3 := blk_free hd.res 3
  obtain ⟨len, hlen⟩ : ∃ len, len = s'.out.length := ⟨_, rfl⟩
  rw [← hlen] at c3 hv
  have HLEN := hide hlen
  have HV := hide hv
  have HD := hide hd
  have hth := hd.xat.there
  clear hd hlen hv
  by_cases he : e = 0
  ·have he' : ((e : Int) == 0) = true := beq_iff_eq.2 (by omega)
   go_wp2_with fail
   go_region
   go_wp2_with fail
   refine bodyPost_ret (v := .agg #[.int .i64 0, .slice va len vc, .int .i64 ((s'.at_ : Int) / 8), .string (baOf name)]) (by simp [results, Tryz.results67, go_sem, q0, q1, q2, q3, hrl]) rfl ⟨.slice va len vc, ?_, (unhide HD).row (unhide HV) _ _ _ _ _, (unhide HD).far _ _ _ _ _⟩
   have h9 := (unhide HD).fin.2.2.1 he
   rw [he, show ((s'.at_ : Int) / 8) = ((used : Nat) : Int) by rw [h9]; omega]
   rfl
  ·have he' : ((e : Int) == 0) = false := beq_eq_false_iff_ne.2 (by omega)
   go_wp2_with fail
   go_region
   go_wp2_with fail
   refine bodyPost_ret (v := .agg #[.int .i64 (e : Nat), .slice va len vc, .int .i64 0, .string (baOf name)]) (by simp [results, Tryz.results67, go_sem, q0, q1, q2, q3, hrl]) rfl ⟨.slice va len vc, ?_, (unhide HD).row (unhide HV) _ _ _ _ _, (unhide HD).far _ _ _ _ _⟩
   rw [unhide HU he]
   rfl
end Go.Proofs.YtbpahojchgpdnaaGreatDoor
namespace Go.Proofs.YtbpahojchgpdnaaGreatDoor
open Go.RowKit Go.Bel Go.Maps
theorem unpackXNo (kind : Int) (most : Int) (b : ByteArray) (w : World) (h0 : ¬ kind = 0) (h1 : ¬ kind = 1) (h2 : ¬ kind = 2) :
  Calls Tryz.prog 67 #[.int .i64 kind, .string b, .int .i64 most] w
   fun r w' => r = .returned (.agg #[.int .i64 ((1 : Nat) : Int), .slice none 0 0, .int .i64 ((0 : Nat) : Int), .string ⟨#[]⟩]) ∧ Step (fun _ => False) w w' := by
 have b0 : (kind == 0) = false := beq_eq_false_iff_ne.2 h0
 have b1 : (kind == 1) = false := beq_eq_false_iff_ne.2 h1
 have b2 : (kind == 2) = false := beq_eq_false_iff_ne.2 h2
 clear h0 h1 h2
 go_enter Tryz.func67, Tryz.ntmps67
 rcases most_cases most with ⟨h0, ha⟩ | ⟨h0, h2, ha⟩ | ⟨h0, h2, ha⟩
 all_goals
  clear ha
  go_wp2_with fail
  have hq : ∀ o, ((w.alloc (.cells #[.int .i64 1, .slice none 0 0, .int .i64 0, .string ⟨#[]⟩] 45)).alloc o).heap[w.heap.size]? = some (.cells #[.int .i64 1, .slice none 0 0, .int .i64 0, .string ⟨#[]⟩] 45 (0, 0)) := fun o => (Below.heap_alloc _ _ _ (by simp)).trans (heap_alloc_new _ _)
  refine bodyPost_ret (v := .agg #[.int .i64 1, .slice none 0 0, .int .i64 0, .string ⟨#[]⟩]) ?_ rfl ⟨rfl, ((Step.refl _ _).alloc _).alloc _⟩
  have q0 := fun o => blk_cell (hq o) 0 _ rfl
  have q1 := fun o => blk_cell (hq o) 1 _ rfl
  have q2 := fun o => blk_cell (hq o) 2 _ rfl
  have q3 := fun o => blk_cell (hq o) 3 _ rfl
  simp [results, Tryz.results67, go_sem]
end Go.Proofs.YtbpahojchgpdnaaGreatDoor
