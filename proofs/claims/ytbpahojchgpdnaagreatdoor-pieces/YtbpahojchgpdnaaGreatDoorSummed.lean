/- Proved here: the sum and the check of bytes, as plain functions, and how large they are; nothing of the program. -/
import Derived.Laws.BitsAllLaws
import Derived.Deep.LoopGhost
import Derived.Test.YtbpahojchgpdnaaGreatDoorFrame
set_option maxRecDepth 20000
set_option maxHeartbeats 4000000
namespace Go.Bel
open Go Go.RowKit
def adStep (p : Nat × Nat) (x : Nat) : Nat × Nat := ((p.1 + x) % 65521, (p.2 + (p.1 + x) % 65521) % 65521)
def adFold (p : Nat × Nat) (xs : List Nat) : Nat × Nat := xs.foldl adStep p
def adWith (s : Nat) (xs : List Nat) : Nat := 65536 * (adFold (s % 65536, s / 65536) xs).2 + (adFold (s % 65536, s / 65536) xs).1
theorem adFold_snoc (p : Nat × Nat) (xs : List Nat) (x : Nat) : adFold p (xs ++ [x]) = adStep (adFold p xs) x := by simp [adFold]
theorem adFold_lt (p : Nat × Nat) (h1 : p.1 < 65536) (h2 : p.2 < 65536) (xs : List Nat) : (adFold p xs).1 < 65536 ∧ (adFold p xs).2 < 65536 := by
 induction xs generalizing p with
 | nil => exact ⟨h1, h2⟩
 | cons x r ih =>
  show (adFold (adStep p x) r).1 < 65536 ∧ (adFold (adStep p x) r).2 < 65536
  exact ih _ (by unfold adStep; dsimp only; omega) (by unfold adStep; dsimp only; omega)
theorem adWith_lt (s : Nat) (h : s < 4294967296) (xs : List Nat) : adWith s xs < 4294967296 := by
 obtain ⟨h1, h2⟩ := adFold_lt (s % 65536, s / 65536) (by dsimp only; omega) (by dsimp only; omega) xs
 unfold adWith
 omega
def crcBit (c : Nat) : Nat := c / 2 ^^^ c % 2 * 3988292384
def crcBits : Nat → Nat → Nat
 | 0, c => c
 | n + 1, c => crcBit (crcBits n c)
def crcByte (c x : Nat) : Nat := crcBits 8 (c ^^^ x)
def crcFold (c : Nat) (xs : List Nat) : Nat := xs.foldl crcByte c
def crcWith (c : Nat) (xs : List Nat) : Nat := 4294967295 - crcFold (4294967295 - c) xs
theorem crcBit_lt (c : Nat) (h : c < 4294967296) : crcBit c < 4294967296 := by
 have : crcBit c < 2 ^ 32 := by
  unfold crcBit
  refine Nat.xor_lt_two_pow (by omega) ?_
  exact Nat.lt_of_le_of_lt (Nat.mul_le_mul_right 3988292384 (show c % 2 ≤ 1 by omega)) (by decide)
 omega
theorem crcBits_lt (n c : Nat) (h : c < 4294967296) : crcBits n c < 4294967296 := by
 induction n with
 | zero => exact h
 | succ n ih => exact crcBit_lt _ ih
theorem crcXor_lt (c x : Nat) (h : c < 4294967296) (hx : x < 256) : c ^^^ x < 4294967296 := by
 have : c ^^^ x < 2 ^ 32 := Nat.xor_lt_two_pow (by omega) (by omega)
 omega
theorem crcByte_lt (c x : Nat) (h : c < 4294967296) (hx : x < 256) : crcByte c x < 4294967296 := crcBits_lt _ _ (crcXor_lt c x h hx)
theorem crcFold_snoc (c : Nat) (xs : List Nat) (x : Nat) : crcFold c (xs ++ [x]) = crcByte (crcFold c xs) x := by simp [crcFold]
theorem crcFold_append (c : Nat) (xs ys : List Nat) : crcFold c (xs ++ ys) = crcFold (crcFold c xs) ys := by simp [crcFold]
theorem crcFold_lt (c : Nat) (xs : List Nat) (h : c < 4294967296) (hx : ∀ x ∈ xs, x < 256) : crcFold c xs < 4294967296 := by
 induction xs generalizing c with
 | nil => exact h
 | cons x r ih => exact ih _ (crcByte_lt c x h (hx x (by simp))) (fun y hy => hx y (by simp [hy]))
theorem crcWith_lt (c : Nat) (xs : List Nat) : crcWith c xs < 4294967296 := by unfold crcWith; omega
theorem crcWith_append (c : Nat) (xs ys : List Nat) (hx : ∀ x ∈ xs, x < 256) : crcWith c (xs ++ ys) = crcWith (crcWith c xs) ys := by
 have h := crcFold_lt (4294967295 - c) xs (by omega) hx
 unfold crcWith
 rw [crcFold_append, show 4294967295 - (4294967295 - crcFold (4294967295 - c) xs) = crcFold (4294967295 - c) xs by omega]
end Go.Bel
namespace Go.Proofs.YtbpahojchgpdnaaGreatDoor
open Go.RowKit Go.Bel
def BytesV (w : World) (v : Value) (ys : List Nat) : Prop :=
 (∃ a c, v = .slice a 0 c ∧ ys = []) ∨ ∃ k off cap, v = .slice (some ⟨k, off, none⟩) ys.length cap ∧ Lies w k off ys
theorem sumWith_any (s : Nat) (v : Value) (ys : List Nat) (w : World) (hs : s < 4294967296) (hv : BytesV w v ys) (hy : ∀ y ∈ ys, y < 256) (hl : ys.length ≤ 140737488355328) :
  Calls Tryz.prog 92 #[.int .u32 (s : Nat), v] w fun r w' => r = .returned (.int .u32 (adWith s ys : Nat)) ∧ w' = w := by
 have hs1 : ((s : Int)).tmod 65536 = ((s % 65536 : Nat) : Int) := by rw [Int.tmod_eq_emod_of_nonneg (by omega)]; omega
 have hs2 : ((s : Int)).tdiv 65536 = ((s / 65536 : Nat) : Int) := by rw [Int.tdiv_eq_ediv_of_nonneg (by omega)]; omega
 obtain ⟨va, vc, hvs⟩ : ∃ a c, v = .slice a ys.length c := by
  rcases hv with ⟨a, c, rfl, rfl⟩ | ⟨k, off, cap, rfl, _⟩
  ·exact ⟨a, c, rfl⟩
  ·exact ⟨_, _, rfl⟩
 have HV := hide hv
 have HVS := hide hvs
 have HY := hide hy
 clear hv hy
 rw [hvs]
 clear hvs
 go_enter Tryz.func92, Tryz.ntmps92
 go_wp2_with fail
 go_loopg [5, 6, 8, 15] ys.length (fun k u5 u6 u8 u15 wr => ∃ i : Nat, u15 = .int .i64 (i : Nat) ∧ k + i = ys.length ∧ u5 = .int .u32 ((adFold (s % 65536, s / 65536) (ys.take i)).1 : Nat) ∧ u6 = .int .u32 ((adFold (s % 65536, s / 65536) (ys.take i)).2 : Nat) ∧ wr = w)
 case atStart => exact ⟨0, rfl, by omega, by simp [adFold], by simp [adFold], rfl⟩
 case round =>
  obtain ⟨i, rfl, hk, rfl, rfl, rfl⟩ := hrel
  obtain ⟨b1, b2⟩ := adFold_lt (s % 65536, s / 65536) (by dsimp only; omega) (by dsimp only; omega) (ys.take i)
  by_cases hend : i = ys.length
  ·have hnl : ¬ ((i : Int) < (ys.length : Int)) := by omega
   rw [hend, List.take_length] at b1 b2 ⊢
   have HE := hide (show adWith s ys = 65536 * (adFold (s % 65536, s / 65536) ys).2 + (adFold (s % 65536, s / 65536) ys).1 from rfl)
   generalize (adFold (s % 65536, s / 65536) ys).1 = A at *
   generalize (adFold (s % 65536, s / 65536) ys).2 = Bq at *
   go_wp2_with fail
   go_ret
   refine ⟨?_, rfl⟩
   rw [unhide HE]
   simp
  ·have hnl : (i : Int) < (ys.length : Int) := by omega
   have hi0 : (0 : Int) ≤ (i : Int) := by omega
   obtain ⟨k, off, rfl, hc⟩ : ∃ k off, va = some ⟨k, off, none⟩ ∧ wr.cell? ⟨k, off + i, none⟩ = some (.int .u8 (ys[i]?.getD 0 : Nat)) := by
    have h1 := unhide HVS
    rcases unhide HV with ⟨a, c, rfl, rfl⟩ | ⟨k, off, cap, rfl, hl⟩
    ·simp only [List.length_nil] at hend hk; omega
    ·cases h1
     exact ⟨k, off, rfl, hl i (by omega)⟩
   have hx : ys[i]?.getD 0 < 256 := by
    rw [List.getElem?_eq_getElem (by omega)]
    exact unhide HY _ (List.getElem_mem _)
   have HT := hide (show adFold (s % 65536, s / 65536) (ys.take (i + 1)) = adStep (adFold (s % 65536, s / 65536) (ys.take i)) (ys[i]?.getD 0) from by
    rw [List.take_succ_eq_append_getElem (by omega), adFold_snoc, List.getElem?_eq_getElem (by omega)]
    rfl)
   generalize adFold (s % 65536, s / 65536) (ys.take i) = Q at *
   generalize ys[i]?.getD 0 = x at *
   go_wp2_with fail
   go_roundg (gk - 1)
   case measure => omega
   case rel =>
    refine ⟨i + 1, rfl, by omega, ?_, ?_, rfl⟩
    ·rw [unhide HT]; simp [adStep]
    ·rw [unhide HT]; simp [adStep]
theorem not_u32 (c : Nat) (h : c < 4294967296) : bits .xor .u32 IntKind.u32.max (c : Int) = ((4294967295 - c : Nat) : Int) := by
 have e : BitVec.ofInt 32 IntKind.u32.max = BitVec.allOnes 32 := by decide
 show IntKind.u32.wrap ((BitVec.ofInt 32 IntKind.u32.max ^^^ BitVec.ofInt 32 (c : Int)).toNat : Int) = _
 rw [e, BitVec.allOnes_xor, BitVec.toNat_not, ofInt_u32 c h, IntKind.wrap_u32']
 omega
theorem crcBit_u32 (c : Nat) (h : c < 4294967296) : bits .xor .u32 ((c : Int) / 2) ((c : Int) % 2 * 3988292384) = ((crcBit c : Nat) : Int) := by
 have e : (c : Int) % 2 * 3988292384 = ((c % 2 * 3988292384 : Nat) : Int) := by omega
 rw [e, show (c : Int) / 2 = ((c / 2 : Nat) : Int) by omega, u32_xor_nat _ _ (by omega) (by omega)]
 rfl
theorem checkWith_any (c : Nat) (v : Value) (ys : List Nat) (w : World) (hs : c < 4294967296) (hv : BytesV w v ys) (hy : ∀ y ∈ ys, y < 256) (hl : ys.length ≤ 140737488355328) :
  Calls Tryz.prog 94 #[.int .u32 (c : Nat), v] w fun r w' => r = .returned (.int .u32 (crcWith c ys : Nat)) ∧ w' = w := by
 obtain ⟨va, vc, hvs⟩ : ∃ a c, v = .slice a ys.length c := by
  rcases hv with ⟨a, c, rfl, rfl⟩ | ⟨k, off, cap, rfl, _⟩
  ·exact ⟨a, c, rfl⟩
  ·exact ⟨_, _, rfl⟩
 have HV := hide hv
 have HVS := hide hvs
 have HY := hide hy
 clear hv hy
 rw [hvs]
 clear hvs
 go_enter Tryz.func94, Tryz.ntmps94
 go_wp2_with fail
 rw [not_u32 c hs]
 go_loopg [0, 6, 11, 19] ys.length (fun k u0 u6 u11 u19 wr => ∃ i : Nat, u11 = .int .i64 (i : Nat) ∧ k + i = ys.length ∧ u0 = .int .u32 (crcFold (4294967295 - c) (ys.take i) : Nat) ∧ wr = w)
 case atStart => exact ⟨0, rfl, by omega, rfl, rfl⟩
 case round =>
  obtain ⟨i, rfl, hk, rfl, rfl⟩ := hrel
  have b1 : crcFold (4294967295 - c) (ys.take i) < 4294967296 := crcFold_lt _ _ (by omega) (fun y hy => unhide HY y (List.mem_of_mem_take hy))
  by_cases hend : i = ys.length
  ·have hnl : ¬ ((i : Int) < (ys.length : Int)) := by omega
   rw [hend, List.take_length] at b1 ⊢
   have HE := hide (show crcWith c ys = 4294967295 - crcFold (4294967295 - c) ys from rfl)
   generalize crcFold (4294967295 - c) ys = Q at *
   have hn := not_u32 Q b1
   go_wp2_with fail
   go_ret
   refine ⟨?_, rfl⟩
   rw [unhide HE]
   rfl
  ·have hnl : (i : Int) < (ys.length : Int) := by omega
   have hi0 : (0 : Int) ≤ (i : Int) := by omega
   obtain ⟨k, off, rfl, hc⟩ : ∃ k off, va = some ⟨k, off, none⟩ ∧ wr.cell? ⟨k, off + i, none⟩ = some (.int .u8 (ys[i]?.getD 0 : Nat)) := by
    have h1 := unhide HVS
    rcases unhide HV with ⟨a, c, rfl, rfl⟩ | ⟨k, off, cap, rfl, hl⟩
    ·simp only [List.length_nil] at hend hk; omega
    ·cases h1
     exact ⟨k, off, rfl, hl i (by omega)⟩
   have hx : ys[i]?.getD 0 < 256 := by
    rw [List.getElem?_eq_getElem (by omega)]
    exact unhide HY _ (List.getElem_mem _)
   have HT := hide (show crcFold (4294967295 - c) (ys.take (i + 1)) = crcBits 8 (crcFold (4294967295 - c) (ys.take i) ^^^ ys[i]?.getD 0) from by
    rw [List.take_succ_eq_append_getElem (by omega), crcFold_snoc, List.getElem?_eq_getElem (by omega)]
    rfl)
   generalize crcFold (4294967295 - c) (ys.take i) = Q at *
   generalize ys[i]?.getD 0 = x at *
   have e1 := u32_xor_nat Q x b1 (by omega)
   have b2 := crcXor_lt Q x b1 hx
   have hx2 : (x : Int) < 4294967296 := by omega
   go_wp2_with fail
   clear e1
   generalize Q ^^^ x = C0 at *
   go_loopg [0, 19] 8 (fun k u0 u19 wr2 => ∃ j : Nat, u19 = .int .i64 (j : Nat) ∧ k + j = 8 ∧ u0 = .int .u32 (crcBits j C0 : Nat) ∧ wr2 = wr)
   case atStart => exact ⟨0, rfl, by omega, rfl, rfl⟩
   case round =>
    obtain ⟨j, rfl, hkj, rfl, rfl⟩ := hrel
    by_cases hj : j = 8
    ·subst hj
     go_wp2_with fail
     go_roundg (ys.length - (i + 1))
     case measure => omega
     case rel => exact ⟨i + 1, rfl, by omega, by rw [unhide HT], rfl⟩
    ·have hj8 : (j : Int) < 8 := by omega
     have b3 := crcBits_lt j C0 b2
     have e2 := crcBit_u32 (crcBits j C0) b3
     have HT2 := hide (show crcBits (j + 1) C0 = crcBit (crcBits j C0) from rfl)
     generalize crcBits j C0 = C at *
     go_wp2_with fail
     go_roundg (gk - 1)
     case measure => omega
     case rel => exact ⟨j + 1, rfl, by omega, by rw [unhide HT2], rfl⟩
end Go.Proofs.YtbpahojchgpdnaaGreatDoor
namespace Go.Proofs.YtbpahojchgpdnaaGreatDoor
open Go.RowKit Go.Bel
def zOk1 (c : Nat) : Prop := c % 16 = 8 ∧ c / 16 ≤ 7
def zOk2 (c f : Nat) : Prop := f / 32 % 2 = 0 ∧ (256 * c + f) % 31 = 0
instance (c : Nat) : Decidable (zOk1 c) := by unfold zOk1; infer_instance
instance (c f : Nat) : Decidable (zOk2 c f) := by unfold zOk2; infer_instance
def bigAt (B : List Nat) (p : Nat) : Nat → Nat
 | 0 => 0
 | n + 1 => 256 * bigAt B p n + numAt B (p + 8 * n) 8
theorem bigAt_lt (B : List Nat) (p n : Nat) : bigAt B p n < 256 ^ n := by
 induction n with
 | zero => simp [bigAt]
 | succ n ih =>
  have h := numAt_lt B (p + 8 * n) 8
  unfold bigAt
  rw [Nat.pow_succ]
  omega
end Go.Proofs.YtbpahojchgpdnaaGreatDoor
namespace Go.Bel
def AllB (xs : List Nat) : Prop := ∀ y ∈ xs, y < 256
theorem AllB.append {xs ys : List Nat} (h : AllB xs) (k : AllB ys) : AllB (xs ++ ys) := fun y hy => (List.mem_append.1 hy).elim (h y) (k y)
theorem AllB.take {xs : List Nat} (h : AllB xs) (n : Nat) : AllB (xs.take n) := fun y hy => h y (List.mem_of_mem_take hy)
theorem AllB.copied {xs : List Nat} (h : AllB xs) (d n : Nat) : AllB (copied xs d n) := by
 intro y hy
 obtain ⟨i, _, rfl⟩ := List.mem_map.1 hy
 by_cases hi : xs.length - d + i % d < xs.length
 ·rw [List.getElem?_eq_getElem hi]
  exact h _ (List.getElem_mem hi)
 ·rw [List.getElem?_eq_none (by omega)]
  decide
def Keep (g : G) : Prop := (∀ s', g = .go s' → AllB s'.out ∧ (s'.place = 3 → s'.p % 8 = 0)) ∧ (∀ e out, g = .no e out → AllB out)
theorem gPut_keep {s : GS} {xs : List Nat} {p : Nat} (h : AllB s.out) (hx : AllB xs) (h3 : s.place ≠ 3) : Keep (gPut s xs p) := by
 constructor
 ·intro s' hp
  obtain ⟨rfl, hle⟩ := gPut_go hp
  exact ⟨h.append hx, fun x => absurd x h3⟩
 ·intro e out hp
  unfold gPut at hp
  split at hp
  ·cases hp
  ·cases hp
   exact h.append (hx.take _)
theorem gStep_keep {B : List Nat} {s : GS} (h : AllB s.out) (h3 : s.place ≠ 3) : Keep (gStep B s) := by
 have he : ∀ p, AllB (s.ended p).out ∧ ((s.ended p).place = 3 → (s.ended p).p % 8 = 0) := fun p => ⟨h, fun x => by
  unfold GS.ended at x ⊢
  dsimp only at x ⊢
  split at x
  ·rename_i hl
   rw [if_pos hl]
   omega
  ·omega⟩
 have no : ∀ e, Keep (.no e s.out) := fun e => ⟨fun s' hs => (by cases hs), fun e' out hs => by cases hs; exact h⟩
 have miss : Keep .miss := ⟨fun s' hs => (by cases hs), fun e' out hs => by cases hs⟩
 have go : ∀ s' : GS, s'.out = s.out → s'.place ≠ 3 → Keep (.go s') := fun s' ho hp => ⟨fun s2 hs => (by cases hs; exact ⟨by rw [ho]; exact h, fun x => absurd x hp⟩), fun e' out hs => by cases hs⟩
 have ends : ∀ p, Keep (.go (s.ended p)) := fun p => ⟨fun s2 hs => (by cases hs; exact he p), fun e' out hs => by cases hs⟩
 unfold gStep
 split
 ·unfold gByte
  split
  ·exact ends _
  ·split
   ·exact gPut_keep (s := { s with left := s.left - 1 }) h (by intro y hy; simp at hy; subst hy; exact numAt_lt B s.p 8) h3
   ·exact miss
 ·split
  ·unfold gSym
   split
   ·exact no _
   ·exact miss
   ·split
    ·rename_i hc
     exact gPut_keep h (by intro y hy; simp at hy; subst hy; exact hc) h3
    ·split
     ·exact ends _
     ·unfold gCopy
      split
      ·exact no _
      ·exact miss
      ·split
       ·exact no _
       ·exact miss
       ·split
        ·exact no _
        ·exact gPut_keep h (h.copied _ _) h3
  ·unfold gHead
   split
   ·split
    ·split
     ·split
      ·exact go _ rfl (by dsimp only; omega)
      ·exact no _
     ·exact miss
    ·split
     ·exact go _ rfl (by dsimp only; omega)
     ·split
      ·split
       ·exact go _ rfl (by dsimp only; omega)
       ·exact no _
       ·exact miss
      ·exact no _
   ·exact miss
theorem GRun.bytes {B : List Nat} {n e : Nat} {s : GS} {out : List Nat} {q : Nat} (hr : GRun B n s e out q) (h : AllB s.out) (h3 : s.place = 3 → s.p % 8 = 0) : AllB out ∧ q % 8 = 0 := by
 induction hr with
 | done s hp => exact ⟨h, h3 hp⟩
 | no s e out hp hg => exact ⟨(gStep_keep h hp).2 e out hg, rfl⟩
 | miss s hp hg => exact ⟨h, rfl⟩
 | go n s s1 e out q hp hg k ih =>
  have h1 := (gStep_keep h hp).1 s1 hg
  exact ih h1.1 h1.2
end Go.Bel
