/-  -/
import Derived.Test.YtbpahojchgpdnaaGreatDoorAgain
import Derived.Test.YtbpahojchgpdnaaGreatDoorMarksD
import Derived.Test.YtbpahojchgpdnaaGreatDoorOwn
import Derived.Test.YtbpahojchgpdnaaGreatDoorNames
import Derived.Lib.SlBytesConst
import Derived.Deep.DeepCutAuto
/- Proved here: a wrapping with other bytes at its end than it must have, plain; nothing of the program. -/
namespace Go.Proofs.YtbpahojchgpdnaaGreatDoor
open Go.RowKit Go.Bel Go.Maps
theorem num_four (A C : List Nat) (t0 t1 t2 t3 : Nat) (h0 : t0 < 256) (h1 : t1 < 256) (h2 : t2 < 256) (h3 : t3 < 256) : numAt (A ++ ([t0, t1, t2, t3] ++ C)) (8 * A.length) 32 = t0 + 256 * t1 + 65536 * t2 + 16777216 * t3 := by
 have e : [t0, t1, t2, t3] = le4 (t0 + 256 * t1 + 65536 * t2 + 16777216 * t3) := by
  unfold le4
  rw [show (t0 + 256 * t1 + 65536 * t2 + 16777216 * t3) % 256 = t0 by omega, show (t0 + 256 * t1 + 65536 * t2 + 16777216 * t3) / 256 % 256 = t1 by omega, show (t0 + 256 * t1 + 65536 * t2 + 16777216 * t3) / 65536 % 256 = t2 by omega, show (t0 + 256 * t1 + 65536 * t2 + 16777216 * t3) / 16777216 % 256 = t3 by omega]
 rw [e, num_le4 _ _ _ (by omega)]
theorem big_four (A C : List Nat) (t0 t1 t2 t3 : Nat) (h0 : t0 < 256) (h1 : t1 < 256) (h2 : t2 < 256) (h3 : t3 < 256) : bigAt (A ++ ([t0, t1, t2, t3] ++ C)) (8 * A.length) 4 = t3 + 256 * t2 + 65536 * t1 + 16777216 * t0 := by
 have e : [t0, t1, t2, t3] = be4 (t3 + 256 * t2 + 65536 * t1 + 16777216 * t0) := by
  unfold be4
  rw [show (t3 + 256 * t2 + 65536 * t1 + 16777216 * t0) % 256 = t3 by omega, show (t3 + 256 * t2 + 65536 * t1 + 16777216 * t0) / 256 % 256 = t2 by omega, show (t3 + 256 * t2 + 65536 * t1 + 16777216 * t0) / 65536 % 256 = t1 by omega, show (t3 + 256 * t2 + 65536 * t1 + 16777216 * t0) / 16777216 = t0 by omega]
 rw [e, big_be4 _ _ _ (by omega)]
/- four bytes that are not those of a number make another number -/
theorem le4_ne {x t0 t1 t2 t3 : Nat} (hx : x < 4294967296) (h : [t0, t1, t2, t3] ≠ le4 x) (h0 : t0 < 256) (h1 : t1 < 256) (h2 : t2 < 256) (h3 : t3 < 256) : t0 + 256 * t1 + 65536 * t2 + 16777216 * t3 ≠ x := fun e => h (by
 subst e
 unfold le4
 rw [show (t0 + 256 * t1 + 65536 * t2 + 16777216 * t3) % 256 = t0 by omega, show (t0 + 256 * t1 + 65536 * t2 + 16777216 * t3) / 256 % 256 = t1 by omega, show (t0 + 256 * t1 + 65536 * t2 + 16777216 * t3) / 65536 % 256 = t2 by omega, show (t0 + 256 * t1 + 65536 * t2 + 16777216 * t3) / 16777216 % 256 = t3 by omega])
theorem be4_ne {x t0 t1 t2 t3 : Nat} (hx : x < 4294967296) (h : [t0, t1, t2, t3] ≠ be4 x) (_h0 : t0 < 256) (h1 : t1 < 256) (h2 : t2 < 256) (h3 : t3 < 256) : t3 + 256 * t2 + 65536 * t1 + 16777216 * t0 ≠ x := fun e => h (by
 subst e
 unfold be4
 rw [show (t3 + 256 * t2 + 65536 * t1 + 16777216 * t0) % 256 = t3 by omega, show (t3 + 256 * t2 + 65536 * t1 + 16777216 * t0) / 256 % 256 = t2 by omega, show (t3 + 256 * t2 + 65536 * t1 + 16777216 * t0) / 65536 % 256 = t1 by omega, show (t3 + 256 * t2 + 65536 * t1 + 16777216 * t0) / 16777216 = t0 by omega])
theorem four_of {T : List Nat} (h : T.length = 4) : ∃ t0 t1 t2 t3, T = [t0, t1, t2, t3] := by
 match T, h with
 | [a, b, c, d], _ => exact ⟨a, b, c, d, rfl⟩
theorem z_turn {P ys T : List Nat} {most : Nat} (hR : ReadsAs P ys) (hT : T.length = 4) (hB : AllB ([120, 1] ++ (P ++ T))) (hne : T ≠ be4 (adWith 1 ys)) (hm : ys.length ≤ most) : zAll ([120, 1] ++ (P ++ T)) most 12 ys 0 := by
 have hr := hR [120, 1] T (all_get hB) most
 have hl2 : ([120, 1] ++ (P ++ T)).length = 2 + P.length + 4 := by simp [hT]; omega
 have n0 : numAt ([120, 1] ++ (P ++ T)) 0 8 = 120 := by rw [show 0 = 8 * 0 from rfl, num_at]; rfl
 have n1 : numAt ([120, 1] ++ (P ++ T)) 8 8 = 1 := by rw [show 8 = 8 * 1 from rfl, num_at]; rfl
 unfold zAll zSec
 rw [if_pos (by omega), n0, if_pos (by decide), if_pos (by omega), n1, if_pos (by decide)]
 obtain ⟨n, hg⟩ := hr.1 hm
 refine ⟨n, 0, ys, _, hg, ?_⟩
 rw [if_pos rfl]
 unfold zTail
 obtain ⟨t0, t1, t2, t3, rfl⟩ := four_of hT
 have hb : ∀ t ∈ [t0, t1, t2, t3], t < 256 := fun t ht => hB t (by simp only [List.mem_append]; exact .inr (.inr ht))
 have n2 := big_four ([120, 1] ++ P) [] t0 t1 t2 t3 (hb _ (by simp)) (hb _ (by simp)) (hb _ (by simp)) (hb _ (by simp))
 rw [List.append_nil, List.append_assoc, List.length_append] at n2
 refine ⟨rfl, ?_⟩
 rw [if_pos (by simp at hl2 ⊢; omega), n2, if_neg (be4_ne (ad_lt ys) hne (hb _ (by simp)) (hb _ (by simp)) (hb _ (by simp)) (hb _ (by simp)))]
 exact ⟨rfl, rfl⟩
theorem g_turn_body {H P ys T U nm : List Nat} {most : Nat} (hR : ReadsAs P ys) (hT : T.length = 4) (hU : U.length = 4) (hB : AllB (H ++ (P ++ (T ++ U)))) (hy : ys.length < 4294967296) (hne : T ≠ le4 (crcWith 0 ys) ∨ U ≠ le4 ys.length) (hm : ys.length ≤ most) : gzBody (H ++ (P ++ (T ++ U))) most (8 * H.length) nm 12 ys 0 nm := by
 have hr := hR H (T ++ U) (all_get hB) most
 obtain ⟨n, hg⟩ := hr.1 hm
 refine ⟨n, 0, ys, _, hg, ?_⟩
 rw [if_pos rfl]
 obtain ⟨t0, t1, t2, t3, rfl⟩ := four_of hT
 obtain ⟨u0, u1, u2, u3, rfl⟩ := four_of hU
 have hb : ∀ t ∈ [t0, t1, t2, t3], t < 256 := fun t ht => hB t (by simp only [List.mem_append]; exact .inr (.inr (.inl ht)))
 have hb2 : ∀ t ∈ [u0, u1, u2, u3], t < 256 := fun t ht => hB t (by simp only [List.mem_append]; exact .inr (.inr (.inr ht)))
 have hl : (H ++ (P ++ ([t0, t1, t2, t3] ++ [u0, u1, u2, u3]))).length = H.length + P.length + 8 := by simp; omega
 have n1 := num_four (H ++ P) [u0, u1, u2, u3] t0 t1 t2 t3 (hb _ (by simp)) (hb _ (by simp)) (hb _ (by simp)) (hb _ (by simp))
 have n2 := num_four (H ++ P ++ [t0, t1, t2, t3]) [] u0 u1 u2 u3 (hb2 _ (by simp)) (hb2 _ (by simp)) (hb2 _ (by simp)) (hb2 _ (by simp))
 have e1 : H ++ P ++ ([t0, t1, t2, t3] ++ [u0, u1, u2, u3]) = H ++ (P ++ ([t0, t1, t2, t3] ++ [u0, u1, u2, u3])) := by simp
 have e2 : H ++ P ++ [t0, t1, t2, t3] ++ ([u0, u1, u2, u3] ++ []) = H ++ (P ++ ([t0, t1, t2, t3] ++ [u0, u1, u2, u3])) := by simp
 have e3 : 8 * (H ++ P ++ [t0, t1, t2, t3]).length = 8 * (H.length + P.length) + 32 := by simp; omega
 rw [e1, List.length_append] at n1
 rw [e2, e3] at n2
 unfold gzTail
 rw [if_pos (by rw [hl]; omega), n1]
 by_cases hc : t0 + 256 * t1 + 65536 * t2 + 16777216 * t3 = crcWith 0 ys
 ·rw [if_pos hc]
  unfold gzSize
  refine ⟨rfl, rfl, ?_⟩
  rw [if_pos (by rw [hl]; omega), n2]
  have hU2 : [u0, u1, u2, u3] ≠ le4 ys.length := by
   rcases hne with h | h
   ·exact absurd hc (le4_ne (crc_lt ys) h (hb _ (by simp)) (hb _ (by simp)) (hb _ (by simp)) (hb _ (by simp)))
   ·exact h
  rw [if_neg (le4_ne hy hU2 (hb2 _ (by simp)) (hb2 _ (by simp)) (hb2 _ (by simp)) (hb2 _ (by simp)))]
  exact ⟨rfl, rfl⟩
 ·rw [if_neg hc]
  exact ⟨rfl, rfl, rfl, rfl⟩
theorem g_turn {P ys T U : List Nat} {most : Nat} (hR : ReadsAs P ys) (hT : T.length = 4) (hU : U.length = 4) (hB : AllB (([31, 139, 8] ++ List.replicate 7 0) ++ (P ++ (T ++ U)))) (hy : ys.length < 4294967296) (hne : T ≠ le4 (crcWith 0 ys) ∨ U ≠ le4 ys.length) (hm : ys.length ≤ most) : gzAll (([31, 139, 8] ++ List.replicate 7 0) ++ (P ++ (T ++ U))) most 12 ys 0 [] :=
 gz_start (f := 0) (by simp) rfl rfl rfl rfl (by omega) (gz_plain (g_turn_body hR hT hU hB hy hne hm))
/- a bit turned -/
theorem set_ne {T : List Nat} {i x : Nat} (hi : i < T.length) (hx : x ≠ T[i]?.getD 0) : T.set i x ≠ T := fun e => hx (by
 have : (T.set i x)[i]?.getD 0 = T[i]?.getD 0 := by rw [e]
 rw [List.getElem?_set_self hi] at this
 exact this)
theorem turned_z {P ys : List Nat} {most i x : Nat} (hR : ReadsAs P ys) (hP : AllB P) (hi : i < 4) (hx : x < 256) (hne : x ≠ (aroundZ P ys)[(aroundZ P ys).length - 4 + i]?.getD 0) (hm : ys.length ≤ most) : AllB ((aroundZ P ys).set ((aroundZ P ys).length - 4 + i) x) ∧ zAll ((aroundZ P ys).set ((aroundZ P ys).length - 4 + i) x) most 12 ys 0 := by
 have hl : (aroundZ P ys).length = 2 + P.length + 4 := by simp [aroundZ, be4]; omega
 have e0 : aroundZ P ys = ([120, 1] ++ P) ++ be4 (adWith 1 ys) := rfl
 have hl2 : ([120, 1] ++ P).length = 2 + P.length := by simp; omega
 have e1 : (aroundZ P ys).set ((aroundZ P ys).length - 4 + i) x = [120, 1] ++ (P ++ (be4 (adWith 1 ys)).set i x) := by
  rw [hl, e0, List.set_append_right _ _ (by rw [hl2]; omega), hl2, show 2 + P.length + 4 - 4 + i - (2 + P.length) = i by omega, List.append_assoc]
 have hb4 : ∀ y ∈ be4 (adWith 1 ys), y < 256 := by
  have := ad_lt ys
  intro y hy
  simp only [be4, List.mem_cons, List.not_mem_nil, or_false] at hy
  omega
 have hall : AllB ([120, 1] ++ (P ++ (be4 (adWith 1 ys)).set i x)) := by
  intro y hy
  simp only [List.mem_append] at hy
  rcases hy with hy | hy | hy
  ·simp at hy; omega
  ·exact hP y hy
  ·rcases List.mem_or_eq_of_mem_set hy with hy | rfl
   ·exact hb4 y hy
   ·exact hx
 rw [e1]
 refine ⟨hall, z_turn hR (by rw [List.length_set]; rfl) hall (set_ne hi ?_) hm⟩
 rw [hl, e0, List.getElem?_append_right (by rw [hl2]; omega), hl2, show 2 + P.length + 4 - 4 + i - (2 + P.length) = i by omega] at hne
 exact hne
theorem turned_g {P ys : List Nat} {most i x : Nat} (hR : ReadsAs P ys) (hP : AllB P) (hi : i < 8) (hx : x < 256) (hy : ys.length < 4294967296) (hne : x ≠ (aroundG P ys)[(aroundG P ys).length - 8 + i]?.getD 0) (hm : ys.length ≤ most) : AllB ((aroundG P ys).set ((aroundG P ys).length - 8 + i) x) ∧ gzAll ((aroundG P ys).set ((aroundG P ys).length - 8 + i) x) most 12 ys 0 [] := by
 have hl : (aroundG P ys).length = 10 + P.length + 8 := by simp [aroundG, le4]; omega
 have e0 : aroundG P ys = (([31, 139, 8] ++ List.replicate 7 0) ++ P) ++ (le4 (crcWith 0 ys) ++ le4 ys.length) := by simp [aroundG]
 have hl2 : (([31, 139, 8] ++ List.replicate 7 0) ++ P).length = 10 + P.length := by simp; omega
 have hb4 : ∀ x y, y ∈ le4 x → y < 256 := by
  intro x y hy
  simp only [le4, List.mem_cons, List.not_mem_nil, or_false] at hy
  omega
 rw [hl, e0, List.getElem?_append_right (by rw [hl2]; omega), hl2, show 10 + P.length + 8 - 8 + i - (10 + P.length) = i by omega] at hne
 rw [hl, e0, List.set_append_right _ _ (by rw [hl2]; omega), hl2, show 10 + P.length + 8 - 8 + i - (10 + P.length) = i by omega]
 have fin : ∀ T U : List Nat, T.length = 4 → U.length = 4 → (∀ y ∈ T, y < 256) → (∀ y ∈ U, y < 256) → (T ≠ le4 (crcWith 0 ys) ∨ U ≠ le4 ys.length) → AllB (([31, 139, 8] ++ List.replicate 7 0) ++ P ++ (T ++ U)) ∧ gzAll (([31, 139, 8] ++ List.replicate 7 0) ++ P ++ (T ++ U)) most 12 ys 0 [] := fun T U h1 h2 h3 h4 h5 => by
  rw [List.append_assoc]
  have hall : AllB (([31, 139, 8] ++ List.replicate 7 0) ++ (P ++ (T ++ U))) := by
   intro y hy
   simp only [List.mem_append] at hy
   rcases hy with (hy | hy) | hy | hy | hy
   ·simp at hy; omega
   ·rw [List.eq_of_mem_replicate hy]; omega
   ·exact hP y hy
   ·exact h3 y hy
   ·exact h4 y hy
  exact ⟨hall, g_turn hR h1 h2 hall hy h5 hm⟩
 have hs : ∀ z j, ∀ y ∈ (le4 z).set j x, y < 256 := fun z j y hy => by
  rcases List.mem_or_eq_of_mem_set hy with hy | rfl
  ·exact hb4 _ y hy
  ·exact hx
 by_cases h4 : i < 4
 ·rw [List.set_append_left _ _ (show i < (le4 (crcWith 0 ys)).length from h4)]
  rw [List.getElem?_append_left (show i < (le4 (crcWith 0 ys)).length from h4)] at hne
  exact fin _ _ (by rw [List.length_set]; rfl) rfl (hs _ _) (hb4 _) (.inl (set_ne h4 hne))
 ·rw [List.set_append_right _ _ (show (le4 (crcWith 0 ys)).length ≤ i by show 4 ≤ i; omega)]
  rw [List.getElem?_append_right (show (le4 (crcWith 0 ys)).length ≤ i by show 4 ≤ i; omega)] at hne
  exact fin _ _ rfl (by rw [List.length_set]; rfl) (hb4 _) (hs _ _) (.inr (set_ne (show i - 4 < 4 by omega) hne))
theorem xor_turn {x b : Nat} (hx : x < 256) (hb : b < 8) : x ^^^ 2 ^ b < 256 ∧ x ^^^ 2 ^ b ≠ x := by
 refine ⟨Nat.xor_lt_two_pow (n := 8) hx (Nat.pow_lt_pow_right (by omega) hb), fun e => ?_⟩
 have h1 := congrArg (fun y => x ^^^ y) e
 simp only [← Nat.xor_assoc, Nat.xor_self, Nat.zero_xor] at h1
 have := Nat.pow_pos (n := b) (show 0 < 2 by omega)
 omega
theorem bits_xor_u8 (a b : Nat) (ha : a < 256) (hb : b < 256) : bits .xor .u8 (a : Int) (b : Int) = ((a ^^^ b : Nat) : Int) := by
 have hx : a ^^^ b < 2 ^ 8 := Nat.xor_lt_two_pow (by omega) (by omega)
 show IntKind.u8.wrap ((BitVec.ofInt 8 (a : Int) ^^^ BitVec.ofInt 8 (b : Int)).toNat : Int) = _
 rw [BitVec.toNat_xor, ofInt_nat 8 a (by omega), ofInt_nat 8 b (by omega), IntKind.wrap_u8]
 omega
end Go.Proofs.YtbpahojchgpdnaaGreatDoor
/- Proved here: any way of packing, and what Unpack answers when a bit at the end of a wrapping is turned. -/
namespace Go.Proofs.YtbpahojchgpdnaaGreatDoor
open Go.RowKit Go.Bel Go.Maps
/- the bits of any way -/
def AnyPb (way : Nat) (ys : List Nat) (bits : List Bool) : Prop := (way = 0 ∧ StoR 0 ys bits) ∨ (way = 1 ∧ FixPb ys bits) ∨ (way = 2 ∧ BestPb ys bits)
theorem any_said (way : Nat) (ys : List Nat) (hw : way ≤ 2) (hl : ys.length ≤ 1048576) : PackSaid way ys (AnyPb way ys) := by
 have h3 : way = 0 ∨ way = 1 ∨ way = 2 := by omega
 intro u w hu hO h4
 rcases h3 with rfl | rfl | rfl
 ·refine (packSaid_stored ys hl u w hu hO h4).mono ?_
  rintro e w' ⟨v', bits, h1, h2, h3⟩
  exact ⟨v', bits, h1, .inl ⟨rfl, h2⟩, h3⟩
 ·refine (packBare_fixed ys u w hu hO h4).mono ?_
  rintro e w' ⟨v', bits, h1, h2, h3⟩
  exact ⟨v', bits, h1, .inr (.inl ⟨rfl, h2⟩), h3⟩
 ·refine (packBare_best ys u w hu hO h4).mono ?_
  rintro e w' ⟨v', bits, h1, h2, h3⟩
  exact ⟨v', bits, h1, .inr (.inr ⟨rfl, h2⟩), h3⟩
theorem any_reads {way : Nat} {ys : List Nat} {bits : List Bool} {P : List Nat} (h : AnyPb way ys bits) (hy : ∀ y ∈ ys, y < 256) (hB : BitsIn bits P) (hl : P.length = (bits.length + 7) / 8) : ReadsAs P ys := by
 have hy2 : ∀ i : Nat, ys[i]?.getD 0 < 256 := all_get hy
 rcases h with ⟨_, h⟩ | ⟨_, h⟩ | ⟨_, h⟩
 ·exact sto_reads h hy hB hl
 ·exact fix_reads h hy2 hB hl
 ·exact best_reads h hy2 hB hl
theorem tolR_pos {ps : List Pc} {bits : List Bool} (h : TolR ps bits) : 3 ≤ bits.length := by
 have key : ∀ {last : Bool} {ps : List Pc} {tb : List Bool}, ToldB last ps tb → 3 ≤ tb.length := fun h => by
  obtain ⟨L1, L2, a, b, c, F, l, bits, _, _, _, _, rfl⟩ := h
  simp only [List.length_append, beginBits_length]
  omega
 cases h with
 | last ps tb h ht => exact key ht
 | more ps tb bits h ht hr => rw [List.length_append]; have := key ht; omega
theorem any_len {way : Nat} {ys : List Nat} {bits : List Bool} (h : AnyPb way ys bits) (hl : ys.length ≤ 1048576) : 3 ≤ bits.length ∧ (bits.length + 7) / 8 ≤ 8388000 := by
 rcases h with ⟨_, h⟩ | ⟨_, h⟩ | ⟨_, h⟩
 ·have h1 := stoR_len h
  have h2 := stoR_pos h
  omega
 ·have h1 := fixPb_length h
  have h2 : 3 ≤ bits.length := by
   obtain ⟨ps, pb, _, _, _, rfl⟩ := h
   simp only [List.length_append, beginBits_length]
   omega
  omega
 ·obtain ⟨ps, sb, fb, pb, tb, h1, h2, h3, h4, h5, h6, h7, h8, _⟩ := h
  have k1 := stoR_len h2
  have k2 : 3 ≤ bits.length := by
   rcases h7 with rfl | rfl | rfl
   ·exact stoR_pos h2
   ·rw [h5]; simp only [List.length_append, beginBits_length]; omega
   ·exact tolR_pos h6
  omega
/- Unpack where a bit at the end is turned -/
theorem unpackK_turn (kind g cap : Nat) (hk : kind = 1 ∨ kind = 2) (P ys : List Nat) (i x : Nat) (w : World) (hS : Go.Bel.Src w g 0 ((aroundK kind P ys).set ((aroundK kind P ys).length - 4 * kind + i) x)) (hg : g < w.heap.size) (hR : ReadsAs P ys) (hP : AllB P) (hi : i < 4 * kind) (hx : x < 256) (hne : x ≠ (aroundK kind P ys)[(aroundK kind P ys).length - 4 * kind + i]?.getD 0) (hPl : P.length ≤ 8388000) (hO : OrderAt w) (h4 : 4 ≤ w.heap.size) (hy : ys.length ≤ 1048576) :
  Calls Tryz.prog 25 #[.int .i64 (kind : Nat), .slice (some ⟨g, 0, none⟩) (aroundK kind P ys).length cap, .int .i64 (ys.length : Nat)] w
   fun r w' => ∃ v', r = .returned (.agg #[.int .i64 12, v', .int .i64 0, .string ⟨#[]⟩]) ∧ w'.ownsRow w.heap.size 5 1 v' ys.length (u8s ys) ∧ Step (fun _ => False) w w' := by
 have ha := asked_nat ys.length hy
 rcases hk with rfl | rfl
 ·have e : aroundK 1 P ys = aroundZ P ys := rfl
  rw [e] at hS hne ⊢
  obtain ⟨hB, hz⟩ := turned_z (most := ys.length) hR hP (i := i) (by omega) hx hne (Nat.le_refl _)
  rw [show 4 * 1 = 4 from rfl] at hS
  have := unpackZ g 0 cap 12 (ys.length : Int) _ ys 0 w hS hg hO h4 (by rw [ha]; exact hz)
  rw [List.length_set] at this
  exact this
 ·have e : aroundK 2 P ys = aroundG P ys := rfl
  rw [e] at hS hne ⊢
  obtain ⟨hB, hz⟩ := turned_g (most := ys.length) hR hP (i := i) (by omega) hx (by omega) hne (Nat.le_refl _)
  rw [show 4 * 2 = 8 from rfl] at hS
  have hl : ((aroundG P ys).set ((aroundG P ys).length - 8 + i) x).length ≤ 8388608 := by
   rw [List.length_set]
   simp [aroundG, le4]
   omega
  have := unpackGz g 0 cap 12 (ys.length : Int) _ ys 0 [] w hS hg hO h4 hB hl (by rw [ha]; exact hz)
  rw [List.length_set] at this
  exact this
end Go.Proofs.YtbpahojchgpdnaaGreatDoor
/- Proved here: Sums is true. -/
namespace Go.Proofs.YtbpahojchgpdnaaGreatDoor
open Go.RowKit Go.Bel Go.Maps
def nineL : List Nat := [49, 50, 51, 52, 53, 54, 55, 56, 57]
def nineC : Array Value := #[.int .u8 49, .int .u8 50, .int .u8 51, .int .u8 52, .int .u8 53, .int .u8 54, .int .u8 55, .int .u8 56, .int .u8 57]
theorem nine_in (w : World) : BytesIn (w.alloc (.cells nineC 5 (9, 10))) (.slice (some ⟨w.heap.size, 0, none⟩) 9 9) nineL := ⟨.inr ⟨w.heap.size, 0, 9, rfl, fun i hi => by
  rw [World.cell?_alloc_mark, Nat.zero_add]
  have h9 : i = 0 ∨ i = 1 ∨ i = 2 ∨ i = 3 ∨ i = 4 ∨ i = 5 ∨ i = 6 ∨ i = 7 ∨ i = 8 := by simp [nineL] at hi; omega
  rcases h9 with rfl | rfl | rfl | rfl | rfl | rfl | rfl | rfl | rfl <;> rfl⟩, fun y hy => by simp [nineL] at hy; omega, fun j off n c hu => by
  simp only [Value.slice.injEq, Option.some.injEq, Addr.mk.injEq, and_true] at hu
  simp
  omega, fun a n c hu => by
  simp only [Value.slice.injEq] at hu
  omega, by decide⟩
theorem nine_sto {bits : List Bool} {P : List Nat} (h : StoR 0 nineL bits) (hl : P.length = (bits.length + 7) / 8) : P.length = 14 := by
 cases h with
 | last _ _ h => rw [hl]; decide +kernel
 | more _ _ b h ht => exact absurd h (by decide)
theorem nine_ad : be4 (adWith 1 nineL) = [9, 30, 1, 222] := by decide +kernel
theorem nine_crc : le4 (crcWith 0 nineL) ++ le4 nineL.length = [38, 57, 244, 203, 9, 0, 0, 0] := by decide +kernel
theorem own_shape {w : World} {base : Nat} {v : Value} {n : Nat} {xs : List Value} (h : w.ownsRow base 5 1 v n xs) (h0 : 0 < n) : ∃ g c, v = .slice (some ⟨g, 0, none⟩) n c ∧ n ≤ c ∧ g < w.heap.size ∧ base ≤ g := by
 obtain ⟨_, ⟨_, hn⟩ | ⟨g, c, cur, hv, hb, hh, hnc, _⟩⟩ := h
 ·omega
 ·exact ⟨g, c, hv, hnc, lt_of_block hh, hb⟩
theorem own_free {w : World} {base g n cap : Nat} {xs : List Value} {m : Nat} (h : w.ownsRow base 5 1 (.slice (some ⟨g, 0, none⟩) n cap) m xs) (i : Nat) : w.frozen? ⟨g, i, none⟩ = false := by
 obtain ⟨_, ⟨hv, _⟩ | ⟨_, _, _, hv, _, hh, _⟩⟩ := h
 ·cases hv
 ·cases hv; exact blk_free hh i
theorem wrap_nat (a : Nat) (h : a < 4611686018427387904) : wrap64 (a : Int) = (a : Int) := by
 unfold wrap64
 omega
theorem ix_facts {L T n q b ix M : Nat} (hq : q = n / 8) (hb : b = n % 8) (hix : ix = L - T + q) (hL : T ≤ L) (hn : n < M) (hM : M = 8 * T ∧ L ≤ 9000000) : ∃ A : Nat, (L : Int) - (T : Nat) = (A : Int) ∧ (n : Int) / 8 = (q : Int) ∧ (A : Int) + (q : Int) = (ix : Int) ∧ (n : Int) % 8 = (b : Int) ∧ ((ix : Int)).toNat = ix ∧ (0 : Int) ≤ (ix : Int) ∧ (ix : Int) < (L : Int) ∧ ¬ (L : Int) < (T : Nat) ∧ wrap64 (A : Int) = (A : Int) ∧ wrap64 (ix : Int) = (ix : Int) ∧ b < 8 := by
 refine ⟨L - T, by omega, by omega, by omega, by omega, by omega, by omega, by omega, by omega, wrap_nat _ (by omega), wrap_nat _ (by omega), by omega⟩
theorem turn_src {w : World} {g ix x b : Nat} {B : List Nat} (hS : Go.Bel.Src w g 0 B) (hi : ix < B.length) (hx : x < 256) (hb : b < 8) : ∃ y pw : Nat, Go.Bel.Src (w.drew.setCell ⟨g, ix, none⟩ (.int .u8 (y : Nat))) g 0 (B.set ix y) ∧ y < 256 ∧ y ≠ x ∧ bits .xor .u8 (x : Int) (pw : Int) = (y : Int) ∧ (2 : Int) ^ b = (pw : Int) ∧ pw < 256 := by
 have ht := xor_turn hx hb
 have hp8 : 2 ^ b < 256 := by have := Nat.pow_lt_pow_right (show 1 < 2 by omega) hb; omega
 refine ⟨x ^^^ 2 ^ b, 2 ^ b, src_set (hS.step ((Step.refl (fun _ => False) w).drew) (fun y => y)) hi ht.1, ht.1, ht.2, bits_xor_u8 x (2 ^ b) hx hp8, by simp, hp8⟩
/- some of the bytes that the call owns, as a string -/
theorem part_string {w W : World} {base g n cap o : Nat} {B : List Nat} {s : ByteArray} {c' : Nat} (h : w.ownsRow base 5 1 (.slice (some ⟨g, 0, none⟩) n cap) B.length (u8s B)) (hW : W.heap[g]? = w.heap[g]?) (hs : bytesOf s = B.drop o) (hlen : o + s.size = B.length) :
  (convert 31 9 (.slice (some ⟨g, o, none⟩) s.size c')).run Tryz.prog W = .ok (.string s) W := by
 have h2 := ownsRow_of_block (w' := W) h (fun k hk => by cases hk; exact hW)
 have hl : s.data.toList.length = s.size := by simp
 have hn : n = B.length := by
  obtain ⟨_, ⟨hv, _⟩ | ⟨_, _, _, hv, _⟩⟩ := h
  ·cases hv
  ·cases hv; rfl
 subst hn
 have := run_convert_bytes_back W 31 9 5 ⟨g, o, none⟩ c' s.data.toList Tryz.underlying31 Tryz.underlying5 Tryz.underlying9 (fun j hj => by
  have hc := h2.cellAt (o + j) (by omega)
  have e : (⟨g, o, none⟩ : Addr).add j = ⟨g, o + j, none⟩ := by unfold Addr.add; split <;> simp_all
  rw [e, hc]
  have e2 : B[o + j]? = (bytesOf s)[j]? := by rw [hs, List.getElem?_drop]
  have hb : j < (bytesOf s).length := by rw [bytesOf_length]; omega
  simp only [u8s, List.getElem?_map, e2]
  simp [bytesOf, List.getElem?_eq_getElem hj])
 rw [hl, bytes_back] at this
 exact this
set_option maxRecDepth 20000 in
set_option maxHeartbeats 4000000 in
theorem sums_true (sb : ByteArray) (wy pl : Int) (w : World) (h1 : -9223372036854775808 ≤ wy) (h2 : wy ≤ 9223372036854775807) (h3 : -9223372036854775808 ≤ pl) (h5 : pl ≤ 9223372036854775807) (hO : OrderAt w) (h4 : 4 ≤ w.heap.size) :
  Calls Tryz.prog 9 #[.string sb, .int .i64 wy, .int .i64 pl] w fun e w' => e = .returned (.bool true) ∧ Step (fun _ => False) w w' := by
 have mixed : Tryz.prog.follows .mixedOrders = true := by kernel_rfl
 have hconv := Lib.run_convert_bytes_const (P := Tryz.prog) w 31 5 nineC 9 9 Tryz.underlying31 Tryz.underlying5
 have hs1 : Step (fun _ => False) w (w.alloc (.cells nineC 5 (9, 10))) := (Step.refl _ _).alloc _
 have HP := hide (pack_say 1 0 (by omega) (by omega) _ _ _ (packSaid_stored nineL (by decide)) _ (nine_in w) (hO.step hs1 (fun _ _ x => x)) (by simp; omega))
 have HO := hide hO
 have HS1 := hide hs1
 unfold nineC at hconv
 clear hO hs1
 go_enter Tryz.func9, Tryz.ntmps9
 go_wp2_with fail
 refine (unhide HP).mono ?_
 rintro r w2 ⟨v2, bits, P, rfl, hp⟩
 have hP14 := nine_sto hp.pb hp.len
 have hQ : aroundK 1 P nineL = [120, 1] ++ P ++ [9, 30, 1, 222] := by
  show aroundZ P nineL = _
  unfold aroundZ
  rw [nine_ad]
 have hql : (aroundK 1 P nineL).length = 20 := by rw [hQ]; simp; omega
 have hrow := hp.row
 obtain ⟨g2, c2, hv2, hcz, hgl2, _⟩ := own_shape hrow (by omega)
 rw [hql] at hv2 hcz
 subst hv2
 have hst2 := (unhide HS1).trans hp.st
 have HROW := hide hrow
 have HQ := hide (And.intro hQ hP14)
 have HST2 := hide hst2
 have hz2 := hst2.size
 have hconv2 := Lib.run_convert_bytes_const (P := Tryz.prog) w2 31 5 nineC 9 9 Tryz.underlying31 Tryz.underlying5
 have hs3 : Step (fun _ => False) w2 (w2.alloc (.cells nineC 5 (9, 10))) := (Step.refl _ _).alloc _
 have HP2 := hide (pack_say 2 0 (by omega) (by omega) _ _ _ (packSaid_stored nineL (by decide)) _ (nine_in w2) ((unhide HO).step (hst2.trans hs3) (fun _ _ x => x)) (by simp; omega))
 have HS3 := hide hs3
 unfold nineC at hconv2
 clear hp hP14 hQ hql hrow hst2 hs3 hconv HP HS1
 go_wp2_with fail
 refine (unhide HP2).mono ?_
 rintro r w3 ⟨v3, bits3, P3, rfl, hp⟩
 have hP14 := nine_sto hp.pb hp.len
 have hQ3 : aroundK 2 P3 nineL = [31, 139, 8] ++ List.replicate 7 0 ++ P3 ++ [38, 57, 244, 203, 9, 0, 0, 0] := by
  show aroundG P3 nineL = _
  unfold aroundG
  rw [List.append_assoc _ (le4 (crcWith 0 nineL)), nine_crc]
 have hql : (aroundK 2 P3 nineL).length = 32 := by rw [hQ3]; simp; omega
 have hrow3 := hp.row
 obtain ⟨g3, c3, hv3, hcz3, hgl3, hb3⟩ := own_shape hrow3 (by omega)
 rw [hql] at hv3 hcz3
 subst hv3
 have hs23 := (unhide HS3).trans hp.st
 have hst3 := (unhide HST2).trans hs23
 have hz3 := hs23.size
 obtain ⟨hQ, hPl⟩ := unhide HQ
 have cv1 : (convert 31 9 (.slice (some ⟨g2, 16, none⟩) 4 (c2 - 16))).run Tryz.prog w3 = .ok (.string ⟨#[9, 30, 1, 222]⟩) w3 := part_string (s := ⟨#[9, 30, 1, 222]⟩) (unhide HROW) (hs23.block g2 hgl2 (fun y => y)) (by
  rw [hQ, List.drop_append, List.drop_of_length_le (by simp; omega)]
  have e : 16 - ([120, 1] ++ P).length = 0 := by simp; omega
  rw [e]; rfl) (by rw [hQ]; simp [ByteArray.size]; omega)
 have cv2 : (convert 31 9 (.slice (some ⟨g3, 24, none⟩) 8 (c3 - 24))).run Tryz.prog w3 = .ok (.string ⟨#[38, 57, 244, 203, 9, 0, 0, 0]⟩) w3 := part_string (s := ⟨#[38, 57, 244, 203, 9, 0, 0, 0]⟩) hrow3 rfl (by
  rw [hQ3, List.drop_append, List.drop_of_length_le (by simp; omega)]
  have e : 24 - ([31, 139, 8] ++ List.replicate 7 0 ++ P3).length = 0 := by simp; omega
  rw [e]; rfl) (by rw [hQ3]; simp [ByteArray.size]; omega)
 have HST3 := hide hst3
 have hz03 := hst3.size
 have d1 : (16 : Int) ≤ (c2 : Int) := by omega
 have d2 : ¬ c2 = 16 := by omega
 have d3 : (24 : Int) ≤ (c3 : Int) := by omega
 have d4 : ¬ c3 = 24 := by omega
 have d5 : 16 ≤ c2 := by omega
 have d6 : 24 ≤ c3 := by omega
 clear hp hP14 hQ3 hql hrow3 hs23 hst3 hQ hPl hconv2 HP2 HS3 HQ HROW hz2 hz3 hb3
 by_cases hbig : 1048576 < sb.size
 ·have hbigz : (sb.size : Int) > 1048576 := by omega
  go_wp2_with fail
  go_ret
  exact ⟨rfl, unhide HST3⟩
 ·have hbigz : ¬ (sb.size : Int) > 1048576 := by omega
  go_wp2_with fail
  go_loopg [11] 3 (fun kx u11 wr => ∃ k : Nat, u11 = .int .i64 (k : Nat) ∧ 1 ≤ k ∧ k ≤ 3 ∧ kx = 4 - k ∧ Hid (Step (fun _ => False) w wr))
  case atStart => exact ⟨1, rfl, by omega, by omega, rfl, HST3⟩
  case round =>
   clear HST3 cv1 cv2
   obtain ⟨k, rfl, hk1, hk3, hkx, HSR⟩ := hrel
   obtain ⟨v, hv, hpk⟩ := pick_ex wy 3 h1 h2 (by omega) (by omega)
   have HPK := hide hpk
   clear hpk
   have hk : k = 1 ∨ k = 2 ∨ k = 3 := by omega
   rcases hk with rfl | rfl | rfl
   ·have hle : (1 : Int) ≤ 2 := by omega
    have hconv := conv_str wr sb
    have hcap := grownCap_ge wr sb.size 0 5
    generalize grownCap wr sb.size 0 5 = kc at hconv hcap
    have hbi := str_bytes wr sb kc ((bytesRow sb kc).size, (bytesRow sb kc).size + 1) hcap (by omega)
    have hst5 := str_step wr (.cells (bytesRow sb kc) 5 ((bytesRow sb kc).size, (bytesRow sb kc).size + 1))
    obtain ⟨w5, hw5⟩ : ∃ w5, w5 = wr.drew.alloc (.cells (bytesRow sb kc) 5 ((bytesRow sb kc).size, (bytesRow sb kc).size + 1)) := ⟨_, rfl⟩
    rw [← hw5] at hconv hbi hst5
    clear hw5
    have hz5 := hst5.size
    have hzr := (unhide HSR).size
    have hst05 := (unhide HSR).trans hst5
    have HP5 := hide (pack_say 1 v (by omega) (by omega) _ _ _ (any_said v (bytesOf sb) (by omega) (by rw [bytesOf_length]; omega)) w5 hbi ((unhide HO).step hst05 (fun _ _ x => x)) (by omega))
    have HST5 := hide hst05
    clear hbi hst5 hst05
    go_upto_region 13 with (first
     | (go_at_call 19; refine (unhide HPK _).mono ?_; rintro e wq ⟨rfl, rfl⟩)
     | (go_at_call 26; refine (unhide HP5).mono ?_; rintro r w6 ⟨v6, bits6, P6, rfl, hp⟩))
    have hal := any_len hp.pb (by rw [bytesOf_length]; omega)
    have hplen := hp.len
    have hR := any_reads hp.pb (fun y hy => bytesOf_lt sb y hy) hp.bin hp.len
    have hPb : AllB P6 := fun y hy => by
     obtain ⟨i, hi, rfl⟩ := List.getElem_of_mem hy
     have := hp.bin.byte i
     rw [List.getElem?_eq_getElem hi] at this
     exact this
    obtain ⟨L, hL⟩ : ∃ L, L = (aroundK 1 P6 (bytesOf sb)).length := ⟨_, rfl⟩
    have hQl : P6.length + 6 = L := by rw [hL]; simp [aroundK, aroundZ, be4]; try omega
    have hPl6 : P6.length ≤ 8388000 := by omega
    have hQB := around_byte 1 P6 (bytesOf sb) hPb
    obtain ⟨gp, cp, hv6, hS6, hgp, hgb⟩ := src_own hp.row hQB (by omega) (by omega)
    rw [← hL] at hv6
    subst hv6
    have hst6 := (unhide HST5).trans hp.st
    obtain ⟨n, hn, hpk2⟩ := pick_ex pl 32 h3 h5 (by omega) (by omega)
    have HPK2 := hide hpk2
    obtain ⟨q, hq⟩ : ∃ q, q = n / 8 := ⟨_, rfl⟩
    obtain ⟨b, hb⟩ : ∃ b, b = n % 8 := ⟨_, rfl⟩
    obtain ⟨ix, hix⟩ : ∃ ix, ix = L - 4 + q := ⟨_, rfl⟩
    have hixl : ix < (aroundK 1 P6 (bytesOf sb)).length := by omega
    have hcell := hS6.cell ix hixl
    rw [Nat.zero_add] at hcell
    have hfr : w6.frozen? ⟨gp, ix, none⟩ = false := own_free hp.row ix
    obtain ⟨x, hx⟩ : ∃ x, x = (aroundK 1 P6 (bytesOf sb))[ix]?.getD 0 := ⟨_, rfl⟩
    rw [← hx] at hcell
    have hx256 : x < 256 := by rw [hx]; exact all_get hQB ix
    obtain ⟨A9, e1, e2, e3, e4, e5, e6, e7, e8, hwA, hwI, hb8⟩ := ix_facts (T := 4) hq hb hix (by omega) hn (by omega)
    obtain ⟨y, pw, hSy, hy256, hyx, hbx, hp1, hp8⟩ := turn_src hS6 hixl hx256 hb8
    have hturn := And.intro hy256 hyx
    have HSY := hide hSy
    have HWR := hide (And.intro e1 (And.intro e3 (And.intro hwA hwI)))
    have HIX := hide (And.intro hix (And.intro hL (And.intro hx (And.intro hturn (And.intro hR (And.intro hPb (And.intro hq hn)))))))
    have HST6 := hide hst6
    have hz6 := hst6.size
    clear e1 e3 hwA hwI hp hplen hR hPb hL hQl hQB hS6 hst6 hpk2 hq hb hix hixl hx hturn hSy hy256 hyx hal HP5 HST5 hconv
    go_upto_region 17 with (go_at_call 19; refine (unhide HPK2 _).mono ?_; rintro e wq ⟨rfl, rfl⟩)
    go_cut [16] (fun s16 wd => s16 = .int .i64 (ix : Nat) ∧ wd = wq)
    case first =>
     go_wp2_with fail
     go_meet
     case rel =>
      refine ⟨?_, rfl⟩
      obtain ⟨e1, e3, hwA, hwI⟩ := unhide HWR
      have e1' : (L : Int) - 4 = (A9 : Int) := e1
      rw [e1', hwA, e3, hwI]
    case rest =>
     obtain ⟨rfl, rfl⟩ := hcut
     go_wp2_with fail
     go_big_region_o
     obtain ⟨hix, hL, hx, hturn, hR, hPb, hq, hn9⟩ := unhide HIX
     have hst7 : Step (fun _ => False) w (wc.setCell ⟨gp, ix, none⟩ (.int .u8 (y : Nat))).drew := ((unhide HST6).setNew (p := ⟨gp, ix, none⟩) (by show w.heap.size ≤ gp; omega) _).drew
     obtain ⟨w7, hw7⟩ : ∃ W, W = (wc.setCell ⟨gp, ix, none⟩ (.int .u8 (y : Nat))).drew := ⟨_, rfl⟩
     have hS7 : Go.Bel.Src w7 gp 0 ((aroundK 1 P6 (bytesOf sb)).set ((aroundK 1 P6 (bytesOf sb)).length - 4 * 1 + q) y) := by
      have h9 := unhide HSY
      rw [← hL, show L - 4 * 1 + q = ix by omega, hw7]
      exact h9
     rw [← hw7] at hst7 ⊢
     have hz7 : wc.heap.size ≤ w7.heap.size := by rw [hw7]; simp [World.setCell]
     have kt := unpackK_turn 1 gp cp (by omega) P6 (bytesOf sb) q y w7 hS7 (by omega) hR hPb (by omega) hturn.1 (by rw [← hL, show L - 4 * 1 + q = ix by omega, ← hx]; exact hturn.2) hPl6 ((unhide HO).step hst7 (fun _ _ x => x)) (by omega) (by rw [bytesOf_length]; omega)
     rw [← hL, bytesOf_length] at kt
     have KT := hide kt
     have HST7 := hide hst7
     clear kt hS7 hst7 hw7 hix hL hx hturn hR hPb hq hn9 HSY HIX HST6 hcell hfr
     go_wp2_with fail
     refine (unhide KT).mono ?_
     rintro r w8 ⟨v8, rfl, hown8, hst8⟩
     obtain ⟨xa, xc, hv8⟩ := own_slice hown8
     subst hv8
     have hown9 : w8.ownsRow w7.heap.size 5 1 (.slice xa sb.size xc) (bytesOf sb).length (u8s (bytesOf sb)) := by rw [bytesOf_length]; exact hown8
     have hcv := owned_string (s := sb) (W := w8.alloc (.cells #[.int .i64 12, .slice xa sb.size xc, .int .i64 0, .string ⟨#[]⟩] 45)) hown9 (fun k hk => Below.heap_alloc _ _ _ (hown9.lt k hk).2)
     have HST8 := hide ((unhide HST7).trans hst8)
     clear hown8 hown9 hst8 KT HST7
     go_wp2_with fail
     go_roundg 2
     case measure => omega
     case rel => exact ⟨2, by first | rfl | go_num, by omega, by omega, by omega, (unhide HST8).alloc _⟩
   ·have hle : (2 : Int) ≤ 2 := by omega
    have hconv := conv_str wr sb
    have hcap := grownCap_ge wr sb.size 0 5
    generalize grownCap wr sb.size 0 5 = kc at hconv hcap
    have hbi := str_bytes wr sb kc ((bytesRow sb kc).size, (bytesRow sb kc).size + 1) hcap (by omega)
    have hst5 := str_step wr (.cells (bytesRow sb kc) 5 ((bytesRow sb kc).size, (bytesRow sb kc).size + 1))
    obtain ⟨w5, hw5⟩ : ∃ w5, w5 = wr.drew.alloc (.cells (bytesRow sb kc) 5 ((bytesRow sb kc).size, (bytesRow sb kc).size + 1)) := ⟨_, rfl⟩
    rw [← hw5] at hconv hbi hst5
    clear hw5
    have hz5 := hst5.size
    have hzr := (unhide HSR).size
    have hst05 := (unhide HSR).trans hst5
    have HP5 := hide (pack_say 2 v (by omega) (by omega) _ _ _ (any_said v (bytesOf sb) (by omega) (by rw [bytesOf_length]; omega)) w5 hbi ((unhide HO).step hst05 (fun _ _ x => x)) (by omega))
    have HST5 := hide hst05
    clear hbi hst5 hst05
    go_upto_region 13 with (first
     | (go_at_call 19; refine (unhide HPK _).mono ?_; rintro e wq ⟨rfl, rfl⟩)
     | (go_at_call 26; refine (unhide HP5).mono ?_; rintro r w6 ⟨v6, bits6, P6, rfl, hp⟩))
    have hal := any_len hp.pb (by rw [bytesOf_length]; omega)
    have hplen := hp.len
    have hR := any_reads hp.pb (fun y hy => bytesOf_lt sb y hy) hp.bin hp.len
    have hPb : AllB P6 := fun y hy => by
     obtain ⟨i, hi, rfl⟩ := List.getElem_of_mem hy
     have := hp.bin.byte i
     rw [List.getElem?_eq_getElem hi] at this
     exact this
    obtain ⟨L, hL⟩ : ∃ L, L = (aroundK 2 P6 (bytesOf sb)).length := ⟨_, rfl⟩
    have hQl : P6.length + 18 = L := by rw [hL]; simp [aroundK, aroundG, le4]; try omega
    have hPl6 : P6.length ≤ 8388000 := by omega
    have hQB := around_byte 2 P6 (bytesOf sb) hPb
    obtain ⟨gp, cp, hv6, hS6, hgp, hgb⟩ := src_own hp.row hQB (by omega) (by omega)
    rw [← hL] at hv6
    subst hv6
    have hst6 := (unhide HST5).trans hp.st
    obtain ⟨n, hn, hpk2⟩ := pick_ex pl 64 h3 h5 (by omega) (by omega)
    have HPK2 := hide hpk2
    obtain ⟨q, hq⟩ : ∃ q, q = n / 8 := ⟨_, rfl⟩
    obtain ⟨b, hb⟩ : ∃ b, b = n % 8 := ⟨_, rfl⟩
    obtain ⟨ix, hix⟩ : ∃ ix, ix = L - 8 + q := ⟨_, rfl⟩
    have hixl : ix < (aroundK 2 P6 (bytesOf sb)).length := by omega
    have hcell := hS6.cell ix hixl
    rw [Nat.zero_add] at hcell
    have hfr : w6.frozen? ⟨gp, ix, none⟩ = false := own_free hp.row ix
    obtain ⟨x, hx⟩ : ∃ x, x = (aroundK 2 P6 (bytesOf sb))[ix]?.getD 0 := ⟨_, rfl⟩
    rw [← hx] at hcell
    have hx256 : x < 256 := by rw [hx]; exact all_get hQB ix
    obtain ⟨A9, e1, e2, e3, e4, e5, e6, e7, e8, hwA, hwI, hb8⟩ := ix_facts (T := 8) hq hb hix (by omega) hn (by omega)
    obtain ⟨y, pw, hSy, hy256, hyx, hbx, hp1, hp8⟩ := turn_src hS6 hixl hx256 hb8
    have hturn := And.intro hy256 hyx
    have HSY := hide hSy
    have HWR := hide (And.intro e1 (And.intro e3 (And.intro hwA hwI)))
    have HIX := hide (And.intro hix (And.intro hL (And.intro hx (And.intro hturn (And.intro hR (And.intro hPb (And.intro hq hn)))))))
    have HST6 := hide hst6
    have hz6 := hst6.size
    clear e1 e3 hwA hwI hp hplen hR hPb hL hQl hQB hS6 hst6 hpk2 hq hb hix hixl hx hturn hSy hy256 hyx hal HP5 HST5 hconv
    go_upto_region 17 with (go_at_call 19; refine (unhide HPK2 _).mono ?_; rintro e wq ⟨rfl, rfl⟩)
    go_cut [16] (fun s16 wd => s16 = .int .i64 (ix : Nat) ∧ wd = wq)
    case first =>
     go_wp2_with fail
     go_meet
     case rel =>
      refine ⟨?_, rfl⟩
      obtain ⟨e1, e3, hwA, hwI⟩ := unhide HWR
      have e1' : (L : Int) - 8 = (A9 : Int) := e1
      rw [e1', hwA, e3, hwI]
    case rest =>
     obtain ⟨rfl, rfl⟩ := hcut
     go_wp2_with fail
     go_big_region_o
     obtain ⟨hix, hL, hx, hturn, hR, hPb, hq, hn9⟩ := unhide HIX
     have hst7 : Step (fun _ => False) w (wc.setCell ⟨gp, ix, none⟩ (.int .u8 (y : Nat))).drew := ((unhide HST6).setNew (p := ⟨gp, ix, none⟩) (by show w.heap.size ≤ gp; omega) _).drew
     obtain ⟨w7, hw7⟩ : ∃ W, W = (wc.setCell ⟨gp, ix, none⟩ (.int .u8 (y : Nat))).drew := ⟨_, rfl⟩
     have hS7 : Go.Bel.Src w7 gp 0 ((aroundK 2 P6 (bytesOf sb)).set ((aroundK 2 P6 (bytesOf sb)).length - 4 * 2 + q) y) := by
      have h9 := unhide HSY
      rw [← hL, show L - 4 * 2 + q = ix by omega, hw7]
      exact h9
     rw [← hw7] at hst7 ⊢
     have hz7 : wc.heap.size ≤ w7.heap.size := by rw [hw7]; simp [World.setCell]
     have kt := unpackK_turn 2 gp cp (by omega) P6 (bytesOf sb) q y w7 hS7 (by omega) hR hPb (by omega) hturn.1 (by rw [← hL, show L - 4 * 2 + q = ix by omega, ← hx]; exact hturn.2) hPl6 ((unhide HO).step hst7 (fun _ _ x => x)) (by omega) (by rw [bytesOf_length]; omega)
     rw [← hL, bytesOf_length] at kt
     have KT := hide kt
     have HST7 := hide hst7
     clear kt hS7 hst7 hw7 hix hL hx hturn hR hPb hq hn9 HSY HIX HST6 hcell hfr
     go_wp2_with fail
     refine (unhide KT).mono ?_
     rintro r w8 ⟨v8, rfl, hown8, hst8⟩
     obtain ⟨xa, xc, hv8⟩ := own_slice hown8
     subst hv8
     have hown9 : w8.ownsRow w7.heap.size 5 1 (.slice xa sb.size xc) (bytesOf sb).length (u8s (bytesOf sb)) := by rw [bytesOf_length]; exact hown8
     have hcv := owned_string (s := sb) (W := w8.alloc (.cells #[.int .i64 12, .slice xa sb.size xc, .int .i64 0, .string ⟨#[]⟩] 45)) hown9 (fun k hk => Below.heap_alloc _ _ _ (hown9.lt k hk).2)
     have HST8 := hide ((unhide HST7).trans hst8)
     clear hown8 hown9 hst8 KT HST7
     go_wp2_with fail
     go_roundg 1
     case measure => omega
     case rel => exact ⟨3, by first | rfl | go_num, by omega, by omega, by omega, (unhide HST8).alloc _⟩
   ·go_wp2_with fail
    go_ret
    exact ⟨rfl, unhide HSR⟩
end Go.Proofs.YtbpahojchgpdnaaGreatDoor
