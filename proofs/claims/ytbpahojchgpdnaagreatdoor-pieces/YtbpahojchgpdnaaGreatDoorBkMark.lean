/- Proved here: how a length and a distance are told: a symbol, and a number of so many bits. -/
import Derived.Test.YtbpahojchgpdnaaGreatDoorCodesLen
import Derived.Test.YtbpahojchgpdnaaGreatDoorFrame
set_option maxRecDepth 20000
set_option maxHeartbeats 4000000
namespace Go.Proofs.YtbpahojchgpdnaaGreatDoor
open Go.RowKit Go.Bel
set_option maxRecDepth 100000 in
theorem len64_int (x : Int) (w : World) (h0 : 0 ≤ x) (h1 : x ≤ 65535) :
    Calls Tryz.prog 177 #[.int .u64 x] w fun e w' => e = .returned (.int .i64 (Lib.bitLen x.toNat : Nat)) ∧ w' = w := by
  go_enter Tryz.func177, Tryz.ntmps177
  rw [fold_tab]
  go_wp2
  all_goals try (exfalso; have := Lib.len8tab_size; omega)
  all_goals (go_ret; refine ⟨congrArg Ending.returned (congrArg (Value.int IntKind.i64) ?_), rfl⟩)
  all_goals first
    | (rw [tab_at x h0 (by omega)]
       have l := Lib.bitLen_le8' x (by omega) (by omega)
       unfold wrap64
       omega)
    | (rw [tab_at (x / 256) (by omega) (by omega)]
       have l := Lib.bitLen_le8' (x / 256) (by omega) (by omega)
       have e : (x / 256).toNat = x.toNat / 256 := by omega
       have s := Lib.bitLen_shift8 x.toNat (by omega) (by omega)
       rw [e] at l ⊢
       unfold wrap64
       omega)
theorem len_any (x : Nat) (w : World) (h : x < 65536) :
  Calls Tryz.prog 156 #[.int .u64 (x : Nat)] w fun e w' => e = .returned (.int .i64 (Lib.bitLen x : Nat)) ∧ w' = w := by
 have hb := Lib.bitLen_le x 16 (by omega) h
 have HC := hide (len64_int (x : Int) w (by omega) (by omega))
 rw [show ((x : Int).toNat) = x by omega] at HC
 obtain ⟨b, hb2⟩ : ∃ b, b = Lib.bitLen x := ⟨_, rfl⟩
 rw [← hb2] at hb HC ⊢
 clear hb2
 go_enter Tryz.func156, Tryz.ntmps156
 go_wp2_with fail
 refine (unhide HC).mono ?_
 rintro e w1 ⟨rfl, rfl⟩
 go_wp2_with fail
 go_ret
 exact ⟨rfl, rfl⟩
def LenM (n s x m : Nat) : Prop := (n = 258 ∧ s = 285 ∧ x = 0 ∧ m = 0) ∨ (257 ≤ s ∧ s < 265 ∧ n = s - 257 + 3 ∧ x = 0 ∧ m = 0) ∨ (265 ≤ s ∧ s < 285 ∧ m = (s - 261) / 4 ∧ n = (4 + (s - 265) % 4) * 2 ^ m + 3 + x ∧ x < 2 ^ m ∧ m ≤ 5 ∧ n ≠ 258)
def DistM (d s x m : Nat) : Prop := (s < 4 ∧ d = s + 1 ∧ x = 0 ∧ m = 0) ∨ (4 ≤ s ∧ s < 30 ∧ m = s / 2 - 1 ∧ d = (2 + s % 2) * 2 ^ m + 1 + x ∧ x < 2 ^ m ∧ m ≤ 13)
theorem lenM_of (l a low : Nat) (h1 : 2 ^ l ≤ a) (h2 : a < 2 ^ (l + 1)) (h3 : 3 ≤ l) (h7 : l ≤ 7) (hlow : low + 2 = l) (h255 : a ≠ 255) : LenM (a + 3) (265 + 4 * (low - 1) + a / 2 ^ low - 4) (a % 2 ^ low) low := by
 refine .inr (.inr ?_)
 have hl : l = 3 ∨ l = 4 ∨ l = 5 ∨ l = 6 ∨ l = 7 := by omega
 rcases hl with rfl | rfl | rfl | rfl | rfl
 ·obtain rfl : low = 1 := by omega
  simp only [Nat.reducePow, Nat.reduceAdd] at *
  omega
 ·obtain rfl : low = 2 := by omega
  simp only [Nat.reducePow, Nat.reduceAdd] at *
  omega
 ·obtain rfl : low = 3 := by omega
  simp only [Nat.reducePow, Nat.reduceAdd] at *
  omega
 ·obtain rfl : low = 4 := by omega
  simp only [Nat.reducePow, Nat.reduceAdd] at *
  omega
 ·obtain rfl : low = 5 := by omega
  simp only [Nat.reducePow, Nat.reduceAdd] at *
  omega
theorem two_pow_div (a l low : Nat) (h1 : 2 ^ l ≤ a) (h2 : a < 2 ^ (l + 1)) (hlow : low + 1 = l) : a / 2 ^ low = 2 ∨ a / 2 ^ low = 3 := by
 subst hlow
 have hp : 0 < 2 ^ low := Nat.pow_pos (by omega)
 have e1 : 2 ^ (low + 1) = 2 * 2 ^ low := by rw [Nat.pow_succ, Nat.mul_comm]
 have e2 : 2 ^ (low + 1 + 1) = 4 * 2 ^ low := by rw [Nat.pow_succ, e1]; omega
 have a1 : 2 ≤ a / 2 ^ low := (Nat.le_div_iff_mul_le hp).2 (by omega)
 have a2 : a / 2 ^ low < 4 := (Nat.div_lt_iff_lt_mul hp).2 (by omega)
 omega
theorem distM_of (l a low : Nat) (h1 : 2 ^ l ≤ a) (h2 : a < 2 ^ (l + 1)) (h3 : 2 ≤ l) (h7 : l ≤ 14) (hlow : low + 1 = l) : DistM (a + 1) (2 * (low + 1) + a / 2 ^ low - 2) (a % 2 ^ low) low := by
 refine .inr ?_
 have hp : 0 < 2 ^ low := Nat.pow_pos (by omega)
 have h9 := Nat.div_add_mod a (2 ^ low)
 have hm := Nat.mod_lt a hp
 rcases two_pow_div a l low h1 h2 hlow with h | h
 ·rw [h] at h9 ⊢
  rw [show (2 * (low + 1) + 2 - 2) % 2 = 0 by omega]
  exact ⟨by omega, by omega, by omega, by omega, hm, by omega⟩
 ·rw [h] at h9 ⊢
  rw [show (2 * (low + 1) + 3 - 2) % 2 = 1 by omega]
  exact ⟨by omega, by omega, by omega, by omega, hm, by omega⟩
theorem high_ex (a : Nat) (h : 0 < a) : ∀ n, a < 2 ^ n → ∃ l, 2 ^ l ≤ a ∧ a < 2 ^ (l + 1) ∧ l < n := by
 intro n
 induction n with
 | zero => intro h2; simp at h2; omega
 | succ n ih =>
  intro h2
  by_cases h3 : 2 ^ n ≤ a
  ·exact ⟨n, h3, h2, by omega⟩
  ·obtain ⟨l, h4, h5, h6⟩ := ih (by omega)
   exact ⟨l, h4, h5, by omega⟩
theorem lengthMark_big (a low : Nat) (w : World) (h1 : 2 ^ (low + 2) ≤ a) (h2 : a < 2 ^ (low + 3)) (h3 : 1 ≤ low) (h5 : low ≤ 5) (h258 : a ≠ 255) :
  Calls Tryz.prog 128 #[.int .i64 ((a : Int) + 3)] w fun e w' => ∃ s x m : Nat, e = .returned (.agg #[.int .i64 (s : Nat), .int .i64 (x : Nat), .int .i64 (m : Nat)]) ∧ LenM (a + 3) s x m ∧ Step (fun _ => False) w w' := by
 have ha : a < 256 := Nat.lt_of_lt_of_le h2 (Nat.pow_le_pow_right (by omega) (show low + 3 ≤ 8 by omega))
 have hb := bitLen_of (low + 2) a h1 h2 (by omega)
 have hM := lenM_of (low + 2) a low h1 h2 (by omega) (by omega) rfl h258
 have h8 : 8 ≤ a := Nat.le_trans (Nat.pow_le_pow_right (show 0 < 2 by omega) (show 3 ≤ low + 2 by omega)) h1
 have h4 : a / 2 ^ low ≥ 4 := by
  rw [Nat.pow_add] at h1
  exact (Nat.le_div_iff_mul_le (Nat.pow_pos (by omega))).2 (by rw [Nat.mul_comm]; exact h1)
 have HB := hide hb
 have HM := hide hM
 have hl : low = 1 ∨ low = 2 ∨ low = 3 ∨ low = 4 ∨ low = 5 := by omega
 clear h1 h2 h3 h5 hb hM
 go_enter Tryz.func128, Tryz.ntmps128
 have c1' : ((a : Int) + 3 == 258) = false := beq_eq_false_iff_ne.2 (by omega)
 have c2' : ¬ (a : Int) + 3 - 3 < 8 := by omega
 have hu : IntKind.u64.wrap ((a : Int) + 3 - 3) = (a : Int) := by rw [IntKind.wrap_u64]; omega
 go_wp2_with fail
 refine (len_any a _ (by omega)).mono ?_
 rintro e w1 ⟨rfl, rfl⟩
 rw [unhide HB]
 clear HB hu c1' c2'
 rcases hl with rfl | rfl | rfl | rfl | rfl
 all_goals go_wp2_with fail
 all_goals go_region
 all_goals go_wp2_with fail
 ·refine bodyPost_ret (v := .agg #[.int .i64 (265 + (a : Int) / 2 - 4), .int .i64 ((a : Int) % 2), .int .i64 1]) (by simp [results, Tryz.results128, go_sem]) rfl ⟨_, _, _, ?_, unhide HM, ((Step.refl _ _).alloc _).drew⟩
  rw [show (265 + (a : Int) / 2 - 4) = ((265 + 4 * (1 - 1) + a / 2 ^ 1 - 4 : Nat) : Int) by omega, show (a : Int) % 2 = ((a % 2 ^ 1 : Nat) : Int) by omega]
  rfl
 ·refine bodyPost_ret (v := .agg #[.int .i64 (269 + (a : Int) / 4 - 4), .int .i64 ((a : Int) % 4), .int .i64 2]) (by simp [results, Tryz.results128, go_sem]) rfl ⟨_, _, _, ?_, unhide HM, ((Step.refl _ _).alloc _).drew⟩
  rw [show (269 + (a : Int) / 4 - 4) = ((265 + 4 * (2 - 1) + a / 2 ^ 2 - 4 : Nat) : Int) by omega, show (a : Int) % 4 = ((a % 2 ^ 2 : Nat) : Int) by omega]
  rfl
 ·refine bodyPost_ret (v := .agg #[.int .i64 (273 + (a : Int) / 8 - 4), .int .i64 ((a : Int) % 8), .int .i64 3]) (by simp [results, Tryz.results128, go_sem]) rfl ⟨_, _, _, ?_, unhide HM, ((Step.refl _ _).alloc _).drew⟩
  rw [show (273 + (a : Int) / 8 - 4) = ((265 + 4 * (3 - 1) + a / 2 ^ 3 - 4 : Nat) : Int) by omega, show (a : Int) % 8 = ((a % 2 ^ 3 : Nat) : Int) by omega]
  rfl
 ·refine bodyPost_ret (v := .agg #[.int .i64 (277 + (a : Int) / 16 - 4), .int .i64 ((a : Int) % 16), .int .i64 4]) (by simp [results, Tryz.results128, go_sem]) rfl ⟨_, _, _, ?_, unhide HM, ((Step.refl _ _).alloc _).drew⟩
  rw [show (277 + (a : Int) / 16 - 4) = ((265 + 4 * (4 - 1) + a / 2 ^ 4 - 4 : Nat) : Int) by omega, show (a : Int) % 16 = ((a % 2 ^ 4 : Nat) : Int) by omega]
  rfl
 ·refine bodyPost_ret (v := .agg #[.int .i64 (281 + (a : Int) / 32 - 4), .int .i64 ((a : Int) % 32), .int .i64 5]) (by simp [results, Tryz.results128, go_sem]) rfl ⟨_, _, _, ?_, unhide HM, ((Step.refl _ _).alloc _).drew⟩
  rw [show (281 + (a : Int) / 32 - 4) = ((265 + 4 * (5 - 1) + a / 2 ^ 5 - 4 : Nat) : Int) by omega, show (a : Int) % 32 = ((a % 2 ^ 5 : Nat) : Int) by omega]
  rfl
theorem lengthMark_ok (n : Nat) (w : World) (h3 : 3 ≤ n) (h258 : n ≤ 258) :
  Calls Tryz.prog 128 #[.int .i64 (n : Nat)] w fun e w' => ∃ s x m : Nat, e = .returned (.agg #[.int .i64 (s : Nat), .int .i64 (x : Nat), .int .i64 (m : Nat)]) ∧ LenM n s x m ∧ Step (fun _ => False) w w' := by
 by_cases c1 : n = 258
 ·subst c1
  go_enter Tryz.func128, Tryz.ntmps128
  go_wp2_with fail
  refine bodyPost_ret (v := .agg #[.int .i64 285, .int .i64 0, .int .i64 0]) (by simp [results, Tryz.results128, go_sem]) rfl ⟨285, 0, 0, rfl, .inl ⟨rfl, rfl, rfl, rfl⟩, (Step.refl _ _).alloc _⟩
 by_cases c2 : n < 11
 ·have c1' : ((n : Int) == 258) = false := beq_eq_false_iff_ne.2 (by omega)
  have c2' : (n : Int) - 3 < 8 := by omega
  go_enter Tryz.func128, Tryz.ntmps128
  go_wp2_with fail
  refine bodyPost_ret (v := .agg #[.int .i64 (257 + ((n : Int) - 3)), .int .i64 0, .int .i64 0]) (by simp [results, Tryz.results128, go_sem]) rfl ⟨254 + n, 0, 0, ?_, .inr (.inl ⟨by omega, by omega, by omega, rfl, rfl⟩), (Step.refl _ _).alloc _⟩
  rw [show (257 : Int) + ((n : Int) - 3) = ((254 + n : Nat) : Int) by omega]
  rfl
 ·obtain ⟨a, rfl⟩ : ∃ a, n = a + 3 := ⟨n - 3, by omega⟩
  obtain ⟨l, h1, h2, h4⟩ := high_ex a (by omega) 8 (show a < 256 by omega)
  have h5 : 3 ≤ l := by
   rcases Nat.lt_or_ge l 3 with y | y
   ·have := Nat.pow_le_pow_right (show 0 < 2 by omega) (show l + 1 ≤ 3 by omega)
    have e : (2 : Nat) ^ 3 = 8 := rfl
    omega
   ·exact y
  obtain ⟨low, rfl⟩ : ∃ low, l = low + 2 := ⟨l - 2, by omega⟩
  exact lengthMark_big a low w h1 h2 (by omega) (by omega) (by omega)
theorem distanceMark_big (a low : Nat) (w : World) (h1 : 2 ^ (low + 1) ≤ a) (h2 : a < 2 ^ (low + 2)) (h3 : 1 ≤ low) (h5 : low ≤ 13) :
  Calls Tryz.prog 130 #[.int .i64 ((a : Int) + 1)] w fun e w' => ∃ s x m : Nat, e = .returned (.agg #[.int .i64 (s : Nat), .int .i64 (x : Nat), .int .i64 (m : Nat)]) ∧ DistM (a + 1) s x m ∧ Step (fun _ => False) w w' := by
 have ha : a < 32768 := Nat.lt_of_lt_of_le h2 (Nat.pow_le_pow_right (by omega) (show low + 2 ≤ 15 by omega))
 have hb := bitLen_of (low + 1) a h1 h2 (by omega)
 have hM := distM_of (low + 1) a low h1 h2 (by omega) (by omega) rfl
 have h8 : 4 ≤ a := Nat.le_trans (Nat.pow_le_pow_right (show 0 < 2 by omega) (show 2 ≤ low + 1 by omega)) h1
 have h4 : a / 2 ^ low ≥ 2 := by
  rw [Nat.pow_add] at h1
  exact (Nat.le_div_iff_mul_le (Nat.pow_pos (by omega))).2 (by rw [Nat.mul_comm]; exact h1)
 have HB := hide hb
 have HM := hide hM
 have hl : low = 1 ∨ low = 2 ∨ low = 3 ∨ low = 4 ∨ low = 5 ∨ low = 6 ∨ low = 7 ∨ low = 8 ∨ low = 9 ∨ low = 10 ∨ low = 11 ∨ low = 12 ∨ low = 13 := by omega
 clear h1 h2 h3 h5 hb hM
 go_enter Tryz.func130, Tryz.ntmps130
 have c2' : ¬ (a : Int) + 1 - 1 < 4 := by omega
 have hu : IntKind.u64.wrap ((a : Int) + 1 - 1) = (a : Int) := by rw [IntKind.wrap_u64]; omega
 go_wp2_with fail
 refine (len_any a _ (by omega)).mono ?_
 rintro e w1 ⟨rfl, rfl⟩
 rw [unhide HB]
 clear HB hu c2'
 rcases hl with rfl | rfl | rfl | rfl | rfl | rfl | rfl | rfl | rfl | rfl | rfl | rfl | rfl
 all_goals go_wp2_with fail
 all_goals go_region
 all_goals go_wp2_with fail
 ·refine bodyPost_ret (v := .agg #[.int .i64 (4 + (a : Int) / 2 - 2), .int .i64 ((a : Int) % 2), .int .i64 1]) (by simp [results, Tryz.results130, go_sem]) rfl ⟨_, _, _, ?_, unhide HM, ((Step.refl _ _).alloc _).drew⟩
  rw [show (4 + (a : Int) / 2 - 2) = ((2 * (1 + 1) + a / 2 ^ 1 - 2 : Nat) : Int) by omega, show (a : Int) % 2 = ((a % 2 ^ 1 : Nat) : Int) by omega]
  rfl
 ·refine bodyPost_ret (v := .agg #[.int .i64 (6 + (a : Int) / 4 - 2), .int .i64 ((a : Int) % 4), .int .i64 2]) (by simp [results, Tryz.results130, go_sem]) rfl ⟨_, _, _, ?_, unhide HM, ((Step.refl _ _).alloc _).drew⟩
  rw [show (6 + (a : Int) / 4 - 2) = ((2 * (2 + 1) + a / 2 ^ 2 - 2 : Nat) : Int) by omega, show (a : Int) % 4 = ((a % 2 ^ 2 : Nat) : Int) by omega]
  rfl
 ·refine bodyPost_ret (v := .agg #[.int .i64 (8 + (a : Int) / 8 - 2), .int .i64 ((a : Int) % 8), .int .i64 3]) (by simp [results, Tryz.results130, go_sem]) rfl ⟨_, _, _, ?_, unhide HM, ((Step.refl _ _).alloc _).drew⟩
  rw [show (8 + (a : Int) / 8 - 2) = ((2 * (3 + 1) + a / 2 ^ 3 - 2 : Nat) : Int) by omega, show (a : Int) % 8 = ((a % 2 ^ 3 : Nat) : Int) by omega]
  rfl
 ·refine bodyPost_ret (v := .agg #[.int .i64 (10 + (a : Int) / 16 - 2), .int .i64 ((a : Int) % 16), .int .i64 4]) (by simp [results, Tryz.results130, go_sem]) rfl ⟨_, _, _, ?_, unhide HM, ((Step.refl _ _).alloc _).drew⟩
  rw [show (10 + (a : Int) / 16 - 2) = ((2 * (4 + 1) + a / 2 ^ 4 - 2 : Nat) : Int) by omega, show (a : Int) % 16 = ((a % 2 ^ 4 : Nat) : Int) by omega]
  rfl
 ·refine bodyPost_ret (v := .agg #[.int .i64 (12 + (a : Int) / 32 - 2), .int .i64 ((a : Int) % 32), .int .i64 5]) (by simp [results, Tryz.results130, go_sem]) rfl ⟨_, _, _, ?_, unhide HM, ((Step.refl _ _).alloc _).drew⟩
  rw [show (12 + (a : Int) / 32 - 2) = ((2 * (5 + 1) + a / 2 ^ 5 - 2 : Nat) : Int) by omega, show (a : Int) % 32 = ((a % 2 ^ 5 : Nat) : Int) by omega]
  rfl
 ·refine bodyPost_ret (v := .agg #[.int .i64 (14 + (a : Int) / 64 - 2), .int .i64 ((a : Int) % 64), .int .i64 6]) (by simp [results, Tryz.results130, go_sem]) rfl ⟨_, _, _, ?_, unhide HM, ((Step.refl _ _).alloc _).drew⟩
  rw [show (14 + (a : Int) / 64 - 2) = ((2 * (6 + 1) + a / 2 ^ 6 - 2 : Nat) : Int) by omega, show (a : Int) % 64 = ((a % 2 ^ 6 : Nat) : Int) by omega]
  rfl
 ·refine bodyPost_ret (v := .agg #[.int .i64 (16 + (a : Int) / 128 - 2), .int .i64 ((a : Int) % 128), .int .i64 7]) (by simp [results, Tryz.results130, go_sem]) rfl ⟨_, _, _, ?_, unhide HM, ((Step.refl _ _).alloc _).drew⟩
  rw [show (16 + (a : Int) / 128 - 2) = ((2 * (7 + 1) + a / 2 ^ 7 - 2 : Nat) : Int) by omega, show (a : Int) % 128 = ((a % 2 ^ 7 : Nat) : Int) by omega]
  rfl
 ·refine bodyPost_ret (v := .agg #[.int .i64 (18 + (a : Int) / 256 - 2), .int .i64 ((a : Int) % 256), .int .i64 8]) (by simp [results, Tryz.results130, go_sem]) rfl ⟨_, _, _, ?_, unhide HM, ((Step.refl _ _).alloc _).drew⟩
  rw [show (18 + (a : Int) / 256 - 2) = ((2 * (8 + 1) + a / 2 ^ 8 - 2 : Nat) : Int) by omega, show (a : Int) % 256 = ((a % 2 ^ 8 : Nat) : Int) by omega]
  rfl
 ·refine bodyPost_ret (v := .agg #[.int .i64 (20 + (a : Int) / 512 - 2), .int .i64 ((a : Int) % 512), .int .i64 9]) (by simp [results, Tryz.results130, go_sem]) rfl ⟨_, _, _, ?_, unhide HM, ((Step.refl _ _).alloc _).drew⟩
  rw [show (20 + (a : Int) / 512 - 2) = ((2 * (9 + 1) + a / 2 ^ 9 - 2 : Nat) : Int) by omega, show (a : Int) % 512 = ((a % 2 ^ 9 : Nat) : Int) by omega]
  rfl
 ·refine bodyPost_ret (v := .agg #[.int .i64 (22 + (a : Int) / 1024 - 2), .int .i64 ((a : Int) % 1024), .int .i64 10]) (by simp [results, Tryz.results130, go_sem]) rfl ⟨_, _, _, ?_, unhide HM, ((Step.refl _ _).alloc _).drew⟩
  rw [show (22 + (a : Int) / 1024 - 2) = ((2 * (10 + 1) + a / 2 ^ 10 - 2 : Nat) : Int) by omega, show (a : Int) % 1024 = ((a % 2 ^ 10 : Nat) : Int) by omega]
  rfl
 ·refine bodyPost_ret (v := .agg #[.int .i64 (24 + (a : Int) / 2048 - 2), .int .i64 ((a : Int) % 2048), .int .i64 11]) (by simp [results, Tryz.results130, go_sem]) rfl ⟨_, _, _, ?_, unhide HM, ((Step.refl _ _).alloc _).drew⟩
  rw [show (24 + (a : Int) / 2048 - 2) = ((2 * (11 + 1) + a / 2 ^ 11 - 2 : Nat) : Int) by omega, show (a : Int) % 2048 = ((a % 2 ^ 11 : Nat) : Int) by omega]
  rfl
 ·refine bodyPost_ret (v := .agg #[.int .i64 (26 + (a : Int) / 4096 - 2), .int .i64 ((a : Int) % 4096), .int .i64 12]) (by simp [results, Tryz.results130, go_sem]) rfl ⟨_, _, _, ?_, unhide HM, ((Step.refl _ _).alloc _).drew⟩
  rw [show (26 + (a : Int) / 4096 - 2) = ((2 * (12 + 1) + a / 2 ^ 12 - 2 : Nat) : Int) by omega, show (a : Int) % 4096 = ((a % 2 ^ 12 : Nat) : Int) by omega]
  rfl
 ·refine bodyPost_ret (v := .agg #[.int .i64 (28 + (a : Int) / 8192 - 2), .int .i64 ((a : Int) % 8192), .int .i64 13]) (by simp [results, Tryz.results130, go_sem]) rfl ⟨_, _, _, ?_, unhide HM, ((Step.refl _ _).alloc _).drew⟩
  rw [show (28 + (a : Int) / 8192 - 2) = ((2 * (13 + 1) + a / 2 ^ 13 - 2 : Nat) : Int) by omega, show (a : Int) % 8192 = ((a % 2 ^ 13 : Nat) : Int) by omega]
  rfl
theorem distanceMark_ok (n : Nat) (w : World) (h1 : 1 ≤ n) (h258 : n ≤ 32768) :
  Calls Tryz.prog 130 #[.int .i64 (n : Nat)] w fun e w' => ∃ s x m : Nat, e = .returned (.agg #[.int .i64 (s : Nat), .int .i64 (x : Nat), .int .i64 (m : Nat)]) ∧ DistM n s x m ∧ Step (fun _ => False) w w' := by
 by_cases c2 : n < 5
 ·have c2' : (n : Int) - 1 < 4 := by omega
  go_enter Tryz.func130, Tryz.ntmps130
  go_wp2_with fail
  refine bodyPost_ret (v := .agg #[.int .i64 ((n : Int) - 1), .int .i64 0, .int .i64 0]) (by simp [results, Tryz.results130, go_sem]) rfl ⟨n - 1, 0, 0, ?_, .inl ⟨by omega, by omega, rfl, rfl⟩, (Step.refl _ _).alloc _⟩
  rw [show ((n : Int) - 1) = ((n - 1 : Nat) : Int) by omega]
  rfl
 ·obtain ⟨a, rfl⟩ : ∃ a, n = a + 1 := ⟨n - 1, by omega⟩
  obtain ⟨l, h1, h2, h4⟩ := high_ex a (by omega) 15 (show a < 32768 by omega)
  have h5 : 2 ≤ l := by
   rcases Nat.lt_or_ge l 2 with y | y
   ·have := Nat.pow_le_pow_right (show 0 < 2 by omega) (show l + 1 ≤ 2 by omega)
    have e : (2 : Nat) ^ 2 = 4 := rfl
    omega
   ·exact y
  obtain ⟨low, rfl⟩ : ∃ low, l = low + 1 := ⟨l - 1, by omega⟩
  exact distanceMark_big a low w h1 h2 (by omega) (by omega)
end Go.Proofs.YtbpahojchgpdnaaGreatDoor
