/- Proved here: what the library's Mul, Repeat, Grow and Concat do as the fixed tables call them. -/
import Derived.Test.YtnoemlailgbpoaaDoorRunPure
import Derived.Laws.CopyOwn
import Derived.Deep.RegionLaw
namespace Go.Proofs.YtnoemlailgbpoaaDoor
open Go.RowKit Go.Bel Go.Maps

theorem and_mask (b : Nat) (hb : b < 4294967296) : bits .and .u64 (b : Int) 4294967295 = (b : Int) := by
  have h := bits_and_u64_nat b 4294967295 (by omega) (by omega)
  rw [show (4294967295 : Nat) = 2 ^ 32 - 1 by rfl, Nat.and_two_pow_sub_one_eq_mod, Nat.mod_eq_of_lt (by omega)] at h
  exact h

set_option maxRecDepth 20000 in
set_option maxHeartbeats 400000 in
theorem mul64_one (b : Nat) (w : World) (hb : b < 1000) :
    Calls Tryd.prog 108 #[.int .u64 1, .int .u64 (b : Nat)] w fun e w' => e = .returned (.tuple #[.int .u64 0, .int .u64 (b : Nat)]) ∧ w' = w := by
  have m1 := and_mask b (by omega)
  have m2 : bits .and .u64 (1 : Int) 4294967295 = 1 := by decide
  have m3 : bits .and .u64 (0 : Int) 4294967295 = 0 := by decide
  have d1 : (b : Int) / 4294967296 = 0 := by omega
  have d2 : (b : Int) / 2 ^ 32 = 0 := by omega
  go_enter Tryd.func108, Tryd.ntmps108
  go_wp2
  go_ret2
  exact ⟨rfl, rfl⟩

set_option maxRecDepth 20000 in
set_option maxHeartbeats 400000 in
theorem mul_one (b : Nat) (w : World) (hb : b < 1000) :
    Calls Tryd.prog 102 #[.int .u64 1, .int .u64 (b : Nat)] w fun e w' => e = .returned (.tuple #[.int .u64 0, .int .u64 (b : Nat)]) ∧ w' = w := by
  go_enter Tryd.func102, Tryd.ntmps102
  go_wp2_with (go_at_call 108; refine (mul64_one b _ hb).mono ?_; rintro e w' ⟨rfl, rfl⟩)
  go_ret2
  exact ⟨rfl, rfl⟩

abbrev ci (c n : Nat) : List Value := List.replicate n (.int .i64 (c : Nat))
theorem sizeI : (Tryd.prog.info? 3).map (·.size) = some 1 := by kernel_rfl

theorem splice_ci (c bp n m : Nat) (_h : bp + m ≤ n) : splice (ci c bp ++ ci 0 (n - bp)) bp (ci c m) = ci c (bp + m) ++ ci 0 (n - (bp + m)) := by
  unfold splice
  rw [List.take_append_of_le_length (by simp), List.take_of_length_le (by simp), List.length_replicate, List.drop_append, List.drop_of_length_le (by simp), List.length_replicate, List.nil_append, List.drop_replicate, ← List.append_assoc, List.replicate_append_replicate]
  congr 2
  simp
  omega
theorem ci_cell {w : World} {g c bp n : Nat} (h : w.heap[g]? = some (.cells (ci c bp ++ ci 0 (n - bp)).toArray 3 (0, 0))) (_hb : bp ≤ n) (j : Nat) (hj : j < bp) : w.cell? ⟨g, j, none⟩ = some (.int .i64 (c : Nat)) := by
  refine blk_cell h j _ ?_
  rw [List.getElem?_toArray, List.getElem?_append_left (by simp; exact hj), List.getElem?_replicate, if_pos hj]

theorem full_block {w : World} {base e g n : Nat} {xs : List Value} (h : w.ownsRow base e 1 (.slice (some ⟨g, 0, none⟩) n n) n xs) : w.heap[g]? = some (.cells xs.toArray e (0, 0)) := by
  obtain ⟨hl, ⟨hv, _⟩ | ⟨g', cap, cur, hv, _, hh, _, _, hs, ht⟩⟩ := h
  · simp at hv
  · simp only [Value.slice.injEq, Option.some.injEq, Addr.mk.injEq, and_true, true_and] at hv
    obtain ⟨rfl, rfl⟩ := hv
    rw [hh]
    have : cur.toList = xs := by rw [← ht, List.take_of_length_le (by simp; omega)]
    rw [← this]
theorem made_block {w : World} {base g n : Nat} (h : w.ownsRow base 3 1 (.slice (some ⟨g, 0, none⟩) n n) n (madeCells (Value.int .i64 0).cells (n * 1)).toList) : w.heap[g]? = some (.cells (ci 0 0 ++ ci 0 (n - 0)).toArray 3 (0, 0)) := by
  rw [full_block h]
  have e : (madeCells (Value.int .i64 0).cells (n * 1)).toList = List.replicate n (.int .i64 0) := by rw [Nat.mul_one]; exact toList_madeCells_one _ _
  rw [e]
  simp [ci]

set_option maxRecDepth 20000 in
set_option maxHeartbeats 1000000 in
theorem repeat_ok (k c n cap : Nat) (w : World) (hx : w.cell? ⟨k, 0, none⟩ = some (.int .i64 (c : Nat))) (hn1 : 1 ≤ n) (hn : n ≤ 300) (_hcap : 1 ≤ cap) :
    Calls Tryd.prog 96 #[.slice (some ⟨k, 0, none⟩) 1 cap, .int .i64 (n : Nat)] w
      fun e w' => ∃ g, e = .returned (.slice (some ⟨g, 0, none⟩) n n) ∧ w.heap.size ≤ g ∧ w'.heap[g]? = some (.cells (ci c n).toArray 3 (0, 0)) ∧ Below w.heap.size w w' := by
  obtain ⟨i0, hi, hz0, hz1, hz2⟩ := info_parts Tryd.info3
  have hkl := World.block_lt_of_cell? w _ hx
  obtain ⟨G, hG⟩ : ∃ G, G = w.heap.size := ⟨_, rfl⟩
  have HG := hide hG
  go_enter Tryd.func96, Tryd.ntmps96
  go_wp2_with (first
    | (go_at_call 102; refine (mul_one n _ (by omega)).mono ?_; rintro e w' ⟨rfl, hw'⟩; rw [hw']; clear hw' w')
    | (at_make; refine wpList_make_full _ rfl _ _ 119 rfl w.heap.size 3 i0 (.int .i64 0) 1 Tryd.underlying119 hi hz0 hz1 .i64 .i64 _ _ n rfl rfl rfl rfl (by rw [hz2]; omega) (by unfold maxLen; omega) (Nat.le_refl _) ?_; intro w1 hown1 hgr1; have hblk := made_block hown1; have hbel := (Below.refl w.heap.size w).grown hgr1 (Nat.le_refl _) (fun k hk => by cases hk); have hx1 := (hbel.cell (p := ⟨k, 0, none⟩) hkl).trans hx; have HBLK := hide hblk; have HBEL := hide hbel; clear hown1 hgr1 hblk hbel)
    | (refine wpList_copy_splice rfl (.tmp 31) (.tmp 32) 119 119 rfl 3 Tryd.underlying119 sizeI _ _ n n 1 cap rfl rfl w.heap.size 0 (ci 0 0 ++ ci 0 (n - 0)) 3 (unhide HBLK) (ci c 1) ?s1 ?s2 ?s3 ?s4 w.heap.size w (unhide HBEL) (Nat.le_refl _) ?_; rotate_right; intro w2 hb2 hbel2))
  case s1 => simp only [List.length_replicate]; exact (Nat.min_eq_left hn1).symm
  case s2 =>
    intro j v hj
    match j, hj with
    | 0, hj => simp at hj; subst hj; exact hx1
  case s3 => simp; omega
  case s4 => intro v hv; simp at hv; subst hv; rfl
  rw [show ci 0 0 = ci c 0 from rfl, splice_ci c 0 n 1 (by omega), Nat.zero_add] at hb2
  have HB2 := hide (unhide hb2)
  clear hb2 HBLK HBEL hx1 hx
  go_loopw [8] (fun bp wr => ∃ j : Nat, 1 ≤ j ∧ j ≤ n ∧ bp = .int .i64 (j : Nat) ∧ wr.heap[w.heap.size]? = some (.cells (ci c j ++ ci 0 (n - j)).toArray 3 (0, 0)) ∧ Below w.heap.size w wr) (fun bp _ => n - (intOf bp).toNat)
  case atStart => exact ⟨1, by omega, hn1, rfl, unhide HB2, hbel2⟩
  case round =>
    clear HB2 hbel2
    obtain ⟨j, hj1, hjn, rfl, hblk, hbel⟩ := hrel
    by_cases hlt : j < n
    · obtain ⟨m, hm⟩ : ∃ m, m = Nat.min j (n - j) := ⟨_, rfl⟩
      have hmj : m ≤ j := by rw [hm]; exact Nat.min_le_left _ _
      have hmn0 : m ≤ n - j := by rw [hm]; exact Nat.min_le_right _ _
      have hmn : j + m ≤ n := by clear hm; omega
      have hwj : IntKind.i64.wrap ((j : Int) + (m : Int)) = (j : Int) + (m : Int) := by clear hm; rw [IntKind.wrap_i64]; omega
      have hm1 : 1 ≤ m := by rw [hm]; exact Nat.le_min.2 ⟨hj1, by omega⟩
      have hne : ¬ n = j := by omega
      have hji : (j : Int) ≤ (n : Int) := by omega
      have hj0 : (0 : Int) ≤ (j : Int) := by omega
      have hs5 : (ci c m).length = Nat.min j (n - j) := by rw [List.length_replicate]; exact hm
      have hs6 : 0 < (ci c m).length → ∃ ad, (some ⟨w.heap.size, 0, none⟩ : Option Addr) = some ad ∧ ∀ i v, (ci c m)[i]? = some v → wr.drew.cell? (ad.add i) = some v := by
        intro _
        refine ⟨_, rfl, ?_⟩
        intro i v hv
        rw [List.getElem?_replicate] at hv
        split at hv
        · injection hv with hv
          subst hv
          have := ci_cell hblk hjn i (by omega)
          rw [show (Addr.add ⟨w.heap.size, 0, none⟩ i) = ⟨w.heap.size, i, none⟩ by simp [Addr.add]; omega]
          exact this
        · cases hv
      have hs7 : j + (ci c m).length ≤ (ci c j ++ ci 0 (n - j)).length := by simp only [List.length_append, List.length_replicate]; omega
      have hs8 : ∀ v ∈ ci c m, v.oneCell' = true := by intro v hv; rw [List.eq_of_mem_replicate hv]; rfl
      have HM := hide hm
      have HBLK := hide hblk
      have HBEL := hide hbel
      have H5 := hide hs5
      have H6 := hide hs6
      have H7 := hide hs7
      have H8 := hide hs8
      clear hm hblk hbel hs5 hs6 hs7 hs8
      go_wp2_with fail
      go_region_law (refine step_copy_splice rfl (.tmp 41) (.tmp 44) 119 119 rfl 3 Tryd.underlying119 sizeI (some ⟨w.heap.size, j, none⟩) (some ⟨w.heap.size, 0, none⟩) (n - j) (n - j) j n (by simp [Act.eval, Act.put]) (by simp [Act.eval, Act.put]) w.heap.size j (ci c j ++ ci 0 (n - j)) 3 (unhide HBLK) (ci c m) (unhide H5) (fun h => ⟨rfl, unhide H6 h⟩) (unhide H7) (unhide H8) w.heap.size w (unhide HBEL).drew (Nat.le_refl _) ?_; intro w3 hb3 hbel3; rw [show (ci c m).length = m from List.length_replicate])
      go_simp
      go_roundw
      case rel =>
        refine ⟨_, _, _, _, _, _, _, _, _, _, _, _, _, _, ⟨j + m, by omega, hmn, ?ga, ?gb, hbel3⟩, rfl⟩
        case ga => go_num
        have := unhide hb3
        rw [splice_ci c j n m hmn] at this
        exact this
      case measure => simp [intOf]; omega
    · obtain rfl : j = n := by omega
      have hbe : wr.heap[w.heap.size]? = some (.cells (ci c j).toArray 3 (0, 0)) := by
        rw [hblk, Nat.sub_self]
        simp [ci]
      have HB := hide hbe
      have HBEL := hide hbel
      clear hbe hblk hbel
      go_wp2_with fail
      go_ret
      exact ⟨_, rfl, Nat.le_refl _, unhide HB, unhide HBEL⟩

end Go.Proofs.YtnoemlailgbpoaaDoor
