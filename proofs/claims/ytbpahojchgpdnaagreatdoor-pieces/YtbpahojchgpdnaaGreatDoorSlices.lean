/- Proved here: what the library's Mul, Repeat, Grow and Concat do as the fixed tables call them. -/
import Derived.Laws.CopyOwn
import Derived.Deep.RegionLaw
import Derived.Test.YtbpahojchgpdnaaGreatDoorPlain
import Derived.Lib.AppendZerosOnto
import Derived.Lib.SliceRun
set_option maxRecDepth 20000
set_option maxHeartbeats 4000000
namespace Go.Proofs.YtbpahojchgpdnaaGreatDoor
open Go.RowKit Go.Bel Go.Maps
theorem and_mask (b : Nat) (hb : b < 4294967296) : bits .and .u64 (b : Int) 4294967295 = (b : Int) := by
 have h := bits_and_u64_nat b 4294967295 (by omega) (by omega)
 rw [show (4294967295 : Nat) = 2 ^ 32 - 1 by rfl, Nat.and_two_pow_sub_one_eq_mod, Nat.mod_eq_of_lt (by omega)] at h
 exact h
theorem mul64_one (b : Nat) (w : World) (hb : b < 1000) :
  Calls Tryz.prog 180 #[.int .u64 1, .int .u64 (b : Nat)] w fun e w' => e = .returned (.tuple #[.int .u64 0, .int .u64 (b : Nat)]) ∧ w' = w := by
 have m1 := and_mask b (by omega)
 have m2 : bits .and .u64 (1 : Int) 4294967295 = 1 := by decide
 have m3 : bits .and .u64 (0 : Int) 4294967295 = 0 := by decide
 have d1 : (b : Int) / 4294967296 = 0 := by omega
 have d2 : (b : Int) / 2 ^ 32 = 0 := by omega
 go_enter Tryz.func180, Tryz.ntmps180
 go_wp2
 go_ret2
 exact ⟨rfl, rfl⟩
theorem mul_one (b : Nat) (w : World) (hb : b < 1000) :
  Calls Tryz.prog 159 #[.int .u64 1, .int .u64 (b : Nat)] w fun e w' => e = .returned (.tuple #[.int .u64 0, .int .u64 (b : Nat)]) ∧ w' = w := by
 go_enter Tryz.func159, Tryz.ntmps159
 go_wp2_with (go_at_call 180; refine (mul64_one b _ hb).mono ?_; rintro e w' ⟨rfl, rfl⟩)
 go_ret2
 exact ⟨rfl, rfl⟩
abbrev ci (c n : Nat) : List Value := List.replicate n (.int .i64 (c : Nat))
theorem sizeI : (Tryz.prog.info? 3).map (·.size) = some 1 := by kernel_rfl
theorem splice_ci (c bp n m : Nat) (_h : bp + m ≤ n) : splice (ci c bp ++ ci 0 (n - bp)) bp (ci c m) = ci c (bp + m) ++ ci 0 (n - (bp + m)) := by
 unfold splice
 rw [List.take_append_of_le_length (by simp), List.take_of_length_le (by simp), List.length_replicate, List.drop_append, List.drop_of_length_le (by simp), List.length_replicate, List.nil_append, List.drop_replicate, ← List.append_assoc, List.replicate_append_replicate]
 congr 2
 simp
 omega
theorem ci_cell {w : World} {g c bp n : Nat} (h : w.heap[g]? = some (.cells (ci c bp ++ ci 0 (n - bp)).toArray 3 (0, 0))) (_hb : bp ≤ n) (j : Nat) (hj : j < bp) : w.cell? ⟨g, j, none⟩ = some (.int .i64 (c : Nat)) := by
 refine blk_cell h j _ ?_
 rw [List.getElem?_toArray, List.getElem?_append_left (by simp; exact hj), List.getElem?_replicate, if_pos hj]
theorem full_block {w : World} {base e g n : Nat} {xs : List Value} (h : w.ownsRow base e 1 (.slice (some ⟨g, 0, none⟩) n n) n xs) : w.heap[g]? = some (.cells xs.toArray e (0, 0)) := by
 obtain ⟨hl, ⟨hv, _⟩ | ⟨g', cap, cur, hv, _, hh, _, _, hs, ht⟩⟩ := h
 ·simp at hv
 ·simp only [Value.slice.injEq, Option.some.injEq, Addr.mk.injEq, and_true, true_and] at hv
  obtain ⟨rfl, rfl⟩ := hv
  rw [hh]
  have : cur.toList = xs := by rw [← ht, List.take_of_length_le (by simp; omega)]
  rw [← this]
theorem made_block {w : World} {base g n : Nat} (h : w.ownsRow base 3 1 (.slice (some ⟨g, 0, none⟩) n n) n (madeCells (Value.int .i64 0).cells (n * 1)).toList) : w.heap[g]? = some (.cells (ci 0 0 ++ ci 0 (n - 0)).toArray 3 (0, 0)) := by
 rw [full_block h]
 have e : (madeCells (Value.int .i64 0).cells (n * 1)).toList = List.replicate n (.int .i64 0) := by rw [Nat.mul_one]; exact toList_madeCells_one _ _
 rw [e]
 simp [ci]
theorem repeat_ok (k c n cap : Nat) (w : World) (hx : w.cell? ⟨k, 0, none⟩ = some (.int .i64 (c : Nat))) (hn1 : 1 ≤ n) (hn : n ≤ 300) (_hcap : 1 ≤ cap) :
  Calls Tryz.prog 133 #[.slice (some ⟨k, 0, none⟩) 1 cap, .int .i64 (n : Nat)] w
   fun e w' => ∃ g, e = .returned (.slice (some ⟨g, 0, none⟩) n n) ∧ w.heap.size ≤ g ∧ w'.heap[g]? = some (.cells (ci c n).toArray 3 (0, 0)) ∧ Below w.heap.size w w' := by
 obtain ⟨i0, hi, hz0, hz1, hz2⟩ := info_parts Tryz.info3
 have hkl := World.block_lt_of_cell? w _ hx
 obtain ⟨G, hG⟩ : ∃ G, G = w.heap.size := ⟨_, rfl⟩
 have HG := hide hG
 go_enter Tryz.func133, Tryz.ntmps133
 go_wp2_with (first
  | (go_at_call 159; refine (mul_one n _ (by omega)).mono ?_; rintro e w' ⟨rfl, hw'⟩; rw [hw']; clear hw' w')
  | (at_make; refine wpList_make_full _ rfl _ _ 57 rfl w.heap.size 3 i0 (.int .i64 0) 1 Tryz.underlying57 hi hz0 hz1 .i64 .i64 _ _ n rfl rfl rfl rfl (by rw [hz2]; omega) (by unfold maxLen; omega) (Nat.le_refl _) ?_; intro w1 hown1 hgr1; have hblk := made_block hown1; have hbel := (Below.refl w.heap.size w).grown hgr1 (Nat.le_refl _) (fun k hk => by cases hk); have hx1 := (hbel.cell (p := ⟨k, 0, none⟩) hkl).trans hx; have HBLK := hide hblk; have HBEL := hide hbel; clear hown1 hgr1 hblk hbel)
  | (refine wpList_copy_splice rfl (.tmp 31) (.tmp 32) 57 57 rfl 3 Tryz.underlying57 sizeI _ _ n n 1 cap rfl rfl w.heap.size 0 (ci 0 0 ++ ci 0 (n - 0)) 3 (unhide HBLK) (ci c 1) ?s1 ?s2 ?s3 ?s4 w.heap.size w (unhide HBEL) (Nat.le_refl _) ?_; rotate_right; intro w2 hb2 hbel2))
 case s1 => simp only [List.length_replicate]; exact (Nat.min_eq_left hn1).symm
 case s2 =>
  intro j v hj
  match j, hj with
  | 0, hj => simp at hj; subst hj; exact hx1
 case s3 => simp; omega
 case s4 => intro v hv; simp at hv; subst hv; rfl
 rw [show ci 0 0 = ci c 0 from rfl, splice_ci c 0 n 1 (by omega), Nat.zero_add] at hb2
 have HB2 := hide (unhide hb2)
 clear hb2 HBLK HBEL hx1 hx
 go_loopw [8] (fun bp wr => ∃ j : Nat, 1 ≤ j ∧ j ≤ n ∧ bp = .int .i64 (j : Nat) ∧ wr.heap[w.heap.size]? = some (.cells (ci c j ++ ci 0 (n - j)).toArray 3 (0, 0)) ∧ Below w.heap.size w wr) (fun bp _ => n - (intOf bp).toNat)
 case atStart => exact ⟨1, by omega, hn1, rfl, unhide HB2, hbel2⟩
 case round =>
  clear HB2 hbel2
  obtain ⟨j, hj1, hjn, rfl, hblk, hbel⟩ := hrel
  by_cases hlt : j < n
  ·obtain ⟨m, hm⟩ : ∃ m, m = Nat.min j (n - j) := ⟨_, rfl⟩
   have hmj : m ≤ j := by rw [hm]; exact Nat.min_le_left _ _
   have hmn0 : m ≤ n - j := by rw [hm]; exact Nat.min_le_right _ _
   have hmn : j + m ≤ n := by clear hm; omega
   have hwj : IntKind.i64.wrap ((j : Int) + (m : Int)) = (j : Int) + (m : Int) := by clear hm; rw [IntKind.wrap_i64]; omega
   have hm1 : 1 ≤ m := by rw [hm]; exact Nat.le_min.2 ⟨hj1, by omega⟩
   have hne : ¬ n = j := by omega
   have hji : (j : Int) ≤ (n : Int) := by omega
   have hj0 : (0 : Int) ≤ (j : Int) := by omega
   have hs5 : (ci c m).length = Nat.min j (n - j) := by rw [List.length_replicate]; exact hm
   have hs6 : 0 < (ci c m).length → ∃ ad, (some ⟨w.heap.size, 0, none⟩ : Option Addr) = some ad ∧ ∀ i v, (ci c m)[i]? = some v → wr.drew.cell? (ad.add i) = some v := by
    intro _
    refine ⟨_, rfl, ?_⟩
    intro i v hv
    rw [List.getElem?_replicate] at hv
    split at hv
    ·injection hv with hv
     subst hv
     have := ci_cell hblk hjn i (by omega)
     rw [show (Addr.add ⟨w.heap.size, 0, none⟩ i) = ⟨w.heap.size, i, none⟩ by simp [Addr.add]; omega]
     exact this
    ·cases hv
   have hs7 : j + (ci c m).length ≤ (ci c j ++ ci 0 (n - j)).length := by simp only [List.length_append, List.length_replicate]; omega
   have hs8 : ∀ v ∈ ci c m, v.oneCell' = true := by intro v hv; rw [List.eq_of_mem_replicate hv]; rfl
   have HM := hide hm
   have HBLK := hide hblk
   have HBEL := hide hbel
   have H5 := hide hs5
   have H6 := hide hs6
   have H7 := hide hs7
   have H8 := hide hs8
   clear hm hblk hbel hs5 hs6 hs7 hs8
   go_wp2_with fail
   go_region_law (refine step_copy_splice rfl (.tmp 41) (.tmp 44) 57 57 rfl 3 Tryz.underlying57 sizeI (some ⟨w.heap.size, j, none⟩) (some ⟨w.heap.size, 0, none⟩) (n - j) (n - j) j n (by simp [Act.eval, Act.put]) (by simp [Act.eval, Act.put]) w.heap.size j (ci c j ++ ci 0 (n - j)) 3 (unhide HBLK) (ci c m) (unhide H5) (fun h => ⟨rfl, unhide H6 h⟩) (unhide H7) (unhide H8) w.heap.size w (unhide HBEL).drew (Nat.le_refl _) ?_; intro w3 hb3 hbel3; rw [show (ci c m).length = m from List.length_replicate])
   go_simp
   go_roundw
   case rel =>
    refine ⟨_, _, _, _, _, _, _, _, _, _, _, _, _, _, ⟨j + m, by omega, hmn, ?ga, ?gb, hbel3⟩, rfl⟩
    case ga => go_num
    have := unhide hb3
    rw [splice_ci c j n m hmn] at this
    exact this
   case measure => simp [intOf]; omega
  ·obtain rfl : j = n := by omega
   have hbe : wr.heap[w.heap.size]? = some (.cells (ci c j).toArray 3 (0, 0)) := by
    rw [hblk, Nat.sub_self]
    simp [ci]
   have HB := hide hbe
   have HBEL := hide hbel
   clear hbe hblk hbel
   go_wp2_with fail
   go_ret
   exact ⟨_, rfl, Nat.le_refl _, unhide HB, unhide HBEL⟩
end Go.Proofs.YtbpahojchgpdnaaGreatDoor
namespace Go.Proofs.YtbpahojchgpdnaaGreatDoor
open Go.RowKit Go.Bel Go.Maps
theorem zeroCells_size (z : Array Value) (n : Nat) : (Builtin.zeroCells z n).size = n * z.size := by
 simp [Builtin.zeroCells]
theorem grow_nil (n : Nat) (w : World) (hn1 : 1 ≤ n) (hn : n ≤ 1000) :
  Calls Tryz.prog 158 #[.slice none 0 0, .int .i64 (n : Nat)] w
   fun e w' => ∃ cap, e = .returned (.slice (some ⟨w.heap.size, 0, none⟩) 0 cap) ∧ n ≤ cap ∧ cap ≤ maxLen ∧ (∃ cs : Array Value, cs.size = cap ∧ w' = w.drew.alloc (.cells cs 3 (0, 0))) := by
 obtain ⟨i0, hi, hz0, hz1, hz2⟩ := info_parts Tryz.info3
 have hold : (Builtin.firstCells i0.size 0 (.slice none 0 0)).run Tryz.prog w.drew = .ok ([] : List Value).toArray w.drew := run_firstCells_none w.drew i0.size 0 0 0
 have hrz : ∀ ty, _ := fun ty => Lib.run_append_grow_zeros (P := Tryz.prog) w 57 3 ty 3 i0 (.int .i64 0) .i64 .i64 Tryz.underlying57 Tryz.underlying3 hi hz0 none 0 0 [] hold n hn1 (by omega) (by omega) (by omega) (by rw [hz2]; omega) (by rw [hz2]; simp [Builtin.nextslicecap]; split <;> omega)
 simp only [Nat.zero_add] at hrz
 have hge := grownCap_ge w n 0 3
 have hle := grownCap_le_maxLen w n 0 3 (by unfold maxLen; omega)
 obtain ⟨G, hG⟩ : ∃ G, G = grownCap w n 0 3 := ⟨_, rfl⟩
 rw [← hG] at hrz hge hle
 clear hG
 obtain ⟨cs, hcs⟩ : ∃ cs : Array Value, cs = ([] : List Value).toArray ++ Builtin.zeroCells (Value.int .i64 0).cells n ++ Builtin.zeroCells (Value.int .i64 0).cells (G - n) := ⟨_, rfl⟩
 rw [← hcs] at hrz
 have hsz : cs.size = G := by
  rw [hcs, Array.size_append, Array.size_append, zeroCells_size, zeroCells_size, show (Value.int .i64 0).cells.size = 1 from rfl]
  simp
  omega
 have HS := hide hsz
 have HGE := hide hge
 have HLE := hide hle
 have hG63 : (G : Int) ≤ 9223372036854775807 := by unfold maxLen at hle; omega
 have hnp : (0 : Int) < (n : Int) := by omega
 clear hcs hsz hge hle hold
 go_enter Tryz.func158, Tryz.ntmps158
 go_wp2_with (at_builtin; refine Lib.wpList_append_run _ rfl _ _ _ _ rfl _ _ rfl rfl _ _ (hrz _) ?_)
 go_ret
 exact ⟨G, rfl, unhide HGE, unhide HLE, cs, unhide HS, rfl⟩
end Go.Proofs.YtbpahojchgpdnaaGreatDoor
namespace Go.Proofs.YtbpahojchgpdnaaGreatDoor
open Go.RowKit Go.Bel Go.Maps
def rowVal (r : Nat × Nat × Nat) : Value := .slice (some ⟨r.1, 0, none⟩) r.2.2 r.2.2
def sumLen (R : List (Nat × Nat × Nat)) (j : Nat) : Nat := ((R.take j).map (·.2.2)).sum
def allCi (R : List (Nat × Nat × Nat)) : List Value := R.flatMap fun r => ci r.2.1 r.2.2
theorem sumLen_succ {R : List (Nat × Nat × Nat)} {j : Nat} {r : Nat × Nat × Nat} (h : R[j]? = some r) : sumLen R (j + 1) = sumLen R j + r.2.2 := by
 unfold sumLen
 rw [List.take_add_one, h]
 simp
theorem allCi_succ {R : List (Nat × Nat × Nat)} {j : Nat} {r : Nat × Nat × Nat} (h : R[j]? = some r) : allCi (R.take (j + 1)) = allCi (R.take j) ++ ci r.2.1 r.2.2 := by
 unfold allCi
 rw [List.take_add_one, h]
 simp
theorem sumLen_le {R : List (Nat × Nat × Nat)} (hR : ∀ r ∈ R, r.2.2 ≤ 200) (j : Nat) : sumLen R j ≤ 200 * j := by
 induction j with
 | zero => simp [sumLen]
 | succ j ih =>
  cases h : R[j]? with
  | none =>
   have : sumLen R (j + 1) = sumLen R j := by unfold sumLen; rw [List.take_add_one, h]; simp
   omega
  | some r =>
   rw [sumLen_succ h]
   have := hR r (List.mem_of_getElem? h)
   omega
theorem sumLen_mono (R : List (Nat × Nat × Nat)) (j d : Nat) : sumLen R j ≤ sumLen R (j + d) := by
 induction d with
 | zero => exact Nat.le_refl _
 | succ d ih =>
  rw [← Nat.add_assoc]
  cases h : R[j + d]? with
  | none =>
   have : sumLen R (j + d + 1) = sumLen R (j + d) := by unfold sumLen; rw [List.take_add_one, h]; simp
   omega
  | some r => rw [sumLen_succ h]; omega
theorem concat_ok (a n cap : Nat) (R : List (Nat × Nat × Nat)) (w : World) (hlen : R.length = n) (hn1 : 1 ≤ n) (hn4 : n ≤ 4) (hnc : n ≤ cap)
  (ha : ∀ j r, R[j]? = some r → w.cell? ⟨a, j, none⟩ = some (rowVal r)) (hb : ∀ r ∈ R, w.heap[r.1]? = some (.cells (ci r.2.1 r.2.2).toArray 3 (0, 0))) (hp : ∀ r ∈ R, 1 ≤ r.2.2) (hR : ∀ r ∈ R, r.2.2 ≤ 200) :
  Calls Tryz.prog 132 #[.slice (some ⟨a, 0, none⟩) n cap] w
   fun e w' => ∃ c', e = .returned (.slice (some ⟨w.heap.size, 0, none⟩) (sumLen R n) c') ∧ w'.ownsRow w.heap.size 3 1 (.slice (some ⟨w.heap.size, 0, none⟩) (sumLen R n) c') (sumLen R n) (allCi R) ∧ Below w.heap.size w w' := by
 obtain ⟨i0, hi, hz0, hz1, hz2⟩ := info_parts Tryz.info3
 have HA := hide ha
 have HB := hide hb
 clear ha hb
 go_enter Tryz.func132, Tryz.ntmps132
 go_wp2_with fail
 go_loopw [3, 11] (fun sz i wr => ∃ j : Nat, j ≤ n ∧ i = .int .i64 (j : Nat) ∧ sz = .int .i64 (sumLen R j : Nat) ∧ w = wr) (fun _ i _ => n - (intOf i).toNat)
 case atStart => exact ⟨0, by omega, rfl, rfl, rfl⟩
 case round =>
  obtain ⟨j, hj, rfl, rfl, rfl⟩ := hrel
  by_cases hjn : j < n
  ·obtain ⟨⟨g, c, m⟩, hr⟩ : ∃ r, R[j]? = some r := ⟨_, List.getElem?_eq_getElem (by omega)⟩
   have hc : w.cell? ⟨a, j, none⟩ = some (.slice (some ⟨g, 0, none⟩) m m) := unhide HA j _ hr
   have hs : sumLen R (j + 1) = sumLen R j + m := sumLen_succ hr
   have hl1 := sumLen_le hR (j + 1)
   obtain ⟨S, hS⟩ : ∃ S, S = sumLen R j := ⟨_, rfl⟩
   rw [← hS] at hs
   rw [hs] at hl1
   rw [← hS]
   have HS := hide hs
   clear hs hS hr
   have hjn' : (j : Int) < (n : Int) := by omega
   have hl2 : (S : Int) + (m : Int) ≤ 1000 := by omega
   go_wp2_with fail
   go_roundw
   case rel => exact ⟨j + 1, by omega, by go_num, by rw [unhide HS]; go_num, trivial⟩
   case measure => simp [intOf]; omega
  ·obtain rfl : j = n := by omega
   have hl1 := sumLen_le hR j
   have hs1 : 1 ≤ sumLen R j := by
    obtain ⟨r, hr⟩ : ∃ r, R[0]? = some r := ⟨_, List.getElem?_eq_getElem (by omega)⟩
    have h1 := sumLen_succ hr
    have h2 := hp r (List.mem_of_getElem? hr)
    have h3 := sumLen_mono R 1 (j - 1)
    rw [show 1 + (j - 1) = j by omega] at h3
    rw [Nat.zero_add] at h1
    omega
   go_wp2_with (go_at_call 158; refine (grow_nil (sumLen R j) _ hs1 (by omega)).mono ?_; rintro e w1 ⟨c1, rfl, hc1, hcm, cs, hcs, hw1⟩)
   have hown : (w.alloc (.cells cs 3 (0, 0))).drew.ownsRow w.heap.size 3 1 (.slice (some ⟨w.heap.size, 0, none⟩) 0 c1) 0 [] :=
    ⟨by simp, .inr ⟨w.heap.size, c1, cs, rfl, Nat.le_refl _, heap_alloc_new _ _, by omega, hcm, by omega, by simp⟩⟩
   have hbel : Below w.heap.size w (w.alloc (.cells cs 3 (0, 0))).drew := ((Below.refl w.heap.size w).alloc (Nat.le_refl _) _).drew
   have HO := hide hown
   have HBE := hide hbel
   have HC1 := hide hc1
   clear hown hbel hw1 hcs hcm hc1
   go_loopw [6, 27] (fun s i wr => ∃ k : Nat, k ≤ j ∧ i = .int .i64 (k : Nat) ∧ s = .slice (some ⟨w.heap.size, 0, none⟩) (sumLen R k) c1 ∧ wr.ownsRow w.heap.size 3 1 (.slice (some ⟨w.heap.size, 0, none⟩) (sumLen R k) c1) (sumLen R k) (allCi (R.take k)) ∧ Below w.heap.size w wr) (fun _ i _ => j - (intOf i).toNat)
   case atStart => exact ⟨0, by omega, rfl, rfl, unhide HO, unhide HBE⟩
   case round =>
    clear HO HBE
    obtain ⟨k, hk, rfl, rfl, hown, hbel⟩ := hrel
    by_cases hkj : k < j
    ·obtain ⟨⟨g, c, m⟩, hr⟩ : ∃ r, R[k]? = some r := ⟨_, List.getElem?_eq_getElem (by omega)⟩
     have hc0 : w.cell? ⟨a, k, none⟩ = some (.slice (some ⟨g, 0, none⟩) m m) := unhide HA k _ hr
     have hc := (hbel.cell (p := ⟨a, k, none⟩) (World.block_lt_of_cell? w _ hc0)).trans hc0
     have hs : sumLen R (k + 1) = sumLen R k + m := sumLen_succ hr
     have hal : allCi (R.take (k + 1)) = allCi (R.take k) ++ ci c m := allCi_succ hr
     have hroom : sumLen R k + m ≤ c1 := by
      have := sumLen_mono R (k + 1) (j - (k + 1))
      rw [show k + 1 + (j - (k + 1)) = j by omega] at this
      have := unhide HC1
      omega
     have hgb : w.heap[g]? = some (.cells (ci c m).toArray 3 (0, 0)) := unhide HB _ (List.mem_of_getElem? hr)
     have hsrc : ∀ i u, (ci c m)[i]? = some u → wr.cell? (Addr.add ⟨g, 0, none⟩ i) = some u := by
      intro i u hu
      have h1 := blk_cell hgb i u (by rw [List.getElem?_toArray]; exact hu)
      have hlt := World.block_lt_of_cell? w _ h1
      rw [show (Addr.add ⟨g, 0, none⟩ i) = ⟨g, i, none⟩ by simp [Addr.add]; omega]
      exact (hbel.cell (p := ⟨g, i, none⟩) hlt).trans h1
     have hone : ∀ v ∈ ci c m, v.oneCell' = true := by intro v hv; rw [List.eq_of_mem_replicate hv]; rfl
     obtain ⟨S, hS⟩ : ∃ S, S = sumLen R k := ⟨_, rfl⟩
     rw [← hS] at hs hroom hown
     rw [← hS]
     have HS := hide hs
     have HAL := hide hal
     have HOWN := hide hown
     have HBEL := hide hbel
     have HSRC := hide hsrc
     have HONE := hide hone
     clear hs hS hr hal hown hbel hsrc hone hgb hc0
     have hkj' : (k : Int) < (j : Int) := by omega
     go_wp2_with (at_builtin; refine wpList_append_fits _ rfl (.tmp 31) (.tmp 32) 57 rfl w.heap.size 3 i0 1 Tryz.underlying57 hi hz1 w.heap.size S c1 (allCi (R.take k)) rfl (unhide HOWN) ⟨g, 0, none⟩ m m (ci c m) rfl (by rw [List.length_replicate, Nat.mul_one]) (unhide HSRC) (unhide HONE) hroom ?_; intro w2 ho2 hgr2)
     have hbel2 := (unhide HBEL).grown hgr2 (unhide HBEL).size (fun q hq => by cases hq; exact Nat.le_refl _)
     go_roundw
     case rel => exact ⟨k + 1, by omega, by go_num, by rw [unhide HS], by rw [unhide HS, unhide HAL]; exact ho2, hbel2⟩
     case measure => simp [intOf]; omega
    ·obtain rfl : k = j := by omega
     have HOWN := hide hown
     have HBEL := hide hbel
     clear hown hbel
     go_wp2_with fail
     go_ret
     refine ⟨c1, rfl, ?_, unhide HBEL⟩
     have := unhide HOWN
     rw [List.take_of_length_le (by omega)] at this
     exact this
end Go.Proofs.YtbpahojchgpdnaaGreatDoor
namespace Go.Proofs.YtbpahojchgpdnaaGreatDoor
open Go.RowKit Go.Bel Go.Maps
theorem far_may : mayB (List.replicate 32 5) = true := by decide +kernel
theorem fix_all (g1 g2 g3 g4 : Nat) : allCi [(g1, 8, 144), (g2, 9, 112), (g3, 7, 24), (g4, 8, 8)] = fixLens.map fun (c : Nat) => Value.int .i64 (c : Nat) := by
 simp only [allCi, fixLens, List.flatMap_cons, List.flatMap_nil, List.map_append, List.map_replicate, List.append_nil, List.append_assoc, ci]
theorem fix_sum (g1 g2 g3 g4 : Nat) : sumLen [(g1, 8, 144), (g2, 9, 112), (g3, 7, 24), (g4, 8, 8)] 4 = 288 := by
 rfl
theorem ints_of_cells {w : World} {g : Nat} {L : List Nat} (h : ∀ j u, (L.map fun (c : Nat) => Value.int .i64 (c : Nat))[j]? = some u → w.cell? (Addr.add ⟨g, 0, none⟩ j) = some u) (hle : ∀ i : Nat, L[i]?.getD 0 ≤ 15) (hm : L.length ≤ 1000) : Ints w g 0 L := by
 refine ⟨fun i hi => ?_, hle, hm⟩
 have := h i (.int .i64 (L[i] : Nat)) (by rw [List.getElem?_map, List.getElem?_eq_getElem hi]; rfl)
 rw [show (Addr.add ⟨g, 0, none⟩ i) = ⟨g, 0 + i, none⟩ by simp [Addr.add]; omega] at this
 rw [this, List.getElem?_eq_getElem hi]
 rfl
theorem ints_far {w : World} {g : Nat} (h : w.heap[g]? = some (.cells (ci 5 32).toArray 3 (0, 0))) : Ints w g 0 (List.replicate 32 5) := by
 refine ⟨fun i hi => ?_, fun i => ?_, by simp⟩
 ·rw [List.length_replicate] at hi
  refine blk_cell h (0 + i) _ ?_
  rw [List.getElem?_toArray, List.getElem?_replicate, if_pos (by omega), List.getElem?_replicate, if_pos hi]
  rfl
 ·rw [List.getElem?_replicate]
  split <;> simp
end Go.Proofs.YtbpahojchgpdnaaGreatDoor
