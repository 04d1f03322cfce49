/- Proved here: what the library's Concat does as the fixed tables call it. -/
import Derived.Test.YtnoemlailgbpoaaDoorSlib2
namespace Go.Proofs.YtnoemlailgbpoaaDoor
open Go.RowKit Go.Bel Go.Maps

def rowVal (r : Nat × Nat × Nat) : Value := .slice (some ⟨r.1, 0, none⟩) r.2.2 r.2.2
def sumLen (R : List (Nat × Nat × Nat)) (j : Nat) : Nat := ((R.take j).map (·.2.2)).sum
def allCi (R : List (Nat × Nat × Nat)) : List Value := R.flatMap fun r => ci r.2.1 r.2.2
theorem sumLen_succ {R : List (Nat × Nat × Nat)} {j : Nat} {r : Nat × Nat × Nat} (h : R[j]? = some r) : sumLen R (j + 1) = sumLen R j + r.2.2 := by
  unfold sumLen
  rw [List.take_add_one, h]
  simp
theorem allCi_succ {R : List (Nat × Nat × Nat)} {j : Nat} {r : Nat × Nat × Nat} (h : R[j]? = some r) : allCi (R.take (j + 1)) = allCi (R.take j) ++ ci r.2.1 r.2.2 := by
  unfold allCi
  rw [List.take_add_one, h]
  simp
theorem sumLen_le {R : List (Nat × Nat × Nat)} (hR : ∀ r ∈ R, r.2.2 ≤ 200) (j : Nat) : sumLen R j ≤ 200 * j := by
  induction j with
  | zero => simp [sumLen]
  | succ j ih =>
    cases h : R[j]? with
    | none =>
      have : sumLen R (j + 1) = sumLen R j := by unfold sumLen; rw [List.take_add_one, h]; simp
      omega
    | some r =>
      rw [sumLen_succ h]
      have := hR r (List.mem_of_getElem? h)
      omega
theorem sumLen_mono (R : List (Nat × Nat × Nat)) (j d : Nat) : sumLen R j ≤ sumLen R (j + d) := by
  induction d with
  | zero => exact Nat.le_refl _
  | succ d ih =>
    rw [← Nat.add_assoc]
    cases h : R[j + d]? with
    | none =>
      have : sumLen R (j + d + 1) = sumLen R (j + d) := by unfold sumLen; rw [List.take_add_one, h]; simp
      omega
    | some r => rw [sumLen_succ h]; omega

set_option maxRecDepth 20000 in
set_option maxHeartbeats 1000000 in
theorem concat_ok (a n cap : Nat) (R : List (Nat × Nat × Nat)) (w : World) (hlen : R.length = n) (hn1 : 1 ≤ n) (hn4 : n ≤ 4) (hnc : n ≤ cap)
    (ha : ∀ j r, R[j]? = some r → w.cell? ⟨a, j, none⟩ = some (rowVal r)) (hb : ∀ r ∈ R, w.heap[r.1]? = some (.cells (ci r.2.1 r.2.2).toArray 3 (0, 0))) (hp : ∀ r ∈ R, 1 ≤ r.2.2) (hR : ∀ r ∈ R, r.2.2 ≤ 200) :
    Calls Tryd.prog 95 #[.slice (some ⟨a, 0, none⟩) n cap] w
      fun e w' => ∃ c', e = .returned (.slice (some ⟨w.heap.size, 0, none⟩) (sumLen R n) c') ∧ w'.ownsRow w.heap.size 3 1 (.slice (some ⟨w.heap.size, 0, none⟩) (sumLen R n) c') (sumLen R n) (allCi R) ∧ Below w.heap.size w w' := by
  obtain ⟨i0, hi, hz0, hz1, hz2⟩ := info_parts Tryd.info3
  have HA := hide ha
  have HB := hide hb
  clear ha hb
  go_enter Tryd.func95, Tryd.ntmps95
  go_wp2_with fail
  go_loopw [3, 11] (fun sz i wr => ∃ j : Nat, j ≤ n ∧ i = .int .i64 (j : Nat) ∧ sz = .int .i64 (sumLen R j : Nat) ∧ w = wr) (fun _ i _ => n - (intOf i).toNat)
  case atStart => exact ⟨0, by omega, rfl, rfl, rfl⟩
  case round =>
    obtain ⟨j, hj, rfl, rfl, rfl⟩ := hrel
    by_cases hjn : j < n
    · obtain ⟨⟨g, c, m⟩, hr⟩ : ∃ r, R[j]? = some r := ⟨_, List.getElem?_eq_getElem (by omega)⟩
      have hc : w.cell? ⟨a, j, none⟩ = some (.slice (some ⟨g, 0, none⟩) m m) := unhide HA j _ hr
      have hs : sumLen R (j + 1) = sumLen R j + m := sumLen_succ hr
      have hl1 := sumLen_le hR (j + 1)
      obtain ⟨S, hS⟩ : ∃ S, S = sumLen R j := ⟨_, rfl⟩
      rw [← hS] at hs
      rw [hs] at hl1
      rw [← hS]
      have HS := hide hs
      clear hs hS hr
      have hjn' : (j : Int) < (n : Int) := by omega
      have hl2 : (S : Int) + (m : Int) ≤ 1000 := by omega
      go_wp2_with fail
      go_roundw
      case rel => exact ⟨j + 1, by omega, by go_num, by rw [unhide HS]; go_num, trivial⟩
      case measure => simp [intOf]; omega
    · obtain rfl : j = n := by omega
      have hl1 := sumLen_le hR j
      have hs1 : 1 ≤ sumLen R j := by
        obtain ⟨r, hr⟩ : ∃ r, R[0]? = some r := ⟨_, List.getElem?_eq_getElem (by omega)⟩
        have h1 := sumLen_succ hr
        have h2 := hp r (List.mem_of_getElem? hr)
        have h3 := sumLen_mono R 1 (j - 1)
        rw [show 1 + (j - 1) = j by omega] at h3
        rw [Nat.zero_add] at h1
        omega
      go_wp2_with (go_at_call 101; refine (grow_nil (sumLen R j) _ hs1 (by omega)).mono ?_; rintro e w1 ⟨c1, rfl, hc1, hcm, cs, hcs, hw1⟩)
      have hown : (w.alloc (.cells cs 3 (0, 0))).drew.ownsRow w.heap.size 3 1 (.slice (some ⟨w.heap.size, 0, none⟩) 0 c1) 0 [] :=
        ⟨by simp, .inr ⟨w.heap.size, c1, cs, rfl, Nat.le_refl _, heap_alloc_new _ _, by omega, hcm, by omega, by simp⟩⟩
      have hbel : Below w.heap.size w (w.alloc (.cells cs 3 (0, 0))).drew := ((Below.refl w.heap.size w).alloc (Nat.le_refl _) _).drew
      have HO := hide hown
      have HBE := hide hbel
      have HC1 := hide hc1
      clear hown hbel hw1 hcs hcm hc1
      go_loopw [6, 27] (fun s i wr => ∃ k : Nat, k ≤ j ∧ i = .int .i64 (k : Nat) ∧ s = .slice (some ⟨w.heap.size, 0, none⟩) (sumLen R k) c1 ∧ wr.ownsRow w.heap.size 3 1 (.slice (some ⟨w.heap.size, 0, none⟩) (sumLen R k) c1) (sumLen R k) (allCi (R.take k)) ∧ Below w.heap.size w wr) (fun _ i _ => j - (intOf i).toNat)
      case atStart => exact ⟨0, by omega, rfl, rfl, unhide HO, unhide HBE⟩
      case round =>
        clear HO HBE
        obtain ⟨k, hk, rfl, rfl, hown, hbel⟩ := hrel
        by_cases hkj : k < j
        · obtain ⟨⟨g, c, m⟩, hr⟩ : ∃ r, R[k]? = some r := ⟨_, List.getElem?_eq_getElem (by omega)⟩
          have hc0 : w.cell? ⟨a, k, none⟩ = some (.slice (some ⟨g, 0, none⟩) m m) := unhide HA k _ hr
          have hc := (hbel.cell (p := ⟨a, k, none⟩) (World.block_lt_of_cell? w _ hc0)).trans hc0
          have hs : sumLen R (k + 1) = sumLen R k + m := sumLen_succ hr
          have hal : allCi (R.take (k + 1)) = allCi (R.take k) ++ ci c m := allCi_succ hr
          have hroom : sumLen R k + m ≤ c1 := by
            have := sumLen_mono R (k + 1) (j - (k + 1))
            rw [show k + 1 + (j - (k + 1)) = j by omega] at this
            have := unhide HC1
            omega
          have hgb : w.heap[g]? = some (.cells (ci c m).toArray 3 (0, 0)) := unhide HB _ (List.mem_of_getElem? hr)
          have hsrc : ∀ i u, (ci c m)[i]? = some u → wr.cell? (Addr.add ⟨g, 0, none⟩ i) = some u := by
            intro i u hu
            have h1 := blk_cell hgb i u (by rw [List.getElem?_toArray]; exact hu)
            have hlt := World.block_lt_of_cell? w _ h1
            rw [show (Addr.add ⟨g, 0, none⟩ i) = ⟨g, i, none⟩ by simp [Addr.add]; omega]
            exact (hbel.cell (p := ⟨g, i, none⟩) hlt).trans h1
          have hone : ∀ v ∈ ci c m, v.oneCell' = true := by intro v hv; rw [List.eq_of_mem_replicate hv]; rfl
          obtain ⟨S, hS⟩ : ∃ S, S = sumLen R k := ⟨_, rfl⟩
          rw [← hS] at hs hroom hown
          rw [← hS]
          have HS := hide hs
          have HAL := hide hal
          have HOWN := hide hown
          have HBEL := hide hbel
          have HSRC := hide hsrc
          have HONE := hide hone
          clear hs hS hr hal hown hbel hsrc hone hgb hc0
          have hkj' : (k : Int) < (j : Int) := by omega
          go_wp2_with (at_builtin; refine wpList_append_fits _ rfl (.tmp 31) (.tmp 32) 119 rfl w.heap.size 3 i0 1 Tryd.underlying119 hi hz1 w.heap.size S c1 (allCi (R.take k)) rfl (unhide HOWN) ⟨g, 0, none⟩ m m (ci c m) rfl (by rw [List.length_replicate, Nat.mul_one]) (unhide HSRC) (unhide HONE) hroom ?_; intro w2 ho2 hgr2)
          have hbel2 := (unhide HBEL).grown hgr2 (unhide HBEL).size (fun q hq => by cases hq; exact Nat.le_refl _)
          go_roundw
          case rel => exact ⟨k + 1, by omega, by go_num, by rw [unhide HS], by rw [unhide HS, unhide HAL]; exact ho2, hbel2⟩
          case measure => simp [intOf]; omega
        · obtain rfl : k = j := by omega
          have HOWN := hide hown
          have HBEL := hide hbel
          clear hown hbel
          go_wp2_with fail
          go_ret
          refine ⟨c1, rfl, ?_, unhide HBEL⟩
          have := unhide HOWN
          rw [List.take_of_length_le (by omega)] at this
          exact this
end Go.Proofs.YtnoemlailgbpoaaDoor
