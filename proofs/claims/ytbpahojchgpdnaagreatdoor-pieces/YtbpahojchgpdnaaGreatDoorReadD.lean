/- Proved here: what the library's Grow and Concat do to rows of bytes. -/
import Derived.Lib.SlFresh
import Derived.Test.YtbpahojchgpdnaaGreatDoorReadC
set_option maxRecDepth 20000
set_option maxHeartbeats 4000000
namespace Go.Bel
structure Cp where
 v : Value
 m : Nat
 xs : List Value
def Cp.ok (w : World) (size : Nat) (p : Cp) : Prop := p.xs.length = p.m * size ∧ (∀ u ∈ p.xs, u.oneCell' = true) ∧ ∃ ao c, p.v = .slice ao p.m c ∧ (ao = none → p.m = 0 ∧ c = 0) ∧ ∀ ad, ao = some ad → ∀ j u, p.xs[j]? = some u → w.cell? (ad.add j) = some u
def sumC (R : List Cp) (j : Nat) : Nat := ((R.take j).map (·.m)).sum
def allC (R : List Cp) : List Value := R.flatMap (·.xs)
theorem sumC_succ {R : List Cp} {j : Nat} {r : Cp} (h : R[j]? = some r) : sumC R (j + 1) = sumC R j + r.m := by
 unfold sumC
 rw [List.take_add_one, h]
 simp
theorem allC_succ {R : List Cp} {j : Nat} {r : Cp} (h : R[j]? = some r) : allC (R.take (j + 1)) = allC (R.take j) ++ r.xs := by
 unfold allC
 rw [List.take_add_one, h]
 simp
theorem sumC_mono (R : List Cp) (j d : Nat) : sumC R j ≤ sumC R (j + d) := by
 induction d with
 | zero => exact Nat.le_refl _
 | succ d ih =>
  refine Nat.le_trans ih ?_
  cases h : R[j + d]? with
  | none =>
   have : sumC R (j + d + 1) = sumC R (j + d) := by unfold sumC; rw [List.take_add_one, h]; simp
   rw [← Nat.add_assoc, this]
   exact Nat.le_refl _
  | some r => rw [← Nat.add_assoc, sumC_succ h]; omega
end Go.Bel
namespace Go.Proofs.YtbpahojchgpdnaaGreatDoor
open Go.RowKit Go.Lib Go.Bel
theorem Step.of_below_b {w w' : World} (h : Below w.heap.size w w') : Step (fun _ => False) w w' := ⟨h.os, h.tape, h.output, h.size, fun k hk _ => h.block k hk⟩
theorem append_nothing (ty : TypeId) (ao : Option Addr) (c : Nat) (w : World) : (Builtin.append_ #[31, 31] ty #[.slice none 0 0, .slice ao 0 c]).run Tryz.prog w = .ok (.slice none 0 0) w := by
 obtain ⟨i0, hi, hz0, hz1, hz2⟩ := info_parts Tryz.info5
 cases ao with
 | none => simp [Builtin.append_, run_underlying Tryz.underlying31, sizeOf, typeInfo, hi, Builtin.lenOf, Builtin.firstCells]
 | some ad => simp [Builtin.append_, run_underlying Tryz.underlying31, sizeOf, typeInfo, hi, Builtin.lenOf, Builtin.firstCells, loadCells, loadCellsFrom]
theorem growNo (w : World) :
  Calls Tryz.prog 109 #[.slice none 0 0, .int .i64 0] w fun e w' => e = .returned (.slice none 0 0) ∧ w' = w := by
 go_enter Tryz.func109, Tryz.ntmps109
 go_wp2_with fail
 go_ret
 exact ⟨rfl, rfl⟩
theorem concatNo (a : Nat) (ao bo : Option Addr) (ca cb : Nat) (w : World) (ha : w.cell? ⟨a, 0, none⟩ = some (.slice ao 0 ca)) (hb : w.cell? ⟨a, 1, none⟩ = some (.slice bo 0 cb)) :
  Calls Tryz.prog 64 #[.slice (some ⟨a, 0, none⟩) 2 2] w fun e w' => e = .returned (.slice none 0 0) ∧ w' = w := by
 go_enter Tryz.func64, Tryz.ntmps64
 go_wp2_with fail
 go_loopw [3, 11] (fun sz i wr => (∃ j : Nat, j ≤ 2 ∧ i = .int .i64 (j : Nat)) ∧ sz = .int .i64 0 ∧ w = wr) (fun _ i _ => 2 - (RowKit.intOf i).toNat)
 case atStart => exact ⟨⟨0, by omega, rfl⟩, rfl, rfl⟩
 case round =>
  obtain ⟨⟨j, hj, rfl⟩, rfl, rfl⟩ := hrel
  have hc : j = 0 ∨ j = 1 ∨ j = 2 := by omega
  rcases hc with rfl | rfl | rfl
  ·go_wp2_with fail
   go_roundw
   case rel => exact ⟨⟨1, by omega, rfl⟩, by trivial, by trivial⟩
   case measure => simp [RowKit.intOf]
  ·go_wp2_with fail
   go_roundw
   case rel => exact ⟨⟨2, by omega, rfl⟩, by trivial, by trivial⟩
   case measure => simp [RowKit.intOf]
  ·go_wp2_with (go_at_call 109; refine (growNo _).mono ?_; rintro e w1 ⟨rfl, rfl⟩)
   go_loopw [6, 27] (fun s i wr => (∃ j : Nat, j ≤ 2 ∧ i = .int .i64 (j : Nat)) ∧ s = .slice none 0 0 ∧ w1 = wr) (fun _ i _ => 2 - (RowKit.intOf i).toNat)
   case atStart => exact ⟨⟨0, by omega, rfl⟩, rfl, rfl⟩
   case round =>
    obtain ⟨⟨k, hk, rfl⟩, rfl, rfl⟩ := hrel
    have hc : k = 0 ∨ k = 1 ∨ k = 2 := by omega
    rcases hc with rfl | rfl | rfl
    ·go_wp2_with (at_builtin; refine wpList_append_run_sl _ rfl (.tmp 31) (.tmp 32) 31 rfl _ _ rfl rfl (append_nothing _ _ _ _) ?_)
     go_roundw
     case rel => exact ⟨⟨1, by omega, rfl⟩, by trivial, by trivial⟩
     case measure => simp [RowKit.intOf]
    ·go_wp2_with (at_builtin; refine wpList_append_run_sl _ rfl (.tmp 31) (.tmp 32) 31 rfl _ _ rfl rfl (append_nothing _ _ _ _) ?_)
     go_roundw
     case rel => exact ⟨⟨2, by omega, rfl⟩, by trivial, by trivial⟩
     case measure => simp [RowKit.intOf]
    ·go_wp2_with fail
     go_ret
     exact ⟨rfl, rfl⟩
theorem growB (n : Nat) (w : World) (hn1 : 1 ≤ n) (hn : n ≤ 4000000) :
  Calls Tryz.prog 109 #[.slice none 0 0, .int .i64 (n : Nat)] w
   fun e w' => ∃ cap, e = .returned (.slice (some ⟨w.heap.size, 0, none⟩) 0 cap) ∧ n ≤ cap ∧ cap ≤ maxLen ∧ (∃ cs : Array Value, cs.size = cap * 1 ∧ w' = w.drew.alloc (.cells cs 5 (0, 0))) := by
 obtain ⟨i0, hi, hz0, hz1, hz2⟩ := info_parts Tryz.info5
 have hold : (Builtin.firstCells i0.size 0 (.slice none 0 0)).run Tryz.prog w.drew = .ok ([] : List Value).toArray w.drew := run_firstCells_none w.drew i0.size 0 0 0
 have hrz : ∀ ty, _ := fun ty => Lib.run_append_grow_zeros (P := Tryz.prog) w 31 3 ty 5 i0 (Value.int .u8 0) .i64 .i64 Tryz.underlying31 Tryz.underlying3 hi hz0 none 0 0 [] hold n hn1 (by omega) (by omega) (by omega) (by rw [hz2]; omega) (by rw [hz2]; simp [Builtin.nextslicecap]; split <;> omega)
 simp only [Nat.zero_add] at hrz
 have hge := grownCap_ge w n 0 5
 have hle := grownCap_le_maxLen w n 0 5 (by unfold maxLen; omega)
 obtain ⟨G, hG⟩ : ∃ G, G = grownCap w n 0 5 := ⟨_, rfl⟩
 rw [← hG] at hrz hge hle
 clear hG
 obtain ⟨cs, hcs⟩ : ∃ cs : Array Value, cs = ([] : List Value).toArray ++ Builtin.zeroCells (Value.int .u8 0).cells n ++ Builtin.zeroCells (Value.int .u8 0).cells (G - n) := ⟨_, rfl⟩
 rw [← hcs] at hrz
 have hsz : cs.size = G * 1 := by
  rw [hcs, Array.size_append, Array.size_append, zeroCells_size, zeroCells_size, show (Value.int .u8 0).cells.size = 1 from rfl]
  simp
  omega
 have HS := hide hsz
 have HGE := hide hge
 have HLE := hide hle
 have hG63 : (G : Int) ≤ 9223372036854775807 := by unfold maxLen at hle; omega
 have hnp : (0 : Int) < (n : Int) := by omega
 clear hcs hsz hge hle hold
 go_enter Tryz.func109, Tryz.ntmps109
 go_wp2_with (at_builtin; refine Lib.wpList_append_run _ rfl _ _ _ _ rfl _ _ rfl rfl _ _ (hrz _) ?_)
 go_ret
 exact ⟨G, rfl, unhide HGE, unhide HLE, cs, unhide HS, rfl⟩
theorem concatB (a n cap : Nat) (R : List Cp) (w : World) (hlen : R.length = n) (hnc : n ≤ cap) (hnb : n ≤ 1000)
  (ha : ∀ j r, R[j]? = some r → w.cell? ⟨a, j, none⟩ = some r.v) (hb : ∀ r ∈ R, r.ok w 1) (hp : 1 ≤ sumC R n) (hR : sumC R n ≤ 4000000) :
  Calls Tryz.prog 64 #[.slice (some ⟨a, 0, none⟩) n cap] w
   fun e w' => ∃ c', e = .returned (.slice (some ⟨w.heap.size, 0, none⟩) (sumC R n) c') ∧ w'.ownsRow w.heap.size 5 1 (.slice (some ⟨w.heap.size, 0, none⟩) (sumC R n) c') (sumC R n) (allC R) ∧ Step (fun _ => False) w w' := by
 obtain ⟨i0, hi, hz0, hz1, hz2⟩ := info_parts Tryz.info5
 have HA := hide ha
 have HB := hide hb
 clear ha hb
 go_enter Tryz.func64, Tryz.ntmps64
 go_wp2_with fail
 go_loopw [3, 11] (fun sz i wr => ∃ j : Nat, j ≤ n ∧ i = .int .i64 (j : Nat) ∧ sz = .int .i64 (sumC R j : Nat) ∧ w = wr) (fun _ i _ => n - (RowKit.intOf i).toNat)
 case atStart => exact ⟨0, by omega, rfl, rfl, rfl⟩
 case round =>
  obtain ⟨j, hj, rfl, rfl, rfl⟩ := hrel
  by_cases hjn : j < n
  ·obtain ⟨r, hr⟩ : ∃ r, R[j]? = some r := ⟨_, List.getElem?_eq_getElem (by omega)⟩
   have hc := unhide HA j _ hr
   obtain ⟨ao, c, hrv, _⟩ := (unhide HB r (List.mem_of_getElem? hr)).2.2
   rw [hrv] at hc
   have hs : sumC R (j + 1) = sumC R j + r.m := sumC_succ hr
   have hl1 := sumC_mono R (j + 1) (n - (j + 1))
   rw [show j + 1 + (n - (j + 1)) = n by omega] at hl1
   obtain ⟨m, hm⟩ : ∃ m, m = r.m := ⟨_, rfl⟩
   rw [← hm] at hs hc
   obtain ⟨S, hS⟩ : ∃ S, S = sumC R j := ⟨_, rfl⟩
   rw [← hS] at hs
   rw [hs] at hl1
   rw [← hS]
   have HS := hide hs
   have hl2 : (S : Int) + (m : Int) ≤ 4000000 := by omega
   clear hs hS hr hm hrv hR hp hl1
   have hjn' : (j : Int) < (n : Int) := by omega
   go_wp2_with fail
   go_roundw
   case rel => exact ⟨j + 1, by omega, by go_num, by rw [unhide HS]; go_num, trivial⟩
   case measure => simp [RowKit.intOf]; omega
  ·obtain rfl : j = n := by omega
   go_wp2_with (go_at_call 109; refine (growB (sumC R j) _ hp hR).mono ?_; rintro e w1 ⟨c1, rfl, hc1, hcm, cs, hcs, hw1⟩)
   have hown : (w.alloc (.cells cs 5 (0, 0))).drew.ownsRow w.heap.size 5 1 (.slice (some ⟨w.heap.size, 0, none⟩) 0 c1) 0 [] :=
    ⟨by simp, .inr ⟨w.heap.size, c1, cs, rfl, Nat.le_refl _, heap_alloc_new _ _, by omega, hcm, by omega, by simp⟩⟩
   have hbel : Below w.heap.size w (w.alloc (.cells cs 5 (0, 0))).drew := ((Below.refl w.heap.size w).alloc (Nat.le_refl _) _).drew
   have HO := hide hown
   have HBE := hide hbel
   have HC1 := hide hc1
   clear hown hbel hw1 hcs hcm hc1
   go_loopw [6, 27] (fun s i wr => ∃ k : Nat, k ≤ j ∧ i = .int .i64 (k : Nat) ∧ s = .slice (some ⟨w.heap.size, 0, none⟩) (sumC R k) c1 ∧ wr.ownsRow w.heap.size 5 1 (.slice (some ⟨w.heap.size, 0, none⟩) (sumC R k) c1) (sumC R k) (allC (R.take k)) ∧ Below w.heap.size w wr) (fun _ i _ => j - (RowKit.intOf i).toNat)
   case atStart => exact ⟨0, by omega, rfl, rfl, unhide HO, unhide HBE⟩
   case round =>
    clear HO HBE
    obtain ⟨k, hk, rfl, rfl, hown, hbel⟩ := hrel
    by_cases hkj : k < j
    ·obtain ⟨r, hr⟩ : ∃ r, R[k]? = some r := ⟨_, List.getElem?_eq_getElem (by omega)⟩
     have hc0 := unhide HA k _ hr
     have hc := (hbel.cell (p := ⟨a, k, none⟩) (World.block_lt_of_cell? w _ hc0)).trans hc0
     obtain ⟨hrl, hone, ao, c, hrv, hno, hso⟩ := unhide HB r (List.mem_of_getElem? hr)
     rw [hrv] at hc
     have hs : sumC R (k + 1) = sumC R k + r.m := sumC_succ hr
     have hal : allC (R.take (k + 1)) = allC (R.take k) ++ r.xs := allC_succ hr
     have hroom : sumC R k + r.m ≤ c1 := by
      have := sumC_mono R (k + 1) (j - (k + 1))
      rw [show k + 1 + (j - (k + 1)) = j by omega] at this
      have := unhide HC1
      omega
     have hsrc : ∀ ad, ao = some ad → ∀ i u, r.xs[i]? = some u → wr.cell? (ad.add i) = some u := by
      intro ad had i u hu
      have h1 := hso ad had i u hu
      have hlt := World.block_lt_of_cell? w _ h1
      exact (hbel.cell hlt).trans h1
     obtain ⟨m, hm⟩ : ∃ m, m = r.m := ⟨_, rfl⟩
     obtain ⟨xs, hxs⟩ : ∃ xs, xs = r.xs := ⟨_, rfl⟩
     rw [← hm] at hs hc hroom hno hrl
     rw [← hxs] at hal hsrc hone hrl
     obtain ⟨S, hS⟩ : ∃ S, S = sumC R k := ⟨_, rfl⟩
     rw [← hS] at hs hroom hown
     rw [← hS]
     have HS := hide hs
     have HAL := hide hal
     have HOWN := hide hown
     have HBEL := hide hbel
     have HSRC := hide hsrc
     have HONE := hide hone
     have HNO := hide hno
     have HRL := hide hrl
     clear hs hS hr hal hown hbel hsrc hone hc0 hno hso hm hxs hrv hrl
     have hkj' : (k : Int) < (j : Int) := by omega
     go_wp2_with (at_builtin; refine wpList_append_fits_any _ rfl (.tmp 31) (.tmp 32) 31 rfl w.heap.size 5 i0 1 Tryz.underlying31 hi hz1 w.heap.size S c1 (allC (R.take k)) rfl (unhide HOWN) ao m c xs rfl (unhide HRL) (unhide HNO) (unhide HSRC) (unhide HONE) hroom ?_; intro w2 ho2 hgr2)
     have hbel2 := (unhide HBEL).grown hgr2 (unhide HBEL).size (fun q hq => by cases hq; exact Nat.le_refl _)
     go_roundw
     case rel => exact ⟨k + 1, by omega, by go_num, by rw [unhide HS], by rw [unhide HS, unhide HAL]; exact ho2, hbel2⟩
     case measure => simp [RowKit.intOf]; omega
    ·obtain rfl : k = j := by omega
     have HOWN := hide hown
     have HBEL := hide hbel
     clear hown hbel
     go_wp2_with fail
     go_ret
     refine ⟨c1, rfl, ?_, Step.of_below_b (unhide HBEL)⟩
     have := unhide HOWN
     rw [List.take_of_length_le (by omega)] at this
     exact this
end Go.Proofs.YtbpahojchgpdnaaGreatDoor
namespace Go.Proofs.YtbpahojchgpdnaaGreatDoor
open Go.RowKit Go.Bel Go.Maps
structure FedIn (w : World) (N0 f g off cap : Nat) (B : List Nat) : Prop where
 src : Go.Bel.Src w g off B
 gin : g < f ∨ (N0 ≤ g ∧ ∃ A, w.heap[g]? = some (.cells A 5 (0, 0)))
 glt : g < w.heap.size
 capn : off = 4611686018427387904 → cap = 0
 le : B.length ≤ cap
 offb : off = 0 ∨ off = 4611686018427387904
theorem taken_fed {w : World} {base N0 f : Nat} {v : Value} {ys : List Nat} (h : Taken w base v ys) (hB : ∀ i : Nat, ys[i]?.getD 0 < 256) (hl : ys.length ≤ 140737488351232) (h0 : 0 < w.heap.size) (hf : 0 < f) (hN : N0 ≤ base) : ∃ g off cap, v = .slice (fedA g off ys.length) ys.length cap ∧ FedIn w N0 f g off cap ys ∧ (g = 0 ∨ base ≤ g) := by
 have h9 := h
 rcases h.2 with ⟨hv, h1⟩ | ⟨g, cap, cur, hv, hg, hh, hc, _⟩
 ·have hys : ys = [] := List.eq_nil_of_length_eq_zero h1
  subst hys
  exact ⟨0, 4611686018427387904, 0, by rw [hv]; rfl, ⟨⟨fun i hi => by simp at hi, hB, by simp⟩, .inl hf, h0, fun _ => rfl, by simp, .inr rfl⟩, .inl rfl⟩
 ·refine ⟨g, 0, cap, by rw [fedA_at (by omega)]; exact hv, ⟨⟨fun i hi => ?_, hB, hl⟩, .inr ⟨by omega, _, hh⟩, (h.lt g (by rw [hv]; rfl)).2, fun x => by omega, hc, .inl rfl⟩, .inr hg⟩
  unfold Taken at h9
  rw [hv] at h9
  rw [Nat.zero_add, h9.cellAt i (by omega), u8s_get _ _ hi]
theorem fedA_cases (g off n : Nat) : (fedA g off n = none ∧ off = 4611686018427387904 ∧ n = 0) ∨ fedA g off n = some ⟨g, off, none⟩ := by
 unfold fedA
 by_cases h : off = 4611686018427387904 ∧ n = 0
 ·exact .inl ⟨if_pos h, h.1, h.2⟩
 ·exact .inr (if_neg h)
theorem cp_ok {w : World} {g off cap : Nat} {B : List Nat} (hS : Go.Bel.Src w g off B) (hc : off = 4611686018427387904 → cap = 0) : Cp.ok w 1 ⟨.slice (fedA g off B.length) B.length cap, B.length, u8s B⟩ := by
 refine ⟨by simp, u8s_one B, fedA g off B.length, cap, rfl, fun h => ?_, fun ad had j u hu => ?_⟩
 ·rcases fedA_cases g off B.length with ⟨_, h1, h2⟩ | h1
  ·exact ⟨h2, hc h1⟩
  ·rw [h1] at h; cases h
 ·rcases fedA_cases g off B.length with ⟨h0, h1, h2⟩ | h1
  ·rw [h0] at had; cases had
  ·rw [h1] at had
   cases had
   exact Lies.news (show Lies w g off B from hS.cell) j u hu
theorem concat2B (a g off cap gm om cm : Nat) (B M : List Nat) (w : World) (h0 : w.cell? ⟨a, 0, none⟩ = some (.slice (fedA g off B.length) B.length cap)) (h1 : w.cell? ⟨a, 1, none⟩ = some (.slice (fedA gm om M.length) M.length cm)) (hS : Go.Bel.Src w g off B) (hM : Go.Bel.Src w gm om M) (hc : off = 4611686018427387904 → cap = 0) (hcm : om = 4611686018427387904 → cm = 0) (hl : (B ++ M).length ≤ 4000000) :
  Calls Tryz.prog 64 #[.slice (some ⟨a, 0, none⟩) 2 2] w fun e w' => ∃ v, e = .returned v ∧ Taken w' w.heap.size v (B ++ M) ∧ Step (fun _ => False) w w' := by
 by_cases hn : (B ++ M).length = 0
 ·have hB : B = [] := List.eq_nil_of_length_eq_zero (by rw [List.length_append] at hn; omega)
  have hM : M = [] := List.eq_nil_of_length_eq_zero (by rw [List.length_append] at hn; omega)
  subst hB hM
  refine (concatNo a _ _ cap cm w h0 h1).mono ?_
  rintro e w' ⟨rfl, rfl⟩
  exact ⟨_, rfl, World.ownsRow_nil _ _ _ _, Step.refl _ _⟩
 ·have hs : sumC [⟨.slice (fedA g off B.length) B.length cap, B.length, u8s B⟩, ⟨.slice (fedA gm om M.length) M.length cm, M.length, u8s M⟩] 2 = (B ++ M).length := by simp [sumC]
  have ha : allC [⟨.slice (fedA g off B.length) B.length cap, B.length, u8s B⟩, ⟨.slice (fedA gm om M.length) M.length cm, M.length, u8s M⟩] = u8s (B ++ M) := by simp [allC]
  refine (concatB a 2 2 [⟨.slice (fedA g off B.length) B.length cap, B.length, u8s B⟩, ⟨.slice (fedA gm om M.length) M.length cm, M.length, u8s M⟩] w rfl (by omega) (by omega) (fun j r hj => ?_) (fun r hr => ?_) (by rw [hs]; omega) (by rw [hs]; exact hl)).mono ?_
  ·match j, hj with
   | 0, hj => simp at hj; subst hj; exact h0
   | 1, hj => simp at hj; subst hj; exact h1
  ·simp at hr
   rcases hr with rfl | rfl
   ·exact cp_ok hS hc
   ·exact cp_ok hM hcm
  ·rintro e w' ⟨c', rfl, h3, h4⟩
   rw [hs, ha] at h3
   rw [hs]
   exact ⟨_, rfl, h3, h4⟩
theorem byte_append {B M : List Nat} (hB : ∀ i : Nat, B[i]?.getD 0 < 256) (hM : ∀ i : Nat, M[i]?.getD 0 < 256) (i : Nat) : (B ++ M)[i]?.getD 0 < 256 := by
 rw [List.getElem?_append]
 split
 ·exact hB i
 ·exact hM _
theorem feedAdd_any (f g off cap p z gm om cm N0 : Nat) (B M : List Nat) (w : World) (hF : FeedAt w f (.slice (fedA g off B.length) B.length cap) p z) (hS : FedIn w N0 f g off cap B) (hM : Go.Bel.Src w gm om M) (hcm : om = 4611686018427387904 → cm = 0) (hl : (B ++ M).length ≤ 4000000) (hf : 0 < f) (hN : N0 ≤ w.heap.size) :
  Calls Tryz.prog 41 #[.pointer (some ⟨f, 0, none⟩), .slice (fedA gm om M.length) M.length cm] w
   fun e w' => e = .returned (.tuple #[]) ∧ ∃ g' off' cap', FeedAt w' f (.slice (fedA g' off' (B ++ M).length) (B ++ M).length cap') p z ∧ FedIn w' N0 f g' off' cap' (B ++ M) ∧ (g' = 0 ∨ w.heap.size ≤ g') ∧ Step (· = f) w w' := by
 have hfl := lt_of_block hF
 have c0 : w.cell? ⟨f, 0, none⟩ = some (.slice (fedA g off B.length) B.length cap) := blk_cell hF 0 _ rfl
 obtain ⟨a1, ha1⟩ : ∃ a, a = fedA g off B.length := ⟨_, rfl⟩
 obtain ⟨a2, ha2⟩ : ∃ a, a = fedA gm om M.length := ⟨_, rfl⟩
 obtain ⟨n1, hn1⟩ : ∃ n, n = B.length := ⟨_, rfl⟩
 obtain ⟨n2, hn2⟩ : ∃ n, n = M.length := ⟨_, rfl⟩
 have HC := hide (show ∀ w1 : World, w1 = w.alloc (.cells #[.slice a1 n1 cap, .slice a2 n2 cm] 31) → Calls Tryz.prog 64 #[.slice (some ⟨w.heap.size, 0, none⟩) 2 2] w1 fun e w' => ∃ v, e = .returned v ∧ (∃ b c, v = .slice b (B ++ M).length c) ∧ Taken w' w1.heap.size v (B ++ M) ∧ Step (fun _ => False) w w' ∧ w.heap.size ≤ w1.heap.size from fun w1 hw1 => by
  have hs1 : Step (fun _ => False) w w1 := by rw [hw1]; exact (Step.refl _ _).alloc _
  have hb1 : w1.heap[w.heap.size]? = some (.cells #[.slice a1 n1 cap, .slice a2 n2 cm] 31 (0, 0)) := by rw [hw1]; exact heap_alloc_new _ _
  rw [ha1, ha2, hn1, hn2] at hb1
  refine (concat2B w.heap.size g off cap gm om cm B M w1 (blk_cell hb1 0 _ rfl) (blk_cell hb1 1 _ rfl) (hS.src.step hs1 (fun x => x)) (hM.step hs1 (fun x => x)) hS.capn hcm hl).mono ?_
  rintro e w' ⟨v, rfl, h1, h2⟩
  exact ⟨v, rfl, h1.slice, h1, hs1.trans h2, hs1.size⟩)
 have HF := hide hF
 have HSS := hide hS
 have HM := hide hM
 rw [← ha1, ← hn1] at c0
 rw [← ha2, ← hn2]
 clear ha1 ha2 hn1 hn2 hF hS hM
 go_enter Tryz.func41, Tryz.ntmps41
 go_wp2_with fail
 refine (unhide HC _ rfl).mono ?_
 rintro e w2 ⟨v, rfl, ⟨b, c, hv⟩, htk, hs2, hz⟩
 have hF2 := hs2.at_ (unhide HF) (fun x => x)
 have q0 := blk_cell hF2 0 _ rfl
 have qf := blk_free hF2 0
 have HFIN := hide (show ∃ g' off' cap', FeedAt (w2.setCell ⟨f, 0, none⟩ v) f (.slice (fedA g' off' (B ++ M).length) (B ++ M).length cap') p z ∧ FedIn (w2.setCell ⟨f, 0, none⟩ v) N0 f g' off' cap' (B ++ M) ∧ (g' = 0 ∨ w.heap.size ≤ g') ∧ Step (· = f) w (w2.setCell ⟨f, 0, none⟩ v) from by
  have hs3 : Step (· = f) w2 (w2.setCell ⟨f, 0, none⟩ v) := (Step.refl (· = f) w2).setCell (p := ⟨f, 0, none⟩) rfl _
  have z3 := hs3.size
  have z2 := hs2.size
  obtain ⟨g', off', cap', h1, h2, h3⟩ := taken_fed (N0 := N0) (f := f) (htk.step hs3 (fun j hj x => by omega)) (byte_append (unhide HSS).src.byte (unhide HM).byte) (by omega) (by omega) hf (by omega)
  refine ⟨g', off', cap', ?_, h2, h3.imp id (fun y => by omega), (hs2.mono (fun _ x => x.elim)).trans hs3⟩
  have h9 := blk_set hF2 0 v
  rw [← h1]
  simpa using h9)
 obtain ⟨n, hn⟩ : ∃ n, n = (B ++ M).length := ⟨_, rfl⟩
 rw [← hn] at hv
 rw [hv] at HFIN
 rw [hv]
 clear htk hs2 hv hF2 HC HF HSS HM hn
 go_wp2_with fail
 go_end0
 exact ⟨rfl, unhide HFIN⟩
theorem clone_rest (g off cap k N0 f : Nat) (B : List Nat) (w : World) (hS : FedIn w N0 f g off cap B) (hk : k ≤ B.length) (hl : B.length ≤ 4000000) :
  Calls Tryz.prog 110 #[.slice (Option.map (fun x => x.add k) (fedA g off B.length)) (B.length - k) (cap - k)] w fun e w' => ∃ v, e = .returned v ∧ (∃ b c, v = .slice b (B.drop k).length c) ∧ Taken w' w.heap.size v (B.drop k) ∧ Step (fun _ => False) w w' := by
 rcases fedA_cases g off B.length with ⟨h0, h1, h2⟩ | h1
 ·have hc := hS.capn h1
  have hB : B = [] := List.eq_nil_of_length_eq_zero h2
  subst hB hc
  rw [h0]
  obtain rfl : k = 0 := by simpa using hk
  simp only [Option.map_none, List.length_nil, Nat.sub_zero, List.drop_nil]
  refine (clone_nil w).mono ?_
  rintro e w' ⟨rfl, rfl⟩
  exact ⟨.slice none 0 0, rfl, ⟨none, 0, rfl⟩, World.ownsRow_nil _ _ _ _, Step.refl _ _⟩
 ·rw [h1, show Option.map (fun x => Addr.add x k) (some ⟨g, off, none⟩) = some ⟨g, off + k, none⟩ by simp [Addr.add]]
  refine (clone_any g (off + k) (B.length - k) (cap - k) (B.drop k) w (lies_drop (show Lies w g off B from hS.src.cell) k) List.length_drop (by omega)).mono ?_
  rintro e w' ⟨v, rfl, h2, h3⟩
  exact ⟨v, rfl, h2.slice, h2, h3⟩
theorem clone_end (g off N0 f k : Nat) (B : List Nat) (w : World) (hS : FedIn w N0 f g off k B) (hk : k ≤ B.length) :
  Calls Tryz.prog 110 #[.slice (fedA g off B.length) (B.length - k) 0] w fun e w' => ∃ v, e = .returned v ∧ (∃ b c, v = .slice b (B.drop k).length c) ∧ Taken w' w.heap.size v (B.drop k) ∧ Step (fun _ => False) w w' := by
 have hle := hS.le
 have hB : B.length - k = 0 := by omega
 have hd : B.drop k = [] := List.drop_eq_nil_of_le (by omega)
 rw [hB, hd]
 rcases fedA_cases g off B.length with ⟨h0, h1, h2⟩ | h1
 ·rw [h0]
  refine (clone_nil w).mono ?_
  rintro e w' ⟨rfl, rfl⟩
  exact ⟨_, rfl, ⟨_, _, rfl⟩, World.ownsRow_nil _ _ _ _, Step.refl _ _⟩
 ·rw [h1]
  refine (clone_any g off 0 0 [] w (fun i hi => by simp at hi) rfl (by omega)).mono ?_
  rintro e w' ⟨v, rfl, h2, h3⟩
  exact ⟨v, rfl, h2.slice, h2, h3⟩
theorem byte_drop {B : List Nat} (hB : ∀ i : Nat, B[i]?.getD 0 < 256) (k i : Nat) : (B.drop k)[i]?.getD 0 < 256 := by
 rw [List.getElem?_drop]
 exact hB _
theorem feedForget_any (f g off cap p z N0 : Nat) (B : List Nat) (w : World) (hF : FeedAt w f (.slice (fedA g off B.length) B.length cap) p z) (hS : FedIn w N0 f g off cap B) (hl : B.length ≤ 4000000) (hp : p ≤ 8 * B.length) (hz : z ≤ 4000000) (hf : 0 < f) (hN : N0 ≤ w.heap.size) :
  Calls Tryz.prog 65 #[.pointer (some ⟨f, 0, none⟩)] w
   fun e w' => e = .returned (.tuple #[]) ∧ ∃ g' off' cap', FeedAt w' f (.slice (fedA g' off' (B.drop (p / 8)).length) (B.drop (p / 8)).length cap') (p - 8 * (p / 8)) (z + p / 8) ∧ FedIn w' N0 f g' off' cap' (B.drop (p / 8)) ∧ (g' = 0 ∨ w.heap.size ≤ g') ∧ Step (· = f) w w' := by
 have hfl := lt_of_block hF
 have c0 : w.cell? ⟨f, 0, none⟩ = some (.slice (fedA g off B.length) B.length cap) := blk_cell hF 0 _ rfl
 have c1 : w.cell? ⟨f, 1, none⟩ = some (.int .i64 (p : Nat)) := blk_cell hF 1 _ rfl
 have c2 : w.cell? ⟨f, 2, none⟩ = some (.int .i64 (z : Nat)) := blk_cell hF 2 _ rfl
 have hle := hS.le
 have HC1 := hide (clone_rest g off cap (p / 8) N0 f B w hS (by omega) hl)
 have HC2 := hide (show cap = p / 8 → Calls Tryz.prog 110 #[.slice (fedA g off B.length) (B.length - p / 8) 0] w fun e w' => ∃ v, e = .returned v ∧ (∃ b c, v = .slice b (B.drop (p / 8)).length c) ∧ Taken w' w.heap.size v (B.drop (p / 8)) ∧ Step (fun _ => False) w w' from fun e => clone_end g off N0 f (p / 8) B w (by rw [← e]; exact hS) (by omega))
 have HEND := hide (show ∀ (w1 : World) (v : Value), Taken w1 w.heap.size v (B.drop (p / 8)) → Step (fun _ => False) w w1 → w1.heap[f]? = w.heap[f]? ∧ ∀ n : Nat, ∃ g' off' cap', FeedAt ((((w1.setCell ⟨f, 0, none⟩ v).setCell ⟨f, 1, none⟩ (.int .i64 ((p : Int) - (p : Int) / 8 * 8))).setCell ⟨f, 2, none⟩ (.int .i64 ((z : Int) + (p : Int) / 8))).drewN n) f (.slice (fedA g' off' (B.drop (p / 8)).length) (B.drop (p / 8)).length cap') (p - 8 * (p / 8)) (z + p / 8) ∧ FedIn ((((w1.setCell ⟨f, 0, none⟩ v).setCell ⟨f, 1, none⟩ (.int .i64 ((p : Int) - (p : Int) / 8 * 8))).setCell ⟨f, 2, none⟩ (.int .i64 ((z : Int) + (p : Int) / 8))).drewN n) N0 f g' off' cap' (B.drop (p / 8)) ∧ (g' = 0 ∨ w.heap.size ≤ g') ∧ Step (· = f) w ((((w1.setCell ⟨f, 0, none⟩ v).setCell ⟨f, 1, none⟩ (.int .i64 ((p : Int) - (p : Int) / 8 * 8))).setCell ⟨f, 2, none⟩ (.int .i64 ((z : Int) + (p : Int) / 8))).drewN n) from fun w1 v htk hs1 => by
  refine ⟨hs1.block f hfl (fun x => x), fun n => ?_⟩
  have hF1 := hs1.at_ hF (fun x => x)
  have hs3 : Step (· = f) w1 ((((w1.setCell ⟨f, 0, none⟩ v).setCell ⟨f, 1, none⟩ (.int .i64 ((p : Int) - (p : Int) / 8 * 8))).setCell ⟨f, 2, none⟩ (.int .i64 ((z : Int) + (p : Int) / 8))).drewN n) := ((((Step.refl (· = f) w1).setCell (p := ⟨f, 0, none⟩) rfl _).setCell (p := ⟨f, 1, none⟩) rfl _).setCell (p := ⟨f, 2, none⟩) rfl _).drewN n
  have z1 := hs1.size
  have z3 := hs3.size
  obtain ⟨g', off', cap', h1, h2, h3⟩ := taken_fed (N0 := N0) (f := f) (htk.step hs3 (fun j hj x => by omega)) (byte_drop hS.src.byte (p / 8)) (by rw [List.length_drop]; omega) (by omega) hf (by omega)
  refine ⟨g', off', cap', ?_, h2, h3, (hs1.mono (fun _ x => x.elim)).trans hs3⟩
  have h9 := blk_set (blk_set (blk_set hF1 0 v) 1 (.int .i64 ((p : Int) - (p : Int) / 8 * 8))) 2 (.int .i64 ((z : Int) + (p : Int) / 8))
  have e1 : ((p - 8 * (p / 8) : Nat) : Int) = (p : Int) - (p : Int) / 8 * 8 := by omega
  have e2 : ((z + p / 8 : Nat) : Int) = (z : Int) + (p : Int) / 8 := by omega
  unfold FeedAt
  rw [e1, e2, ← h1]
  simpa [World.drewN] using h9)
 obtain ⟨n, hn⟩ : ∃ n, n = B.length := ⟨_, rfl⟩
 obtain ⟨a, ha⟩ : ∃ a, a = fedA g off B.length := ⟨_, rfl⟩
 rw [← ha, ← hn] at c0 HC1 HC2
 have hpn : p ≤ 8 * n := by omega
 have hln : n ≤ 4000000 := by omega
 have hnc : n ≤ cap := by omega
 obtain ⟨m, hm⟩ : ∃ m, m = (B.drop (p / 8)).length := ⟨_, rfl⟩
 have HM := hide hm
 rw [← hm] at HC1 HC2
 have HF := hide hF
 clear hn ha hm hF hS hle hl hp
 go_enter Tryz.func65, Tryz.ntmps65
 go_wp2_with fail
 ·refine (unhide HC2 (by omega)).mono ?_
  rintro e w1 ⟨v, rfl, ⟨b, c, hv⟩, htk, hs1⟩
  have hF1 := hs1.at_ (unhide HF) (fun x => x)
  have q0 := (show w1.cell? ⟨f, 0, none⟩ = some _ from blk_cell hF1 0 _ rfl)
  have q1 : w1.cell? ⟨f, 1, none⟩ = some (.int .i64 (p : Nat)) := blk_cell hF1 1 _ rfl
  have q2 : w1.cell? ⟨f, 2, none⟩ = some (.int .i64 (z : Nat)) := blk_cell hF1 2 _ rfl
  have f0 := blk_free hF1 0
  have f1 := blk_free hF1 1
  have f2 := blk_free hF1 2
  obtain ⟨_, hen⟩ := unhide HEND w1 v htk hs1
  have HE := hide hen
  have hfl1 := lt_of_block hF1
  clear hen htk hs1 hF1
  subst hv
  go_wp2_with fail
  go_end0
  have h9 := unhide HE 0
  rw [World.drewN_zero] at h9
  exact ⟨rfl, h9⟩
 ·refine (unhide HC1).mono ?_
  rintro e w1 ⟨v, rfl, ⟨b, c, hv⟩, htk, hs1⟩
  have hF1 := hs1.at_ (unhide HF) (fun x => x)
  have q0 := (show w1.cell? ⟨f, 0, none⟩ = some _ from blk_cell hF1 0 _ rfl)
  have q1 : w1.cell? ⟨f, 1, none⟩ = some (.int .i64 (p : Nat)) := blk_cell hF1 1 _ rfl
  have q2 : w1.cell? ⟨f, 2, none⟩ = some (.int .i64 (z : Nat)) := blk_cell hF1 2 _ rfl
  have f0 := blk_free hF1 0
  have f1 := blk_free hF1 1
  have f2 := blk_free hF1 2
  obtain ⟨_, hen⟩ := unhide HEND w1 v htk hs1
  have HE := hide hen
  have hfl1 := lt_of_block hF1
  clear hen htk hs1 hF1
  subst hv
  go_wp2_with fail
  go_end0
  have h9 := unhide HE 0
  rw [World.drewN_zero] at h9
  exact ⟨rfl, h9⟩
end Go.Proofs.YtbpahojchgpdnaaGreatDoor
namespace Go.Proofs.YtbpahojchgpdnaaGreatDoor
open Go.RowKit Go.Bel Go.Maps
def PlainB (w : World) (j : Nat) : Prop := ∃ A t, w.heap[j]? = some (.cells A t (0, 0)) ∧ t ≠ 125
theorem tab_not {w : World} {mb : Nat} {M : Tab} (h : TabAt w mb M) : ¬ PlainB w mb := by
 rintro ⟨A, t, h1, _⟩
 obtain ⟨_, _, _, ⟨es, ck, hh, _⟩, _⟩ := h
 rw [h1] at hh
 simp at hh
theorem HoldsG.frame {w w' : World} {d f base g off cap z : Nat} {B : List Nat} {s : GS} {v : Value} {S : Nat → Prop} (h : HoldsG w d f base g off cap z B s v) (hs : Step S w w') (hS : ∀ j, S j → j < w.heap.size → 4 ≤ j ∧ j ≠ d ∧ j ≠ f ∧ j ≠ g ∧ v.ownBlock ≠ some j ∧ PlainB w j) : HoldsG w' d f base g off cap z B s v := by
 obtain ⟨st, rfl, hon, e1, e2, e3, e4, e5, e6, e7, e8, e9⟩ := h.ex
 have hdl := lt_of_block hon.dec.blk
 have hfl := lt_of_block hon.feed
 have n1 : ¬ S d := fun x => (hS d x hdl).2.1 rfl
 have n2 : ¬ S f := fun x => (hS f x hfl).2.2.1 rfl
 have n3 : ¬ S g := fun x => (hS g x hon.glt).2.2.2.1 rfl
 have n4 : ∀ mb M, TabAt w mb M → ¬ S mb := fun mb M ht x => tab_not ht (hS mb x ht.lt).2.2.2.2.2
 have n5 : ∀ cb A', w.heap[cb]? = some (.cells A' 125 (0, 0)) → ¬ S cb := fun cb A' hc x => by
  obtain ⟨A, t, h1, h2⟩ := (hS cb x (lt_of_block hc)).2.2.2.2.2
  rw [hc] at h1
  simp only [Option.some.injEq, Obj.cells.injEq] at h1
  exact h2 h1.2.1.symm
 have hon' : OnD w' d f base g off cap z B st s.p := ⟨hon.dec.other (hs.block d hdl n1) (fun k hk => hs.block k (hon.dec.own.lt k hk).2 (fun x => (hS k x (hon.dec.own.lt k hk).2).2.2.2.2.1 hk)) hs.size, hs.at_ hon.feed n2, hon.src.step hs n3, hon.goff, Nat.lt_of_lt_of_le hon.glt hs.size⟩
 refine ⟨⟨st, rfl, hon', e1, e2, e3, e4, e5, e6, e7, ?_, fun h2 => ?_⟩, h.order.step hs (fun k hk x => by have := h.zlt; have := (hS k x (by omega)).1; omega), h.zero, Nat.le_trans h.zlt hs.size, h.most, h.room, h.left, h.bits⟩
 ·rcases e8 with e8 | ⟨cb, m1, m2, h1, h2, h3, h4, h5, h6, h7⟩
  ·exact .inl e8
  ·exact .inr ⟨cb, m1, m2, h1, hs.at_ h2 (n5 cb _ h2), h3.step hs (n4 _ _ h3), h4.step hs (n4 _ _ h4), h5, h6, h7⟩
 ·have ht := e9 h2
  obtain ⟨mb, a1, a2, a3⟩ := ht.sm
  obtain ⟨x, b1', b2⟩ := ht.dm
  refine ⟨⟨mb, a1, a2.step hs (n4 _ _ a2), a3⟩, ht.sl, ⟨x, b1', ?_⟩, ht.dl, ht.sn, ht.dn⟩
  rcases b2 with b2 | ⟨m2, c1, c2, c3⟩
  ·exact .inl b2
  ·exact .inr ⟨m2, c1, c2.step hs (n4 _ _ c2), c3⟩
theorem HoldsG.refeed {w w' : World} {d f base g off cap z : Nat} {B : List Nat} {s : GS} {v : Value} (h : HoldsG w d f base g off cap z B s v) (hs : Step (· = f) w w') {g' off' cap' z' p' : Nat} {B' : List Nat} (hF : FeedAt w' f (.slice (fedA g' off' B'.length) B'.length cap') p' z') (hsrc : Go.Bel.Src w' g' off' B') (hg : DOff d f v g') (hgl : g' < w'.heap.size) (hp : p' ≤ 8 * B'.length) : HoldsG w' d f base g' off' cap' z' B' { s with p := p' } v := by
 obtain ⟨st, rfl, hon, e1, e2, e3, e4, e5, e6, e7, e8, e9⟩ := h.ex
 have hne := hon.dec.ne
 have hon' : OnD w' d f base g' off' cap' z' B' st p' := ⟨hon.dec.other (hs.block d (lt_of_block hon.dec.blk) hne) (fun k hk => hs.block k (hon.dec.own.lt k hk).2 (fun x => hon.dec.row_ne.2 (by rw [← x]; exact hk))) hs.size, hF, hsrc, hg, hgl⟩
 have hz := h.zero
 refine ⟨⟨st, rfl, hon', e1, e2, e3, e4, e5, e6, e7, ?_, fun h2 => ?_⟩, h.order.step hs (fun k hk x => by omega), h.zero, Nat.le_trans h.zlt hs.size, h.most, h.room, h.left, hp⟩
 ·rcases e8 with e8 | ⟨cb, m1, m2, h1, h2, h3, h4, h5, h6, h7⟩
  ·exact .inl e8
  ·exact .inr ⟨cb, m1, m2, h1, hs.at_ h2 h5.f, h3.step hs h6.f, h4.step hs h7.f, h5, h6, h7⟩
 ·have ht := e9 h2
  obtain ⟨mb, a1, a2, a3⟩ := ht.sm
  obtain ⟨x, b1', b2⟩ := ht.dm
  refine ⟨⟨mb, a1, a2.step hs a3.f, a3⟩, ht.sl, ⟨x, b1', ?_⟩, ht.dl, ht.sn, ht.dn⟩
  rcases b2 with b2 | ⟨m2, c1, c2, c3⟩
  ·exact .inl b2
  ·exact .inr ⟨m2, c1, c2.step hs c3.f, c3⟩
variable {k : Nat} {w0 w w' : World} {g off cap f d D X P : Nat} {F : Nat → Value} {B : List Nat} {most : Nat} {q : RQ} {lv vo v : Value}
theorem RM0.frame (h : RM0 k w0 w g off cap f d D X B most q lv v) (hR : RS k w0 f d D X P F) {S : Nat → Prop} (hs : Step S w w') (hS : ∀ j, S j → j < w.heap.size → 4 ≤ j ∧ ¬ (f ≤ j ∧ j < w0.heap.size) ∧ j ≠ g ∧ lv.ownBlock ≠ some j ∧ v.ownBlock ≠ some j ∧ PlainB w j) : RM0 k w0 w' g off cap f d D X B most q lv v := by
 have c1 := hR.f4; have c2 := hR.fd; have c3 := hR.dD; have c4 := hR.DP; have c5 := hR.PN
 have hb := h.big
 have hz := hs.size
 have nr : ∀ j, f ≤ j → j < w0.heap.size → ¬ S j := fun j h1 h2 x => (hS j x (by omega)).2.1 ⟨h1, h2⟩
 have ng : ¬ S g := fun x => (hS g x h.glt).2.2.1 rfl
 refine ⟨fun a a1 a2 a3 => ?_, h.src.step hs ng, ?_, by have := h.glt; omega, h.order.step hs (fun j hj x => by have := (hS j x (by omega)).1; omega), h.xat.step hs (fun k0 => by have := hR.XP k0; exact nr X (by omega) (by omega)), let_step h.lets hs (fun j hj x => (hS j x (h.lets.lt j hj).2).2.2.2.1 hj), h.nolets, hs.at_ h.feed (nr f (by omega) (by omega)), by omega, fun y => ⟨hs.at_ (h.fresh y).1 (nr d (by omega) (by omega)), (h.fresh y).2⟩, fun y => ?_, fun j hj => ?_, h.behind, h.here, h.zp, h.dat.imp fun A y => hs.at_ y (nr d (by omega) (by omega))⟩
 ·rw [← h.old a a1 a2 a3]
  exact hs.block a (by omega) (nr a (by omega) a3)
 ·rcases h.gin with y | ⟨y, A, z⟩
  ·exact .inl y
  ·exact .inr ⟨y, A, hs.at_ z ng⟩
 ·rcases h.inner y with ⟨a1, a2⟩ | ⟨sr, a1, a2⟩
  ·exact .inl ⟨hs.at_ a1 (nr d (by omega) (by omega)), a2⟩
  ·refine .inr ⟨sr, a1.frame hs (fun j hj hl => ?_), a2⟩
   obtain ⟨b1, b2, b3, b4, b5, b6⟩ := hS j hj hl
   exact ⟨b1, fun e => b2 ⟨by omega, by omega⟩, fun e => b2 ⟨by omega, by omega⟩, b3, b5, b6⟩
 ·obtain ⟨a1, a2, a3⟩ := h.vown j hj
  exact ⟨a1, by omega, a3⟩
theorem RM0.refeed (h : RM0 k w0 w g off cap f d D X B most q lv v) (hR : RS k w0 f d D X P F) (hs : Step (· = f) w w') {g' off' cap' z' : Nat} {B' : List Nat} (hF : FeedAt w' f (.slice (fedA g' off' (B'.drop z').length) (B'.drop z').length cap') (q.p - 8 * z') z') (hfed : FedIn w' w0.heap.size f g' off' cap' (B'.drop z')) (hg : g' = 0 ∨ w.heap.size ≤ g') (hp : q.p ≤ 8 * B'.length) (hz : 8 * z' ≤ q.p) : RM0 k w0 w' g' off' cap' f d D X B' most { q with z := z' } lv v := by
 have c1 := hR.f4; have c2 := hR.fd; have c3 := hR.dD; have c4 := hR.DP; have c5 := hR.PN
 have hb := h.big
 have hsz := hs.size
 have hvk : ∀ j, v.ownBlock = some j → j ≠ f ∧ j ≠ g' := fun j hj => by
  obtain ⟨a1, a2, a3⟩ := h.vown j hj
  exact ⟨by omega, by rcases hg with y | y <;> omega⟩
 refine ⟨fun a a1 a2 a3 => ?_, hfed.src, hfed.gin, hfed.glt, h.order.step hs (fun j hj x => by omega), h.xat.step hs (fun k0 x => by have := hR.XP k0; omega), let_step h.lets hs (fun j hj x => by have := (h.lets.lt j hj).1; omega), h.nolets, hF, by omega, fun y => ⟨hs.at_ (h.fresh y).1 (by omega), (h.fresh y).2⟩, fun y => ?_, fun j hj => ?_, h.behind, hp, hz, h.dat.imp fun A y => hs.at_ y (by omega)⟩
 ·rw [← h.old a a1 a2 a3]
  exact hs.block a (by omega) (by omega)
 ·rcases h.inner y with ⟨a1, a2⟩ | ⟨sr, a1, a2, a3, a4, a5, a6⟩
  ·exact .inl ⟨hs.at_ a1 (by omega), a2⟩
  ·refine .inr ⟨{ sr with p := q.p - 8 * z' }, a1.refeed hs hF hfed.src ⟨by rcases hg with y | y <;> omega, by rcases hg with y | y <;> omega, fun e => (hvk _ e).2 rfl⟩ hfed.glt (by show q.p - 8 * z' ≤ 8 * (B'.drop z').length; rw [List.length_drop]; omega), ?_, a3, a4, a5, a6⟩
   show q.s = ({ sr with p := q.p - 8 * z' } : GS).sh (8 * z')
   rw [a2] at a6 ⊢
   unfold GS.sh at a6 ⊢
   simp only at a6 ⊢
   rw [Nat.sub_add_cancel hz, ← a6]
 ·obtain ⟨a1, a2, a3⟩ := h.vown j hj
  exact ⟨a1, by omega, (hvk j hj).2⟩
def RQ.flush (q : RQ) : RQ := { q with pre := q.pre ++ q.o, o := [] }
theorem RM0.flush (h : RM0 k w0 w g off cap f d D X B most q lv v) : RM0 k w0 w g off cap f d D X B most q.flush lv v := by
 refine ⟨h.old, h.src, h.gin, h.glt, h.order, h.xat, h.lets, h.nolets, h.feed, h.big, h.fresh, fun y => ?_, h.vown, h.behind, h.here, h.zp, h.dat⟩
 rcases h.inner y with ⟨a1, a2, a3, a4, a5⟩ | ⟨sr, a1, a2, a3, a4, a5, a6⟩
 ·exact .inl ⟨a1, a2, a3, by show q.pre ++ q.o = []; rw [a4, a5]; rfl, rfl⟩
 ·exact .inr ⟨sr, a1, a2, by show sr.taken = (q.pre ++ q.o ++ []).length; rw [List.append_nil]; exact a3, by show sr.out = q.pre ++ q.o ++ []; rw [List.append_nil]; exact a4, a5, a6⟩
theorem RV.flush (h : RV k B most q) : RV k B most q.flush := by
 have e : q.flush.pre ++ q.flush.o = q.pre ++ q.o := by show q.pre ++ q.o ++ [] = _; rw [List.append_nil]
 have eg : q.flush.g = q.g := by
  unfold RQ.g
  rw [e]
  rfl
 refine ⟨by rw [e]; exact h.bytes, by rw [e]; exact h.len, by rw [e]; exact h.sum1, by rw [e]; exact h.sum2, h.al8, fun y => ?_, h.ile, by rw [e]; exact h.sat, h.k1, h.p0, h.p2, by rw [eg]; exact h.k2, h.k01, h.hh⟩
 obtain ⟨a, b⟩ := h.nopre y
 exact ⟨by show q.pre ++ q.o = []; rw [a, b]; rfl, rfl⟩
theorem rRest_flush {e : Nat} {out : List Nat} {used : Nat} {name : List Nat} : rRest k B most q.flush e out used name = rRest k B most q e out used name := by
 have e1 : q.flush.pre ++ q.flush.o = q.pre ++ q.o := by show q.pre ++ q.o ++ [] = _; rw [List.append_nil]
 have eg : q.flush.g = q.g := by
  unfold RQ.g
  rw [e1]
  rfl
 unfold rRest
 rw [e1, eg]
 rfl
theorem RV.at_ (h : RV k B most q) (z' : Nat) : RV k B most { q with z := z' } := ⟨h.bytes, h.len, h.sum1, h.sum2, h.al8, h.nopre, h.ile, h.sat, h.k1, h.p0, h.p2, h.k2, h.k01, h.hh⟩
theorem RV.more (h : RV k B most q) (hp : q.p ≤ 8 * B.length) (M : List Nat) : RV k (B ++ M) most q := by
 refine ⟨h.bytes, h.len, h.sum1, h.sum2, h.al8, h.nopre, h.ile, h.sat, h.k1, h.p0, h.p2, fun e => ?_, h.k01, h.hh⟩
 have hg := h.k2 e
 refine ⟨fun y => ?_, hg.fl, hg.lf, hg.ls, hg.lb, hg.ll, hg.nm, hg.l6, hg.l7⟩
 obtain ⟨a, b⟩ := hg.al y
 refine ⟨a, ?_⟩
 rw [b]
 congr 1
 exact (List.take_append_of_le_length (by show q.p / 8 ≤ B.length; omega)).symm
theorem rRest_at {e : Nat} {out : List Nat} {used : Nat} {name : List Nat} (z' : Nat) : rRest k B most { q with z := z' } e out used name = rRest k B most q e out used name := rfl
end Go.Proofs.YtbpahojchgpdnaaGreatDoor
namespace Go.Proofs.YtbpahojchgpdnaaGreatDoor
open Go.RowKit Go.Bel Go.Maps
def KeptA (n D : Nat) (K : World → Prop) : Prop := ∀ (w w' : World) (j t : Nat) (A : Array Value), t = 96 ∨ t = 45 → w.heap[j]? = some (.cells A t (0, 0)) → j = D ∨ n ≤ j → Step (· = j) w w' → K w → K w'
structure RunK (w0 w : World) (base f d D : Nat) (S : Nat → Prop) (x : Nat) (vo : Value) (ys : List Nat) (used : Nat) (nm : ByteArray) (pt : Value) : Prop where
 dec : WAtN w D f d pt vo nm
 row : Taken w base vo ys
 step : Step S w0 w
 no : x ≠ 0 → used = 0
 feed : x = 0 → ∃ c z, FeedAt w f c (8 * (used - z)) z ∧ z ≤ used ∧ used ≤ 140737488351232
theorem runR (w0 w : World) (n base f d D : Nat) (S : Nat → Prop) (K : Nat → Value → List Nat → Nat → ByteArray → Value → World → Prop) (hDf : D ≠ f) (hSD : S D) (hK : ∀ x vo ys u nm pt, KeptA n D (K x vo ys u nm pt))
  (hrun : Calls Tryz.prog 90 #[.pointer (some ⟨D, 0, none⟩)] w fun r w' => ∃ (x : Nat) (vo : Value) (ys : List Nat) (used : Nat) (nm : ByteArray) (pt : Value), r = .returned (.int .i64 (x : Nat)) ∧ RunK w0 w' base f d D S x vo ys used nm pt ∧ K x vo ys used nm pt w') :
  Calls Tryz.prog 53 #[.pointer (some ⟨D, 0, none⟩)] w fun r w' => ∃ (x : Nat) (vo : Value) (ys : List Nat) (used : Nat) (nm : ByteArray) (pt : Value), r = .returned (.tuple #[vo, .int .i64 (x : Nat)]) ∧ Taken w' base vo ys ∧ RunK w0 w' base f d D S x (.slice none 0 0) [] used nm pt ∧ K x vo ys used nm pt w' := by
 have HR := hide hrun
 have HK := hide hK
 clear hrun hK
 go_enter Tryz.func53, Tryz.ntmps53
 go_wp2_with fail
 refine (unhide HR).mono ?_
 rintro r w1 ⟨x, vo, ys, used, nm, pt, rfl, hf, hk⟩
 have hA := hf.dec
 have htk := hf.row
 obtain ⟨ao, co, hvo⟩ := htk.slice
 have HFIN := hide (show Taken (w1.setCell ⟨D, 3, none⟩ (.slice none 0 0)) base vo ys ∧ RunK w0 (w1.setCell ⟨D, 3, none⟩ (.slice none 0 0)) base f d D S x (.slice none 0 0) [] used nm pt ∧ K x vo ys used nm pt (w1.setCell ⟨D, 3, none⟩ (.slice none 0 0)) from by
  have hs : Step (· = D) w1 (w1.setCell ⟨D, 3, none⟩ (.slice none 0 0)) := (Step.refl (· = D) w1).setCell (p := ⟨D, 3, none⟩) rfl _
  refine ⟨taken_step htk hs (fun k hk x => taken_ne htk hA (by decide) (by rw [hk, x])), ⟨?_, World.ownsRow_nil _ _ _ _, hf.step.trans (hs.mono (fun k x => by subst x; exact hSD)), hf.no, fun y => ?_⟩, unhide HK x vo ys used nm pt w1 _ D _ _ (.inl rfl) hA (.inl rfl) hs hk⟩
  ·have h9 := blk_set hA 3 (.slice none 0 0)
   simpa using h9
  ·obtain ⟨c, z, h1, h2⟩ := hf.feed y
   exact ⟨c, z, hs.at_ h1 (fun e => hDf e.symm), h2⟩)
 have k3 := (show w1.cell? ⟨D, 3, none⟩ = some vo from blk_cell hA 3 _ rfl)
 have kf3 := (show w1.frozen? ⟨D, 3, none⟩ = false from blk_free hA 3)
 rw [hvo] at k3 HFIN
 clear hA htk hf HR hvo HK hk
 generalize ys.length = no at *
 go_wp2_with fail
 go_ret2
 exact ⟨x, _, ys, used, nm, pt, rfl, unhide HFIN⟩
theorem goOnR (w : World) (n base f d D : Nat) (S : Nat → Prop) (K : Nat → Value → List Nat → Nat → ByteArray → Value → World → Prop) (hDf : D ≠ f) (hSD : S D) (hSl : ∀ k, S k → k < w.heap.size) (hn : n ≤ w.heap.size) (hK : ∀ x vo ys u nm pt, KeptA n D (K x vo ys u nm pt))
  (hrun : ∀ w1, Step (fun _ => False) w w1 → Calls Tryz.prog 90 #[.pointer (some ⟨D, 0, none⟩)] w1 fun r w' => ∃ (x : Nat) (vo : Value) (ys : List Nat) (used : Nat) (nm : ByteArray) (pt : Value), r = .returned (.int .i64 (x : Nat)) ∧ RunK w1 w' base f d D S x vo ys used nm pt ∧ K x vo ys used nm pt w') :
  Calls Tryz.prog 38 #[.pointer (some ⟨D, 0, none⟩), .pointer (some ⟨f, 0, none⟩)] w fun r w' => ∃ (x : Nat) (vo : Value) (ys : List Nat) (used : Nat) (nm : ByteArray) (pt : Value), r = .returned (.agg #[.int .i64 (x : Nat), vo, .int .i64 (used : Nat), .string nm]) ∧ Taken w' base vo ys ∧ WAtN w' D f d pt (.slice none 0 0) nm ∧ Step S w w' ∧ K x vo ys used nm pt w' := by
 have HRUN := hide hrun
 have HK := hide hK
 clear hrun hK
 go_enter Tryz.func38, Tryz.ntmps38
 go_wp2_with fail
 obtain ⟨R, hR⟩ : ∃ R, R = w.heap.size := ⟨_, rfl⟩
 obtain ⟨w0, hw0⟩ : ∃ w0, w0 = w.alloc (.cells #[.int .i64 0, .slice none 0 0, .int .i64 0, .string ⟨#[]⟩] 45) := ⟨_, rfl⟩
 have hs0 : Step (fun _ => False) w w0 := by rw [hw0]; exact (Step.refl _ _).alloc _
 have hz0 : w0.heap.size = R + 1 := by rw [hw0, hR]; simp
 have hr0 : w0.heap[R]? = some (.cells #[.int .i64 0, .slice none 0 0, .int .i64 0, .string ⟨#[]⟩] 45 (0, 0)) := by rw [hw0, hR]; exact heap_alloc_new _ _
 have hRe : R ≤ w.heap.size := by omega
 have hRl : w.heap.size ≤ R := by omega
 rw [← hw0, ← hR]
 clear hw0 hR
 refine (runR w0 w0 n base f d D S K hDf hSD (unhide HK) (unhide HRUN w0 hs0)).mono ?_
 rintro r w1 ⟨e, vo, ys, used, nm, pt, rfl, htk, hfin, hk⟩
 have hDa := hfin.dec
 obtain ⟨va, vc, hv⟩ := htk.slice
 have hr1 : w1.heap[R]? = some (.cells #[.int .i64 0, .slice none 0 0, .int .i64 0, .string ⟨#[]⟩] 45 (0, 0)) := hfin.step.at_ hr0 (fun x => by have := hSl R x; omega)
 have kD4 := (show w1.cell? ⟨D, 4, none⟩ = some (.string nm) from blk_cell hDa 4 _ rfl)
 have hst : Step S w w1 := (hs0.mono (fun _ x => x.elim)).trans hfin.step
 have hz1 := hst.size
 have hne : vo.ownBlock ≠ some R := taken_ne htk hr1 (by decide)
 have hDR : D ≠ R := fun x => by have := hSl D hSD; omega
 have HTK := hide htk
 have HST := hide hst
 have HFE := hide hfin.feed
 have HNE := hide hne
 have HU := hide hfin.no
 have HR1 := hide hr1
 have HDA := hide hDa
 have HKK := hide hk
 rw [hv] at HTK HNE HKK
 rw [hv]
 have hlen : ys.length = ys.length := rfl
 generalize hno : ys.length = len at *
 have q0 : w1.cell? ⟨R, 0, none⟩ = some (.int .i64 0) := blk_cell hr1 0 _ rfl
 have q1 : w1.cell? ⟨R, 1, none⟩ = some (.slice none 0 0) := blk_cell hr1 1 _ rfl
 have q2 : w1.cell? ⟨R, 2, none⟩ = some (.int .i64 0) := blk_cell hr1 2 _ rfl
 have q3 : w1.cell? ⟨R, 3, none⟩ = some (.string ⟨#[]⟩) := blk_cell hr1 3 _ rfl
 have g0 := blk_free hr1 0
 have g1 := blk_free hr1 1
 have g2 := blk_free hr1 2
 have g3 := blk_free hr1 3
 have hrl := lt_of_block hr1
 have HEND := hide (show ∀ w' : World, Step (· = R) w1 w' → Taken w' base (.slice va len vc) ys ∧ WAtN w' D f d pt (.slice none 0 0) nm ∧ Step S w w' ∧ K e (.slice va len vc) ys used nm pt w' from fun w' hs => by
  refine ⟨taken_step (unhide HTK) hs (fun k hk x => unhide HNE (by rw [hk, x])), hs.at_ (unhide HDA) hDR, (unhide HST).trans' hs (fun k hk x => by omega), unhide HK e (.slice va len vc) ys used nm pt w1 w' R _ _ (.inr rfl) (unhide HR1) (.inr (by omega)) hs (unhide HKK)⟩)
 clear hfin hs0 hr0 hr1 hDa hv htk hst hne HRUN hk HK HKK HDA HR1 hno hlen
 go_wp2_with fail
 refine (wrapNameG D nm w1 kD4).mono ?_
 rintro r w2 ⟨rfl, rfl⟩
 by_cases he : e = 0
 ·subst he
  obtain ⟨c, z, hfe, hzu, hum⟩ := unhide HFE rfl
  have HFE2 := hide hfe
  obtain ⟨a, ha⟩ : ∃ a, a = used - z := ⟨_, rfl⟩
  rw [← ha] at HFE2
  have haz : (a : Int) + (z : Int) = (used : Int) := by omega
  have HAZ := hide haz
  have ham : a ≤ 140737488351232 := by omega
  have hzm : z ≤ 140737488351232 := by omega
  clear hfe HFE ha hzu hum haz
  go_wp2_with fail
  refine (feedUsed_any f (8 * a) z _ _ ((Below.heap_alloc _ _ _ (lt_of_block (unhide HFE2))).trans (unhide HFE2)) (by omega) (by omega)).mono ?_
  rintro r w6 ⟨rfl, k, hw6⟩
  subst hw6
  go_wp2_with fail
  have hfin := (((((((Step.refl (· = R) w2).alloc (.cells #[.int .i64 0, .slice va len vc, .int .i64 0, .string nm] 45)).drewN k).setNew (p := ⟨w2.heap.size, 2, none⟩) (Nat.le_refl _) (.int .i64 ((z : Int) + (8 * (a : Int) + 7) / 8))).setCell (p := ⟨R, 0, none⟩) rfl (.int .i64 0)).setCell (p := ⟨R, 1, none⟩) rfl (.slice va len vc)).setCell (p := ⟨R, 2, none⟩) rfl (.int .i64 ((z : Int) + (8 * (a : Int) + 7) / 8))).setCell (p := ⟨R, 3, none⟩) rfl (.string nm)
  refine bodyPost_ret (v := .agg #[.int .i64 0, .slice va len vc, .int .i64 ((z : Int) + (8 * (a : Int) + 7) / 8), .string nm]) (by simp [results, Tryz.results38, go_sem, q0, q1, q2, q3, hrl]) rfl ⟨0, .slice va len vc, ys, used, nm, pt, ?_, unhide HEND _ hfin⟩
  have h8 : (z : Int) + (8 * (a : Int) + 7) / 8 = (used : Int) := by
   have := unhide HAZ
   omega
  rw [h8]
  rfl
 ·have he' : ((e : Int) == 0) = false := beq_eq_false_iff_ne.2 (by omega)
  have HU2 := hide (unhide HU he)
  clear HU
  go_wp2_with fail
  have hfin := (((((Step.refl (· = R) w2).setCell (p := ⟨R, 0, none⟩) rfl (.int .i64 (e : Nat))).setCell (p := ⟨R, 1, none⟩) rfl (.slice va len vc)).setCell (p := ⟨R, 2, none⟩) rfl (.int .i64 0)).setCell (p := ⟨R, 3, none⟩) rfl (.string nm)).alloc (.cells #[.int .i64 (e : Nat), .slice va len vc, .int .i64 0, .string nm] 45)
  refine bodyPost_ret (v := .agg #[.int .i64 (e : Nat), .slice va len vc, .int .i64 0, .string nm]) (by simp [results, Tryz.results38, go_sem, q0, q1, q2, q3, hrl]) rfl ⟨e, .slice va len vc, ys, used, nm, pt, ?_, unhide HEND _ hfin⟩
  rw [unhide HU2]
  rfl
end Go.Proofs.YtbpahojchgpdnaaGreatDoor
