/- Proved here: what deal, Deal and DealDistances do. -/
import Derived.RangeFuncNested
import Derived.RangeFuncBound
import Derived.RangeFuncCalls
import Derived.RangeFuncLeaves
import Derived.RangeFuncWrites
import Derived.Shelf.Abstract
import Derived.Shelf.RegionOpen
import Derived.OwnWalkIn
import Derived.TacticsInMore
import Derived.LoopNIn
import Derived.LoopIn
import Derived.Maps.OwnIn
import Derived.Test.YtbpahojchgpdnaaGreatDoorCodesLen
set_option maxRecDepth 20000
set_option maxHeartbeats 4000000
namespace Go.Proofs.YtbpahojchgpdnaaGreatDoor
open Go.RowKit Go.Shelf Go.Bel Go.Maps
def givIn (L : List Nat) (l : Nat) (st : Dealt) : Nat → List (Nat × Nat)
 | 0 => []
 | k + 1 => givIn L l st k ++ (if L[k]?.getD 0 = l then [((dealIn L l st k).next, k)] else [])
def stIn (L : List Nat) (l : Nat) : Dealt := ⟨2 * (dealTo L l).next, (dealTo L l).tab, (dealTo L l).longest⟩
def givTo (L : List Nat) : Nat → List (Nat × Nat)
 | 0 => []
 | l + 1 => givTo L l ++ givIn L (l + 1) (stIn L l) L.length
theorem givIn_length (L : List Nat) (l : Nat) (st : Dealt) (k : Nat) : (givIn L l st k).length ≤ k := by
 induction k with
 | zero => simp [givIn]
 | succ k ih =>
  rw [givIn, List.length_append]
  split <;> simp <;> omega
theorem givTo_length (L : List Nat) (l : Nat) : (givTo L l).length ≤ l * L.length := by
 induction l with
 | zero => simp [givTo]
 | succ l ih =>
  have := givIn_length L (l + 1) (stIn L l) L.length
  rw [givTo, List.length_append, Nat.succ_mul]
  omega
def tabOf (xs : List (Nat × Nat)) : Tab := xs.foldl (fun M x c => if c = x.1 % 65536 then some (x.2 % 65536) else M c) (fun _ => none)
def lenOf (xs : List (Nat × Nat)) : Int := xs.foldl (fun _ x => (Lib.bitLen (x.1 % 65536) : Nat) - 1) 0
theorem tabOf_snoc (xs : List (Nat × Nat)) (x : Nat × Nat) : tabOf (xs ++ [x]) = fun c => if c = x.1 % 65536 then some (x.2 % 65536) else tabOf xs c := by simp [tabOf]
theorem lenOf_snoc (xs : List (Nat × Nat)) (x : Nat × Nat) : lenOf (xs ++ [x]) = (Lib.bitLen (x.1 % 65536) : Nat) - 1 := by simp [lenOf]
theorem next_bd (L : List Nat) (h15 : ∀ i : Nat, L[i]?.getD 0 ≤ 15) (hm : mayB L = true) (l k : Nat) (hl : l < 15) (hk : k < L.length) (hq : L[k]?.getD 0 = l + 1) :
  2 ^ (l + 1) ≤ (dealIn L (l + 1) (stIn L l) k).next ∧ (dealIn L (l + 1) (stIn L l) k).next < 2 ^ (l + 2) ∧ (dealIn L (l + 1) (stIn L l) k).next < 65536 := by
 have e : (dealIn L (l + 1) (stIn L l) k).next = Go.Bel.keyOf L k := by
  rw [dealIn_next]
  unfold Go.Bel.keyOf stIn
  dsimp only
  rw [hq, dealTo_next, show l + 1 - 1 = l by omega]
 have h1 := keyOf_lt L k hk (by omega)
 have h2 := room L h15 hm
 have h3 := nx_mono L (show l + 1 ≤ 15 by omega)
 have h4 := nx_pos L l
 rw [hq] at h1
 have h5 : 2 ^ (l + 2) * 2 ^ (15 - (l + 1)) = 65536 := by
  rw [← Nat.pow_add, show l + 2 + (15 - (l + 1)) = 16 by omega]
 have h6 : nx L (l + 1) ≤ 2 ^ (l + 2) := by
  have hp : 0 < 2 ^ (15 - (l + 1)) := Nat.pow_pos (by omega)
  exact Nat.le_of_mul_le_mul_right (by omega) hp
 have h7 : 2 * nx L l ≤ (dealIn L (l + 1) (stIn L l) k).next := by
  rw [dealIn_next]
  unfold stIn
  dsimp only
  rw [dealTo_next]
  omega
 have h8 : 2 ^ (l + 2) ≤ 2 ^ 16 := Nat.pow_le_pow_right (by omega) (by omega)
 rw [e] at h7 ⊢
 have h9 : 2 ^ (l + 1) = 2 * 2 ^ l := by rw [Nat.pow_succ, Nat.mul_comm]
 omega
theorem giv_in (L : List Nat) (h15 : ∀ i : Nat, L[i]?.getD 0 ≤ 15) (hm : mayB L = true) (hL : L.length ≤ 1000) (l : Nat) (hl : l < 15) (h1 : tabOf (givTo L l) = (dealTo L l).tab) (h2 : lenOf (givTo L l) = ((dealTo L l).longest : Nat)) (k : Nat) (hk : k ≤ L.length) :
  tabOf (givTo L l ++ givIn L (l + 1) (stIn L l) k) = (dealIn L (l + 1) (stIn L l) k).tab ∧ lenOf (givTo L l ++ givIn L (l + 1) (stIn L l) k) = ((dealIn L (l + 1) (stIn L l) k).longest : Nat) := by
 induction k with
 | zero => rw [givIn, List.append_nil, dealIn]; exact ⟨h1, h2⟩
 | succ k ih =>
  have h := ih (by omega)
  rw [givIn, dealIn]
  by_cases hq : L[k]?.getD 0 = l + 1
  ·have hb := next_bd L h15 hm l k hl (by omega) hq
   rw [if_pos hq, if_pos hq, ← List.append_assoc, tabOf_snoc, lenOf_snoc, h.1]
   dsimp only
   rw [Nat.mod_eq_of_lt hb.2.2, Nat.mod_eq_of_lt (show k < 65536 by omega), bitLen_of (l + 1) _ hb.1 hb.2.1 hb.2.2]
   exact ⟨rfl, by omega⟩
  ·rw [if_neg hq, if_neg hq, List.append_nil]; exact h
theorem giv_to (L : List Nat) (h15 : ∀ i : Nat, L[i]?.getD 0 ≤ 15) (hm : mayB L = true) (hL : L.length ≤ 1000) (l : Nat) (hl : l ≤ 15) : tabOf (givTo L l) = (dealTo L l).tab ∧ lenOf (givTo L l) = ((dealTo L l).longest : Nat) := by
 induction l with
 | zero => exact ⟨rfl, rfl⟩
 | succ l ih =>
  have h := ih (by omega)
  exact giv_in L h15 hm hL l (by omega) h.1 h.2 L.length (Nat.le_refl _)
def encC (x : Nat × Nat) : Array Value := #[.int .u32 ((x.1 % 65536 : Nat) : Int), .int .i64 ((x.2 % 65536 : Nat) : Int)]
def Keep2 (a b : Nat) (A B : World) : Prop := B.heap[a]? = A.heap[a]? ∧ B.heap[b]? = A.heap[b]?
theorem Keep2.trans {a b : Nat} {A B C : World} (h : Keep2 a b A B) (k : Keep2 a b B C) : Keep2 a b A C := ⟨k.1.trans h.1, k.2.trans h.2⟩
theorem Keep2.ints {a b off : Nat} {A B : World} {L : List Nat} (h : Keep2 a b A B) (hc : Ints A b off L) : Ints B b off L :=
 ⟨fun i hi => (World.cell?_of_block (a := ⟨b, off + i, none⟩) h.2).trans (hc.cell i hi), hc.le, hc.much⟩
attribute [local go_sem] Oper.semAt_some
set_option maxRecDepth 100000 in
theorem dealt1_in (F : Fence) (n : Nat) (hf : F.fn 178) (hro : F.round = none) (hn : 1 ≤ n) (l Bs g off cap : Nat) (L : List Nat) (h15 : ∀ i : Nat, L[i]?.getD 0 ≤ 15) (hm : mayB L = true) (hL : L.length ≤ 1000) (J Jx : List (Nat × Nat) → World → Prop)
  (hY : ∀ pre x W, J pre W → pre.length < 15001 → YieldAt F (n - 1) Tryz.prog l (encC x) W fun e W' =>
   (e = .returned (.bool true) ∧ J (pre ++ [x]) W' ∧ Keep2 Bs g W W') ∨ (e = .returned (.bool false) ∧ Jx (pre ++ [x]) W'))
  (W : World) (hBs : W.cell? ⟨Bs, 0, none⟩ = some (.slice (some ⟨g, off, none⟩) L.length cap)) (hc : Ints W g off L) (h0 : J [] W) :
  CallsIn F n Tryz.prog 178 #[.func (.yield l) #[] #[], .pointer (some ⟨Bs, 0, none⟩)] W fun e W' => (∃ v, e = .returned v) ∧
   ((∃ ys, ys = givTo L 15 ∧ J ys W') ∨ (∃ pre, True ∧ Jx pre W')) := by
 refine callsIn_of_wp Tryz.func178 rfl hf ?_ hro
 simp only [Tryz.ntmps178, List.size_toArray, List.length_cons, List.length_nil, Nat.reduceAdd, Nat.reduceSub, Array.replicate_succ, Array.replicate_zero, List.push_toArray, List.append_toArray, List.nil_append, List.cons_append]
 gi_wp2
 gi_loopw [3, 4] (fun nx ln wr => ∃ l : Nat, l ≤ 15 ∧ ln = .int .i64 ((l : Int) + 1) ∧ nx = .int .u32 ((dealTo L l).next : Nat) ∧ J (givTo L l) wr ∧ Keep2 Bs g W wr) (fun _ ln _ => 16 - (intOf ln).toNat)
 case atStart => exact ⟨0, by omega, rfl, rfl, h0, rfl, rfl⟩
 case round =>
  obtain ⟨l, hl, rfl, rfl, hJ, hB⟩ := hrel
  have hbd := dealTo_bd L hL l hl
  by_cases hlt : l < 15
  ·have e2 : ((dealTo L l).next : Int) * 2 = (((stIn L l).next : Nat) : Int) := by unfold stIn; dsimp only; omega
   have hcs := (World.cell?_of_block (a := ⟨Bs, 0, none⟩) hB.1).trans hBs
   have H2 := hide e2
   have hnb : (stIn L l).next ≤ 65601536 := by unfold stIn; dsimp only; omega
   have HJ := hide hJ
   clear e2 hJ
   gi_wp2
   rw [unhide H2, show decide ((l : Int) + 1 ≤ 15) = true from decide_eq_true (by omega)]
   gi_loopw [3, 15] (fun nx i wr => ∃ k : Nat, k ≤ L.length ∧ i = .int .i64 (k : Nat) ∧ nx = .int .u32 ((dealIn L (l + 1) (stIn L l) k).next : Nat) ∧ J (givTo L l ++ givIn L (l + 1) (stIn L l) k) wr ∧ Keep2 Bs g W wr) (fun _ i _ => L.length - (intOf i).toNat)
   case atStart => exact ⟨0, by omega, rfl, rfl, by rw [givIn, List.append_nil]; exact unhide HJ, hB⟩
   case round =>
    clear hcs hB HJ
    obtain ⟨k, hk, rfl, rfl, hJ, hB⟩ := hrel
    have hnk := dealIn_next_le L (l + 1) (stIn L l) k
    have hglen : (givTo L l ++ givIn L (l + 1) (stIn L l) k).length < 15001 := by
     have h1 := givTo_length L l
     have h2 := givIn_length L (l + 1) (stIn L l) k
     rw [List.length_append]
     have h3 : l * L.length ≤ 14 * L.length := Nat.mul_le_mul_right _ (by omega)
     omega
    by_cases hkl : k < L.length
    ·have hcell := (hB.ints hc).cell k hkl
     have hle := h15 k
     obtain ⟨q, hq⟩ : ∃ q, q = L[k]?.getD 0 := ⟨_, rfl⟩
     rw [← hq] at hcell hle
     have HQ := hide hq
     clear hq
     by_cases hql : q = l + 1
     ·have hq' : ((q : Int) != (l : Int) + 1) = false := by rw [bne_eq_false_iff_eq]; omega
      have hb := next_bd L h15 hm l k hlt hkl (by rw [← unhide HQ]; exact hql)
      obtain ⟨fn, tmps, assign, body, hy, hR⟩ := hY _ ((dealIn L (l + 1) (stIn L l) k).next, k) wr hJ hglen
      unfold encC at hy
      dsimp only at hy
      rw [Nat.mod_eq_of_lt hb.2.2, Nat.mod_eq_of_lt (show k < 65536 by omega)] at hy
      have hgi : givIn L (l + 1) (stIn L l) (k + 1) = givIn L (l + 1) (stIn L l) k ++ [((dealIn L (l + 1) (stIn L l) k).next, k)] := by
       rw [givIn, ← unhide HQ, if_pos hql]
      have hdn : (dealIn L (l + 1) (stIn L l) (k + 1)).next = (dealIn L (l + 1) (stIn L l) k).next + 1 := by
       rw [dealIn, ← unhide HQ, if_pos hql]
      rw [List.append_assoc, ← hgi] at hR
      have HGI := hide hgi
      have HDN := hide hdn
      obtain ⟨nx, hnx⟩ : ∃ nx, nx = (dealIn L (l + 1) (stIn L l) k).next := ⟨_, rfl⟩
      rw [← hnx] at hb hy hdn ⊢
      have HNX := hide hnx
      have hb3 : nx < 65536 := hb.2.2
      have HB := hide hB
      have HR := hide hR
      clear hgi hdn hnx hb hB hJ hnk hR hglen hbd
      gi_wp2
      refine (unhide HR).mono ?_
      rintro e W3 (⟨rfl, hJ3, hk3⟩ | ⟨rfl, hJx3⟩)
      ·have HJ3 := hide hJ3
       clear hJ3
       gi_wp2
       go_roundw
       case rel => exact ⟨k + 1, by omega, by go_num, by rw [unhide HDN, ← unhide HNX]; go_num, unhide HJ3, (unhide HB).trans hk3⟩
       case measure => simp [intOf]; omega
      ·have HJ3 := hide hJx3
       clear hJx3
       gi_wp2
       refine bodyPost_ret (results_none rfl _ _ _) rfl ?_
       exact ⟨⟨_, rfl⟩, .inr ⟨_, trivial, unhide HJ3⟩⟩
     ·have hq' : ((q : Int) != (l : Int) + 1) = true := by rw [bne_iff_ne]; omega
      have HB := hide hB
      have HJ := hide hJ
      clear hJ hB hnk hglen hbd
      gi_wp2
      go_roundw
      case rel => exact ⟨k + 1, by omega, by go_num, by rw [dealIn, ← unhide HQ, if_neg hql], by rw [givIn, ← unhide HQ, if_neg hql, List.append_nil]; exact unhide HJ, unhide HB⟩
      case measure => simp [intOf]; omega
    ·have : k = L.length := by omega
     subst this
     have HB := hide hB
     have HJ := hide hJ
     clear hJ hB hnk hglen hbd
     gi_wp2
     go_roundw
     case rel => exact ⟨l + 1, by omega, by go_num, rfl, unhide HJ, unhide HB⟩
     case measure => simp [intOf]; omega
  ·have : l = 15 := by omega
   subst this
   have HJ := hide hJ
   clear hJ hB hbd
   gi_wp2
   go_end0
   exact ⟨⟨_, rfl⟩, .inl ⟨_, rfl, unhide HJ⟩⟩
theorem dealt_in (F : Fence) (n : Nat) (h5 : F.fn 157) (hro : F.round = none) (a : Option Addr) (len cap : Nat) (w : World) :
  CallsIn F n Tryz.prog 157 #[.slice a len cap] w fun e w' => e = .returned (.func (.func 178) #[] #[.pointer (some ⟨w.heap.size, 0, none⟩)]) ∧ w' = w.alloc (.cells #[.slice a len cap] 57) := by
 refine callsIn_of_wp Tryz.func157 rfl h5 ?_ hro
 simp only [Tryz.ntmps157, List.size_toArray, List.length_cons, List.length_nil, Nat.reduceAdd, Nat.reduceSub, Array.replicate_succ, Array.replicate_zero, List.push_toArray, List.append_toArray, List.nil_append, List.cons_append]
 gi_wp2
 go_ret
 exact ⟨rfl, rfl⟩
theorem dealt_stops (F : Fence) (n : Nat) (hf : F.fn 178) (hro : F.round = none) (hn : 1 ≤ n) (Bs g off cap : Nat) (L : List Nat) (h15 : ∀ i : Nat, L[i]?.getD 0 ≤ 15) (hm : mayB L = true) (hL : L.length ≤ 1000) (w : World) (hBs : Bs < w.heap.size) (hg : g < w.heap.size)
  (hb : w.cell? ⟨Bs, 0, none⟩ = some (.slice (some ⟨g, off, none⟩) L.length cap)) (hc : Ints w g off L) :
  SeqStopsK F n Tryz.prog 178 #[.pointer (some ⟨Bs, 0, none⟩)] encC (Keep2 Bs g) (fun ys => ys = givTo L 15) (fun _ => True) 15001 w := fun l J Jx W hW _ _ hY h0 =>
 dealt1_in F n hf hro hn l Bs g off cap L h15 hm hL J Jx hY W ((hW.cell (p := ⟨Bs, 0, none⟩) hBs).trans hb) ⟨fun i hi => (hW.cell (p := ⟨g, off + i, none⟩) hg).trans (hc.cell i hi), hc.le, hc.much⟩ h0
structure DealW (w : World) (R : Nat) (pre : List (Nat × Nat)) (W : World) : Prop where
 v0 : W.cell? ⟨R + 1 + 1, 0, none⟩ = some (.map (some (R + 1)))
 v1 : W.cell? ⟨R + 1 + 1, 1, none⟩ = some (.int .i64 (lenOf pre))
 f1 : W.frozen? ⟨R + 1 + 1, 1, none⟩ = false
 r0 : W.cell? ⟨R, 0, none⟩ = some (.map none)
 r1 : W.cell? ⟨R, 1, none⟩ = some (.int .i64 0)
 rf0 : W.frozen? ⟨R, 0, none⟩ = false
 rf1 : W.frozen? ⟨R, 1, none⟩ = false
 own : ∃ D : DataW Unit, W.ownsMap Tryz.prog 198 (plainElem Tryz.prog 3) (R + 1) pre.length D ∧ MapIs D (tabOf pre)
 below : Below w.heap.size w W
 big : R + 4 ≤ W.heap.size
theorem lenOf_bd (xs : List (Nat × Nat)) : -1 ≤ lenOf xs ∧ lenOf xs ≤ 100 := by
 rcases List.eq_nil_or_concat xs with h | ⟨ys, x, h⟩
 ·rw [h]; simp [lenOf]
 ·rw [h, List.concat_eq_append, lenOf_snoc]
  have := Lib.bitLen_le (x.1 % 65536) 16 (by omega) (by have := Nat.mod_lt x.1 (show 65536 > 0 by omega); omega)
  omega
set_option maxRecDepth 100000 in
theorem deal_any (g off cap : Nat) (L : List Nat) (w : World) (h : Ints w g off L) (hgl : g < w.heap.size) (hm : mayB L = true) :
  Calls Tryz.prog 218 #[.slice (some ⟨g, off, none⟩) L.length cap] w fun e w' => ∃ mb, e = .returned (.agg #[.map (some mb), .int .i64 ((dealAll L).longest : Nat)]) ∧ w.heap.size ≤ mb ∧ TabAt w' mb (dealAll L).tab ∧ Step (fun _ => False) w w' := by
 refine (callsIn_wide (n := 3)).1 ?_
 have hmm := @run_makeMap Tryz.prog
 refine callsIn_of_wp_marks Tryz.func218 rfl trivial ?_ rfl
 simp only [Tryz.ntmps218, List.size_toArray, List.length_cons, List.length_nil, Nat.reduceAdd, Nat.reduceSub, Array.replicate_succ, Array.replicate_zero, List.push_toArray, List.append_toArray, List.nil_append, List.cons_append]
 gi_wp2_with (refine ⟨trivial, ?_⟩; gi_at_call 157; refine (dealt_in _ _ trivial rfl _ _ _ _).mono ?_; rintro e w' ⟨rfl, rfl⟩)
 obtain ⟨R, hR⟩ : ∃ R, R = w.heap.size := ⟨_, rfl⟩
 rw [← hR]
 obtain ⟨w1, hw1⟩ : ∃ w1, w1 = ((((w.alloc (.cells #[.map none, .int .i64 0] 123)).alloc (.map #[] 0)).alloc (.cells #[.map (some (R + 1)), .int .i64 0] 123)).alloc (.cells #[.slice (some ⟨g, off, none⟩) L.length cap] 57)) := ⟨_, rfl⟩
 have hz1 : w1.heap.size = R + 1 + 1 + 1 + 1 := by rw [hw1, hR]; simp
 have hb1 : Below w.heap.size w w1 := by rw [hw1]; exact ((((Below.refl _ w).alloc (Nat.le_refl _) _).alloc (by simp) _).alloc (by simp; omega) _).alloc (by simp; omega) _
 have hbox : w1.cell? ⟨R + 1 + 1 + 1, 0, none⟩ = some (.slice (some ⟨g, off, none⟩) L.length cap) := by
  have h9 := heap_alloc_new (((w.alloc (.cells #[.map none, .int .i64 0] 123)).alloc (.map #[] 0)).alloc (.cells #[.map (some (R + 1)), .int .i64 0] 123)) (.cells #[.slice (some ⟨g, off, none⟩) L.length cap] 57)
  rw [← hw1, show (((w.alloc (.cells #[.map none, .int .i64 0] 123)).alloc (.map #[] 0)).alloc (.cells #[.map (some (R + 1)), .int .i64 0] 123)).heap.size = R + 1 + 1 + 1 by rw [hR]; simp] at h9
  exact cell_of_one h9
 have hvar : w1.heap[R + 1 + 1]? = some (.cells #[.map (some (R + 1)), .int .i64 0] 123 (0, 0)) := by
  rw [hw1, hR]
  refine (Below.heap_alloc _ _ _ (by simp)).trans ?_
  have h9 := heap_alloc_new ((w.alloc (.cells #[.map none, .int .i64 0] 123)).alloc (.map #[] 0)) (.cells #[.map (some (w.heap.size + 1)), .int .i64 0] 123)
  simpa using h9
 have hres : w1.heap[R]? = some (.cells #[.map none, .int .i64 0] 123 (0, 0)) := by
  rw [hw1, hR]
  exact (Below.heap_alloc _ _ _ (by simp; omega)).trans ((Below.heap_alloc _ _ _ (by simp; omega)).trans ((Below.heap_alloc _ _ _ (by simp)).trans (heap_alloc_new _ _)))
 have hmap : w1.ownsMap Tryz.prog 198 (plainElem (H := Unit) Tryz.prog 3) (R + 1) 0 (.map []) := by
  rw [hw1, hR]
  have h9 := ((World.ownsMap_made (H := Unit) (w.alloc (.cells #[.map none, .int .i64 0] 123)) Tryz.prog 198 (plainElem Tryz.prog 3)).alloc (.cells #[.map (some (w.heap.size + 1)), .int .i64 0] 123)).alloc (.cells #[.slice (some ⟨g, off, none⟩) L.length cap] 57)
  simpa using h9
 have hI0 : DealW w R [] w1 := ⟨blk_cell hvar 0 _ rfl, blk_cell hvar 1 _ rfl, blk_free hvar 1, blk_cell hres 0 _ rfl, blk_cell hres 1 _ rfl, blk_free hres 0, blk_free hres 1, ⟨.map [], hmap, mapIs_nil⟩, hb1, by omega⟩
 have hc1 : Ints w1 g off L := ⟨fun i hi => (hb1.cell (p := ⟨g, off + i, none⟩) hgl).trans (h.cell i hi), h.le, h.much⟩
 have hmuch := h.much
 have h15 := h.le
 have hRw : w.heap.size ≤ R := by omega
 have hRw2 : R ≤ w.heap.size := by omega
 rw [← hw1]
 clear hw1 hR hvar hres hmap h hmm
 have HH0 := hide hI0
 have HC1 := hide hc1
 clear hI0 hc1
 refine wpIn_rangeFunc_ownG (F := Fence.wide) rfl (by omega) (gf := 178) (lb := #[.pointer (some ⟨R + 1 + 1 + 1, 0, none⟩)]) rfl trivial (enters_of Tryz.func178 (by kernel_rfl) rfl)
  (dealt_stops Fence.wide _ trivial rfl (by omega) (R + 1 + 1 + 1) g off cap L h15 hm hmuch w1 (by omega) (by omega) hbox (unhide HC1)) Keep2.trans ?hKb (Below.refl _ _) (fun _ => rfl)
  (DealW w R) (fun _ _ _ => False) ?hI (fun _ _ _ _ _ hs _ _ => hs) (unhide HH0)
  (fun x => { tmps := #[.slice (some ⟨g, off, none⟩) L.length cap, undef, .pointer (some ⟨R, 0, none⟩), .pointer (some ⟨R + 1 + 1, 0, none⟩), .int .u32 ((x.1 % 65536 : Nat) : Int), .int .i64 ((x.2 % 65536 : Nat) : Int), .map (some (R + 1)), .agg #[.map (some (R + 1)), .int .i64 0], .slice (some ⟨g, off, none⟩) L.length cap, .func (.func 178) #[] #[.pointer (some ⟨R + 1 + 1 + 1, 0, none⟩)], .int .u32 ((x.1 % 65536 : Nat) : Int), .int .i64 ((x.2 % 65536 : Nat) : Int), undef, undef, undef, undef, undef, undef, undef, undef], defers := [] }) ?assign ?body ?done ?stop
 case hKb =>
  intro W l o o' hl _ _ _
  exact ⟨World.putObj_heap_other (by omega), World.putObj_heap_other (by omega)⟩
 case hI =>
  intro s A B row hs hg hr
  have hr2 := fun r e => (hr r e).2
  obtain ⟨D, hD, hM⟩ := hs.own
  exact ⟨cell_kept hs.v0 hg hr2, cell_kept hs.v1 hg hr2, (frozen_kept hs.v1 hg hr2).trans hs.f1, cell_kept hs.r0 hg hr2, cell_kept hs.r1 hg hr2, (frozen_kept hs.r0 hg hr2).trans hs.rf0, (frozen_kept hs.r1 hg hr2).trans hs.rf1,
   ⟨D, hD.kept hg (fun e => by have := (hr _ e.symm).1; omega), hM⟩, hs.below.grown hg hs.below.size (fun k e => by have := (hr k e).1; omega), Nat.le_trans hs.big hg.size⟩
 case assign =>
  intro l x W K hK
  dsimp only [encC]
  gi_wp2
  exact hK
 case body =>
  rintro l pre x W hs hlt
  obtain ⟨D, hown, hM⟩ := hs.own
  have v0 := hs.v0
  have v1 := hs.v1
  have f1 := hs.f1
  obtain ⟨K, hK⟩ : ∃ K, K = x.1 % 65536 := ⟨_, rfl⟩
  obtain ⟨S, hS⟩ : ∃ S, S = x.2 % 65536 := ⟨_, rfl⟩
  have hK2 : K < 65536 := by rw [hK]; exact Nat.mod_lt _ (by omega)
  have hS2 : S < 65536 := by rw [hS]; exact Nat.mod_lt _ (by omega)
  have hlen := lenOf_snoc pre x
  have htab := tabOf_snoc pre x
  rw [← hK] at hlen htab
  rw [← hS] at htab
  rw [← hK, ← hS]
  have HLN := hide hlen
  have HTB := hide htab
  have HS := hide hs
  have hle := lenOf_bd pre
  clear hK hS hlen htab hs
  obtain ⟨es, ck, hh, hown'⟩ := hown
  have HOWN := hide (show W.ownsMap Tryz.prog 198 (plainElem (H := Unit) Tryz.prog 3) (R + 1) pre.length D from ⟨es, ck, hh, hown'⟩)
  clear hown'
  have hbl := Lib.bitLen_le K 16 (by omega) hK2
  gi_wp2_with (first
   | (gi_at_mapUpdate; refine wpListIn_mapUpdate_own _ rfl _ _ _ 121 rfl 198 3 keyLaw Tryz.underlying121 _ (R + 1) pre.length D rfl (unhide HOWN) (by unfold maxLen; omega) _ _ _ rfl rfl (keyOf_int_mk Tryz.underlying198 (WalkArith.wf_u32 (by omega))) _ [] (plainElem_int Tryz.underlying3 (WalkArith.wf_i64 (by omega))) ?_; intro w2 hown2 hgr2; have u1 := cell_kept v1 hgr2 (fun r e => by cases e; exact ⟨_, hh, rfl⟩); have uf1 := (frozen_kept v1 hgr2 (fun r e => by cases e; exact ⟨_, hh, rfl⟩)).trans f1; have HO2 := hide hown2; have HG2 := hide hgr2; clear hown2 hgr2)
   | (refine ⟨trivial, ?_⟩; gi_at_call 155; refine (CallsIn.inRound l (callsIn_wide.2 (length_any K _ hK2))).mono ?_; rintro e w3 ⟨rfl, rfl⟩))
  have hg := unhide HG2
  have hkeep : ∀ r, some (R + 1) = some r → ∃ o : Obj, W.heap[r]? = some o ∧ o.isCells = false := fun r e => by cases e; exact ⟨_, hh, rfl⟩
  have hs := unhide HS
  have hbig := hs.big
  refine ⟨(KeepsFrom.of_grownBy hg (fun j e => by cases e; omega)).trans ((KeepsOthers.setCell _ _ _).from _), ⟨?_, ?_⟩, ?_⟩
  ·exact (Below.heap_setCell _ _ _ _ (by simp)).trans (hg.block _ (by omega) (by simp; omega))
  ·exact (Below.heap_setCell _ _ _ _ (by simp; omega)).trans (hg.block _ (by omega) (by simp; omega))
  ·have hw0 := cell_kept hs.v0 hg hkeep
   have hr0 := cell_kept hs.r0 hg hkeep
   have hr1 := cell_kept hs.r1 hg hkeep
   have hneR : ¬ (R = R + 1 + 1) := by omega
   have hO3 := (unhide HO2).setCell (a := ⟨R + 1 + 1, 1, none⟩) (by simp) (.int .i64 ((Lib.bitLen K : Nat) - 1 : Int))
   refine ⟨?_, ?_, ?_, ?_, ?_, ?_, ?_, ⟨_, by rw [List.length_append]; exact hO3, ?_⟩, ?_, ?_⟩
   ·exact (World.cell?_setCell_other _ _ _ _ (by simp)).trans hw0
   ·rw [unhide HLN]; exact World.cell?_setCell_same' _ _ _ (by rw [u1]; rfl)
   ·rw [World.frozen?_setCell]; exact uf1
   ·exact (World.cell?_setCell_other _ _ _ _ (by simp)).trans hr0
   ·exact (World.cell?_setCell_other _ _ _ _ (by simp)).trans hr1
   ·rw [World.frozen?_setCell]; exact (frozen_kept hs.r0 hg hkeep).trans hs.rf0
   ·rw [World.frozen?_setCell]; exact (frozen_kept hs.r1 hg hkeep).trans hs.rf1
   ·rw [unhide HTB]; exact mapIs_put hM (unhide HOWN).isMap K S
   ·exact (hs.below.grown hg hs.below.size (fun k e => by cases e; omega)).setCell (p := ⟨R + 1 + 1, 1, none⟩) (by simp; omega) _
   ·have := hg.size; simp [World.setCell]; omega
 case done =>
  rintro Dd ys W hDd rfl hs hK
  have v0 := hs.v0
  have v1 := hs.v1
  have r0 := hs.r0
  have r1 := hs.r1
  have rf0 := hs.rf0
  have rf1 := hs.rf1
  have hgv := giv_to L h15 hm hmuch 15 (Nat.le_refl _)
  rw [hgv.2] at v1
  have HS := hide hs
  have HGV := hide hgv
  clear hs hgv
  gi_wp2
  have hbig := (unhide HS).big
  obtain ⟨W2, hW2⟩ : ∃ W2, W2 = (W.setCell ⟨R, 0, none⟩ (.map (some (R + 1)))).setCell ⟨R, 1, none⟩ (.int .i64 ((dealTo L 15).longest : Nat)) := ⟨_, rfl⟩
  have hK2 : W2.heap[Dd]? = some (.deferred (some [])) := by rw [hW2]; exact (Below.heap_setCell _ _ _ _ (by simp; omega)).trans ((Below.heap_setCell _ _ _ _ (by simp; omega)).trans hK)
  have q0 : W2.cell? ⟨R, 0, none⟩ = some (.map (some (R + 1))) := by
   rw [hW2]
   exact (World.cell?_setCell_other _ _ _ _ (by simp)).trans (World.cell?_setCell_same' _ _ _ (by rw [r0]; rfl))
  have q1 : W2.cell? ⟨R, 1, none⟩ = some (.int .i64 ((dealTo L 15).longest : Nat)) := by
   rw [hW2]
   exact World.cell?_setCell_same' _ _ _ (by rw [World.cell?_setCell_other _ _ _ _ (by simp), r1]; rfl)
  have hB2 : Below w.heap.size w W2 := by rw [hW2]; exact (((unhide HS).below.setCell (p := ⟨R, 0, none⟩) hRw _).setCell (p := ⟨R, 1, none⟩) hRw _)
  have hT2 : TabAt W2 (R + 1) (dealAll L).tab := by
   obtain ⟨D, hD, hM⟩ := (unhide HS).own
   rw [(unhide HGV).1] at hM
   have hgl := givTo_length L 15
   refine ⟨(givTo L 15).length, D, ?_, ?_, hM⟩
   ·omega
   ·rw [hW2]; exact (hD.setCell (a := ⟨R, 0, none⟩) (by simp) _).setCell (a := ⟨R, 1, none⟩) (by simp) _
  rw [← hW2]
  have p0 := cell_kept q0 (grownBy_putObj' W2 Dd (.deferred none)) (fun r e => by cases e; exact ⟨_, hK2, rfl⟩)
  have p1 := cell_kept q1 (grownBy_putObj' W2 Dd (.deferred none)) (fun r e => by cases e; exact ⟨_, hK2, rfl⟩)
  have hB3 : Below w.heap.size w (W2.putObj Dd (.deferred none)) := hB2.grown (grownBy_putObj' W2 Dd (.deferred none)) hB2.size (fun k e => by cases e; omega)
  have hT3 : TabAt (W2.putObj Dd (.deferred none)) (R + 1) (dealAll L).tab := hT2.of (World.putObj_heap_other (by omega))
  refine ⟨by simp, .inl ⟨_, _, rfl, run_takeDeferred hK2, ?_⟩⟩
  refine ⟨.agg #[.map (some (R + 1)), .int .i64 ((dealTo L 15).longest : Nat)], by simp [results, Tryz.results218, go_sem, p0, p1], R + 1, rfl, by omega, hT3, ?_⟩
  exact ⟨hB3.os, hB3.tape, hB3.output, hB3.size, fun k hk _ => hB3.block k hk⟩
 case stop =>
  rintro Dd c pre W _ _ hx _
  exact hx.elim
theorem mayB_pos {L : List Nat} (h : mayB L = true) : 0 < L.length := by
 rcases Nat.eq_zero_or_pos L.length with h0 | h0
 ·rw [List.eq_nil_of_length_eq_zero h0] at h
  simp [mayB, wgtTo, cntTo] at h
 ·exact h0
theorem dealUp_ok (g off cap : Nat) (L : List Nat) (w : World) (h : Ints w g off L) (hmay : mayB L = true) :
  Calls Tryz.prog 211 #[.slice (some ⟨g, off, none⟩) L.length cap] w fun e w' => ∃ mb, e = .returned (.tuple #[.agg #[.map (some mb), .int .i64 ((dealAll L).longest : Nat)], .int .i64 0]) ∧ w.heap.size ≤ mb ∧ TabAt w' mb (dealAll L).tab ∧ Step (fun _ => False) w w' := by
 have hglt : g < w.heap.size := by
  have h9 := h.cell 0 (mayB_pos hmay)
  exact World.block_lt_of_cell? w _ h9
 go_enter Tryz.func211, Tryz.ntmps211
 go_wp2_with fail
 obtain ⟨w1, hw1⟩ : ∃ w1, w1 = w.alloc (.cells #[.map none, .int .i64 0] 123) := ⟨_, rfl⟩
 have hs1 : Step (fun _ => False) w w1 := by rw [hw1]; exact (Step.refl _ _).alloc _
 have hr1 : w1.heap[w.heap.size]? = some (.cells #[.map none, .int .i64 0] 123 (0, 0)) := by rw [hw1]; exact heap_alloc_new _ _
 rw [← hw1]
 clear hw1
 refine (mayBe_any g off cap L w1 (h.step hs1 (fun x => x))).mono ?_
 rintro e w2 ⟨rfl, rfl⟩
 rw [hmay]
 have hs1s := hs1.size
 go_wp2_with fail
 refine (deal_any g off cap L _ (h.step hs1 (fun x => x)) (by omega) hmay).mono ?_
 rintro e w3 ⟨mb, rfl, hmb, htab, hs3⟩
 obtain ⟨r0, r1, rf0, rf1⟩ := blk_two (hs3.at_ hr1 (fun x => x))
 have hlt := lt_of_block hr1
 have HT := hide htab
 clear htab hr1
 go_wp2_with fail
 refine bodyPost_ret (v := .tuple #[.agg #[.map (some mb), .int .i64 ((dealAll L).longest : Nat)], .int .i64 0]) (by simp [results, Tryz.results211, go_sem, r0, r1]) rfl ⟨mb, rfl, by omega, ?_, ?_⟩
 ·exact (unhide HT).of ((Below.heap_setCell _ _ _ _ (by simp; omega)).trans (Below.heap_setCell _ _ _ _ (by simp; omega)))
 ·exact ((hs1.trans hs3).setNew (by simp) _).setNew (by simp) _
theorem dealUp_no (g off cap : Nat) (L : List Nat) (w : World) (h : Ints w g off L) (hmay : mayB L = false) :
  Calls Tryz.prog 211 #[.slice (some ⟨g, off, none⟩) L.length cap] w fun e w' => e = .returned (.tuple #[.agg #[.map none, .int .i64 0], .int .i64 7]) ∧ Step (fun _ => False) w w' := by
 go_enter Tryz.func211, Tryz.ntmps211
 go_wp2_with fail
 obtain ⟨w1, hw1⟩ : ∃ w1, w1 = w.alloc (.cells #[.map none, .int .i64 0] 123) := ⟨_, rfl⟩
 have hs1 : Step (fun _ => False) w w1 := by rw [hw1]; exact (Step.refl _ _).alloc _
 have hr1 : w1.heap[w.heap.size]? = some (.cells #[.map none, .int .i64 0] 123 (0, 0)) := by rw [hw1]; exact heap_alloc_new _ _
 rw [← hw1]
 clear hw1
 refine (mayBe_any g off cap L w1 (h.step hs1 (fun x => x))).mono ?_
 rintro e w2 ⟨rfl, rfl⟩
 rw [hmay]
 obtain ⟨r0, r1, rf0, rf1⟩ := blk_two hr1
 clear hr1
 go_wp2_with fail
 refine bodyPost_ret (v := .tuple #[.agg #[.map none, .int .i64 0], .int .i64 7]) (by simp [results, Tryz.results211, go_sem, r0, r1]) rfl ⟨rfl, ?_⟩
 exact (hs1.setNew (by simp) _).setNew (by simp) _
theorem dealFar_none (g off cap : Nat) (L : List Nat) (w : World) (h : Ints w g off L) (h0 : cntTo L L.length = 0) :
  Calls Tryz.prog 220 #[.slice (some ⟨g, off, none⟩) L.length cap] w fun e w' => e = .returned (.tuple #[.agg #[.map none, .int .i64 0], .int .i64 0]) ∧ Step (fun _ => False) w w' := by
 go_enter Tryz.func220, Tryz.ntmps220
 go_wp2_with fail
 obtain ⟨w1, hw1⟩ : ∃ w1, w1 = w.alloc (.cells #[.map none, .int .i64 0] 123) := ⟨_, rfl⟩
 have hs1 : Step (fun _ => False) w w1 := by rw [hw1]; exact (Step.refl _ _).alloc _
 have hr1 : w1.heap[w.heap.size]? = some (.cells #[.map none, .int .i64 0] 123 (0, 0)) := by rw [hw1]; exact heap_alloc_new _ _
 rw [← hw1]
 clear hw1
 refine (weigh_any g off cap L w1 (h.step hs1 (fun x => x))).mono ?_
 rintro e w2 ⟨rfl, rfl⟩
 rw [h0]
 obtain ⟨r0, r1, rf0, rf1⟩ := blk_two hr1
 clear hr1 h0
 go_wp2_with fail
 refine bodyPost_ret (v := .tuple #[.agg #[.map none, .int .i64 0], .int .i64 0]) (by simp [results, Tryz.results220, go_sem, r0, r1]) rfl ⟨rfl, ?_⟩
 exact (hs1.setNew (by simp) _).setNew (by simp) _
end Go.Proofs.YtbpahojchgpdnaaGreatDoor
