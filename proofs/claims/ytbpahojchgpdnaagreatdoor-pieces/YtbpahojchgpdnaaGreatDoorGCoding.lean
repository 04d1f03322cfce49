/- Proved here: what DealDistances, dealRow and readCoding do, whatever the bits are. -/
import Derived.Test.YtbpahojchgpdnaaGreatDoorFeeds
import Derived.Test.YtbpahojchgpdnaaGreatDoorPlain
set_option maxRecDepth 20000
set_option maxHeartbeats 4000000
namespace Go.Proofs.YtbpahojchgpdnaaGreatDoor
open Go.RowKit Go.Bel Go.Maps
theorem cnt_zero (L : List Nat) (k : Nat) (h : cntTo L k = 0) : ∀ i, i < k → L[i]?.getD 0 = 0 := by
 induction k with
 | zero => intro i hi; omega
 | succ k ih =>
  rw [cntTo] at h
  intro i hi
  by_cases hk : i = k
  ·subst hk
   by_cases h0 : 0 < L[i]?.getD 0
   ·rw [if_pos h0] at h; omega
   ·omega
  ·exact ih (by omega) i (by omega)
theorem dealIn_none (L : List Nat) (l : Nat) (st : Dealt) (hl : 1 ≤ l) (k : Nat) (h : ∀ i, i < k → L[i]?.getD 0 = 0) : (dealIn L l st k).longest = st.longest := by
 induction k with
 | zero => rfl
 | succ k ih =>
  rw [dealIn]
  have := h k (by omega)
  rw [if_neg (by omega)]
  exact ih (fun i hi => h i (by omega))
theorem longest_zero (L : List Nat) (h : cntTo L L.length = 0) : (dealAll L).longest = 0 := by
 have h0 := cnt_zero L L.length h
 have : ∀ l, (dealTo L l).longest = 0 := by
  intro l
  induction l with
  | zero => rfl
  | succ l ih => rw [dealTo, dealIn_none L (l + 1) _ (by omega) L.length h0]; exact ih
 exact this 15
def FarV (w w' : World) (v : Value) (D : Dealt) : Prop := (v = .map none ∧ D.longest = 0) ∨ ∃ mb, v = .map (some mb) ∧ w.heap.size ≤ mb ∧ TabAt w' mb D.tab
theorem dealFar_ok (g off cap : Nat) (L : List Nat) (w : World) (h : Ints w g off L) (hf : farB L = true) :
  Calls Tryz.prog 220 #[.slice (some ⟨g, off, none⟩) L.length cap] w fun e w' => ∃ x, e = .returned (.tuple #[.agg #[.map x, .int .i64 ((dealAll L).longest : Nat)], .int .i64 0]) ∧ FarV w w' (.map x) (dealAll L) ∧ Step (fun _ => False) w w' := by
 by_cases h0 : cntTo L L.length = 0
 ·refine (dealFar_none g off cap L w h h0).mono ?_
  rintro e w' ⟨rfl, hs⟩
  have hz := longest_zero L h0
  exact ⟨none, by rw [hz]; rfl, .inl ⟨rfl, hz⟩, hs⟩
 ·have hmay : mayB L = true := by
   unfold farB at hf
   simpa [h0] using hf
  have h0' : ((cntTo L L.length : Nat) : Int) ≠ 0 := by omega
  have hcb : (((cntTo L L.length : Nat) : Int) == 0) = false := beq_eq_false_iff_ne.2 h0'
  go_enter Tryz.func220, Tryz.ntmps220
  go_wp2_with fail
  obtain ⟨w1, hw1⟩ : ∃ w1, w1 = w.alloc (.cells #[.map none, .int .i64 0] 123) := ⟨_, rfl⟩
  have hs1 : Step (fun _ => False) w w1 := by rw [hw1]; exact (Step.refl _ _).alloc _
  have hr1 : w1.heap[w.heap.size]? = some (.cells #[.map none, .int .i64 0] 123 (0, 0)) := by rw [hw1]; exact heap_alloc_new _ _
  rw [← hw1]
  clear hw1
  refine (weigh_any g off cap L w1 (h.step hs1 (fun x => x))).mono ?_
  rintro e w2 ⟨rfl, rfl⟩
  go_wp2_with fail
  refine (dealUp_ok g off cap L _ (h.step hs1 (fun x => x)) hmay).mono ?_
  rintro e w3 ⟨mb, rfl, hmb, htab, hs3⟩
  obtain ⟨r0, r1, rf0, rf1⟩ := blk_two (hs3.at_ hr1 (fun x => x))
  have hlt := lt_of_block hr1
  have HT := hide htab
  clear htab hr1
  go_wp2_with fail
  refine bodyPost_ret (v := .tuple #[.agg #[.map (some mb), .int .i64 ((dealAll L).longest : Nat)], .int .i64 0]) (by simp [results, Tryz.results220, go_sem, r0, r1]) rfl ⟨some mb, rfl, .inr ⟨mb, rfl, by omega, ?_⟩, ?_⟩
  ·exact (unhide HT).of ((Below.heap_setCell _ _ _ _ (by simp; omega)).trans (Below.heap_setCell _ _ _ _ (by simp; omega)))
  ·exact ((hs1.trans hs3).setNew (by simp) _).setNew (by simp) _
theorem dealFar_no (g off cap : Nat) (L : List Nat) (w : World) (h : Ints w g off L) (hf : farB L = false) :
  Calls Tryz.prog 220 #[.slice (some ⟨g, off, none⟩) L.length cap] w fun e w' => e = .returned (.tuple #[.agg #[.map none, .int .i64 0], .int .i64 7]) ∧ Step (fun _ => False) w w' := by
 have h0 : cntTo L L.length ≠ 0 := fun x => by unfold farB at hf; simp [x] at hf
 have hmay : mayB L = false := by
  unfold farB at hf
  simpa [h0] using hf
 have hcb : (((cntTo L L.length : Nat) : Int) == 0) = false := beq_eq_false_iff_ne.2 (by omega)
 go_enter Tryz.func220, Tryz.ntmps220
 go_wp2_with fail
 obtain ⟨w1, hw1⟩ : ∃ w1, w1 = w.alloc (.cells #[.map none, .int .i64 0] 123) := ⟨_, rfl⟩
 have hs1 : Step (fun _ => False) w w1 := by rw [hw1]; exact (Step.refl _ _).alloc _
 have hr1 : w1.heap[w.heap.size]? = some (.cells #[.map none, .int .i64 0] 123 (0, 0)) := by rw [hw1]; exact heap_alloc_new _ _
 rw [← hw1]
 clear hw1
 refine (weigh_any g off cap L w1 (h.step hs1 (fun x => x))).mono ?_
 rintro e w2 ⟨rfl, rfl⟩
 go_wp2_with fail
 refine (dealUp_no g off cap L _ (h.step hs1 (fun x => x)) hmay).mono ?_
 rintro e w3 ⟨rfl, hs3⟩
 obtain ⟨r0, r1, rf0, rf1⟩ := blk_two (hs3.at_ hr1 (fun x => x))
 clear hr1
 go_wp2_with fail
 refine bodyPost_ret (v := .tuple #[.agg #[.map none, .int .i64 0], .int .i64 7]) (by simp [results, Tryz.results220, go_sem, r0, r1]) rfl ⟨rfl, ?_⟩
 exact ((hs1.trans hs3).setNew (by simp) _).setNew (by simp) _
def noCoding : Value := .agg #[.map none, .int .i64 0, .map none, .int .i64 0]
def CodP (LS LD : List Nat) (w : World) (e : Ending) (w' : World) : Prop :=
 ∃ mb x, e = .returned (.tuple #[.agg #[.map (some mb), .int .i64 ((dealAll LS).longest : Nat), .map x, .int .i64 ((dealAll LD).longest : Nat)], .int .i64 0]) ∧ w.heap.size ≤ mb ∧ TabAt w' mb (dealAll LS).tab ∧ FarV w w' (.map x) (dealAll LD)
theorem dealRow_zero (g oa ob ca cb : Nat) (LS LD : List Nat) (w : World) (hA : Ints w g oa LS) (hl : 256 < LS.length) (h256 : LS[256]?.getD 0 = 0) :
  Calls Tryz.prog 214 #[.slice (some ⟨g, oa, none⟩) LS.length ca, .slice (some ⟨g, ob, none⟩) LD.length cb] w
   fun e w' => e = .returned (.tuple #[noCoding, .int .i64 7]) ∧ Step (fun _ => False) w w' := by
 have hc := hA.cell 256 hl
 have hm := hA.much
 obtain ⟨q, hq⟩ : ∃ q, q = LS[256]?.getD 0 := ⟨_, rfl⟩
 rw [← hq] at hc h256
 subst h256
 have hli : (256 : Int) < (LS.length : Int) := by omega
 clear hq
 have hc1 := ((Step.refl (fun _ => False) w).alloc (.cells #[.map none, .int .i64 0, .map none, .int .i64 0] 125)).cell hc (fun x => x)
 obtain ⟨R, hR⟩ : ∃ R, R = w.heap.size := ⟨_, rfl⟩
 have hs1 : Step (fun _ => False) w (w.alloc (.cells #[.map none, .int .i64 0, .map none, .int .i64 0] 125)) := (Step.refl _ _).alloc _
 have HS := hide hs1
 clear hs1
 go_enter Tryz.func214, Tryz.ntmps214
 go_wp2_with fail
 rw [← hR]
 refine bodyPost_ret (v := .tuple #[.agg #[.map none, .int .i64 0, .map none, .int .i64 0], .int .i64 7]) (by simp [results, Tryz.results214, go_sem, hR]) rfl ⟨rfl, ?_⟩
 exact unhide HS
theorem dealRow_no1 (g oa ob ca cb : Nat) (LS LD : List Nat) (w : World) (hA : Ints w g oa LS) (hl : 256 < LS.length) (h256 : 0 < LS[256]?.getD 0) (hmay : mayB LS = false) :
  Calls Tryz.prog 214 #[.slice (some ⟨g, oa, none⟩) LS.length ca, .slice (some ⟨g, ob, none⟩) LD.length cb] w
   fun e w' => e = .returned (.tuple #[noCoding, .int .i64 7]) ∧ Step (fun _ => False) w w' := by
 have hc := hA.cell 256 hl
 have hm := hA.much
 obtain ⟨q, hq⟩ : ∃ q, q = LS[256]?.getD 0 := ⟨_, rfl⟩
 rw [← hq] at hc h256
 have hq0 : ((q : Int) == 0) = false := beq_eq_false_iff_ne.2 (by omega)
 have hli : (256 : Int) < (LS.length : Int) := by omega
 clear hq
 have hc1 := ((Step.refl (fun _ => False) w).alloc (.cells #[.map none, .int .i64 0, .map none, .int .i64 0] 125)).cell hc (fun x => x)
 go_enter Tryz.func214, Tryz.ntmps214
 go_wp2_with fail
 obtain ⟨R, hR⟩ : ∃ R, R = w.heap.size := ⟨_, rfl⟩
 have hs1 : Step (fun _ => False) w (w.alloc (.cells #[.map none, .int .i64 0, .map none, .int .i64 0] 125)) := (Step.refl _ _).alloc _
 have hr1 : (w.alloc (.cells #[.map none, .int .i64 0, .map none, .int .i64 0] 125)).heap[R]? = some (.cells #[.map none, .int .i64 0, .map none, .int .i64 0] 125 (0, 0)) := by rw [hR]; exact heap_alloc_new _ _
 have hRw : w.heap.size ≤ R := by omega
 rw [← hR]
 generalize w.alloc (.cells #[.map none, .int .i64 0, .map none, .int .i64 0] 125) = w1 at *
 clear hR
 refine (dealUp_no g oa ca LS w1 (hA.step hs1 (fun x => x)) hmay).mono ?_
 rintro e w2 ⟨rfl, hs2⟩
 have hr2 := hs2.at_ hr1 (fun x => x)
 have hro : ∀ o, (w2.alloc o).heap[R]? = some (.cells #[.map none, .int .i64 0, .map none, .int .i64 0] 125 (0, 0)) := fun o => (Below.heap_alloc w2 o _ (lt_of_block hr2)).trans hr2
 have b0 : ∀ o, (w2.alloc o).cell? ⟨R, 0, none⟩ = some (.map none) := fun o => blk_cell (hro o) 0 _ rfl
 have b1 : ∀ o, (w2.alloc o).cell? ⟨R, 1, none⟩ = some (.int .i64 0) := fun o => blk_cell (hro o) 1 _ rfl
 have b2 : ∀ o, (w2.alloc o).cell? ⟨R, 2, none⟩ = some (.map none) := fun o => blk_cell (hro o) 2 _ rfl
 have b3 : ∀ o, (w2.alloc o).cell? ⟨R, 3, none⟩ = some (.int .i64 0) := fun o => blk_cell (hro o) 3 _ rfl
 have f0 : ∀ o, (w2.alloc o).frozen? ⟨R, 0, none⟩ = false := fun o => blk_free (hro o) 0
 have f1 : ∀ o, (w2.alloc o).frozen? ⟨R, 1, none⟩ = false := fun o => blk_free (hro o) 1
 have f2 : ∀ o, (w2.alloc o).frozen? ⟨R, 2, none⟩ = false := fun o => blk_free (hro o) 2
 have f3 : ∀ o, (w2.alloc o).frozen? ⟨R, 3, none⟩ = false := fun o => blk_free (hro o) 3
 clear hro
 have HST := hide (hs1.trans hs2)
 clear hr1 hs1 hs2 hc hc1 hA hr2
 go_wp2_with fail
 refine bodyPost_ret (v := .tuple #[.agg #[.map none, .int .i64 0, .map none, .int .i64 0], .int .i64 7]) (by simp [results, Tryz.results214, go_sem, b0, b1, b2, b3]) rfl ⟨rfl, ?_⟩
 exact (((((unhide HST).alloc _).setNew hRw _).setNew hRw _).setNew hRw _).setNew hRw _
theorem dealRow_no2 (g oa ob ca cb : Nat) (LS LD : List Nat) (w : World) (hA : Ints w g oa LS) (hB : Ints w g ob LD) (hl : 256 < LS.length) (h256 : 0 < LS[256]?.getD 0) (hmay : mayB LS = true) (hf : farB LD = false) :
  Calls Tryz.prog 214 #[.slice (some ⟨g, oa, none⟩) LS.length ca, .slice (some ⟨g, ob, none⟩) LD.length cb] w
   fun e w' => e = .returned (.tuple #[noCoding, .int .i64 7]) ∧ Step (fun _ => False) w w' := by
 have hc := hA.cell 256 hl
 have hm := hA.much
 obtain ⟨q, hq⟩ : ∃ q, q = LS[256]?.getD 0 := ⟨_, rfl⟩
 rw [← hq] at hc h256
 have hq0 : ((q : Int) == 0) = false := beq_eq_false_iff_ne.2 (by omega)
 have hli : (256 : Int) < (LS.length : Int) := by omega
 clear hq
 have hc1 := ((Step.refl (fun _ => False) w).alloc (.cells #[.map none, .int .i64 0, .map none, .int .i64 0] 125)).cell hc (fun x => x)
 go_enter Tryz.func214, Tryz.ntmps214
 go_wp2_with fail
 obtain ⟨R, hR⟩ : ∃ R, R = w.heap.size := ⟨_, rfl⟩
 have hs1 : Step (fun _ => False) w (w.alloc (.cells #[.map none, .int .i64 0, .map none, .int .i64 0] 125)) := (Step.refl _ _).alloc _
 have hr1 : (w.alloc (.cells #[.map none, .int .i64 0, .map none, .int .i64 0] 125)).heap[R]? = some (.cells #[.map none, .int .i64 0, .map none, .int .i64 0] 125 (0, 0)) := by rw [hR]; exact heap_alloc_new _ _
 have hRw : w.heap.size ≤ R := by omega
 rw [← hR]
 generalize w.alloc (.cells #[.map none, .int .i64 0, .map none, .int .i64 0] 125) = w1 at *
 clear hR
 refine (dealUp_ok g oa ca LS w1 (hA.step hs1 (fun x => x)) hmay).mono ?_
 rintro e w2 ⟨mb, rfl, hmb, htab, hs2⟩
 have HT := hide htab
 have hlt1 := hs1.size
 clear htab
 go_wp2_with fail
 obtain ⟨w3, hw3⟩ : ∃ w3, w3 = w2.alloc (.cells #[.map (some mb), .int .i64 ((dealAll LS).longest : Nat)] 123) := ⟨_, rfl⟩
 have hs3 : Step (fun _ => False) w2 w3 := by rw [hw3]; exact (Step.refl _ _).alloc _
 have hr3 : w3.heap[w2.heap.size]? = some (.cells #[.map (some mb), .int .i64 ((dealAll LS).longest : Nat)] 123 (0, 0)) := by rw [hw3]; exact heap_alloc_new _ _
 rw [← hw3]
 clear hw3
 refine (dealFar_no g ob cb LD w3 (((hB.step hs1 (fun x => x)).step hs2 (fun x => x)).step hs3 (fun x => x)) hf).mono ?_
 rintro e w4 ⟨rfl, hs4⟩
 have hrr := hs4.at_ (hs3.at_ (hs2.at_ hr1 (fun x => x)) (fun x => x)) (fun x => x)
 have hro : ∀ o, (w4.alloc o).heap[R]? = some (.cells #[.map none, .int .i64 0, .map none, .int .i64 0] 125 (0, 0)) := fun o => (Below.heap_alloc w4 o _ (lt_of_block hrr)).trans hrr
 have b0 : ∀ o, (w4.alloc o).cell? ⟨R, 0, none⟩ = some (.map none) := fun o => blk_cell (hro o) 0 _ rfl
 have b1 : ∀ o, (w4.alloc o).cell? ⟨R, 1, none⟩ = some (.int .i64 0) := fun o => blk_cell (hro o) 1 _ rfl
 have b2 : ∀ o, (w4.alloc o).cell? ⟨R, 2, none⟩ = some (.map none) := fun o => blk_cell (hro o) 2 _ rfl
 have b3 : ∀ o, (w4.alloc o).cell? ⟨R, 3, none⟩ = some (.int .i64 0) := fun o => blk_cell (hro o) 3 _ rfl
 have f0 : ∀ o, (w4.alloc o).frozen? ⟨R, 0, none⟩ = false := fun o => blk_free (hro o) 0
 have f1 : ∀ o, (w4.alloc o).frozen? ⟨R, 1, none⟩ = false := fun o => blk_free (hro o) 1
 have f2 : ∀ o, (w4.alloc o).frozen? ⟨R, 2, none⟩ = false := fun o => blk_free (hro o) 2
 have f3 : ∀ o, (w4.alloc o).frozen? ⟨R, 3, none⟩ = false := fun o => blk_free (hro o) 3
 clear hro
 have HST := hide ((hs1.trans hs2).trans (hs3.trans hs4))
 have hz2 := hs2.size
 have hRl := lt_of_block hr1
 have hne : ¬ w2.heap.size = R := by omega
 clear hr1 hs1 hs2 hc hc1 hA hB hrr hr3 hs3 hs4 HT
 go_wp2_with fail
 refine bodyPost_ret (v := .tuple #[.agg #[.map none, .int .i64 0, .map none, .int .i64 0], .int .i64 7]) (by simp [results, Tryz.results214, go_sem, b0, b1, b2, b3]) rfl ⟨rfl, ?_⟩
 exact (((((unhide HST).alloc _).setNew hRw _).setNew hRw _).setNew hRw _).setNew hRw _
theorem dealRow_fine (g oa ob ca cb : Nat) (LS LD : List Nat) (w : World) (hA : Ints w g oa LS) (hB : Ints w g ob LD) (hl : 256 < LS.length) (h256 : 0 < LS[256]?.getD 0) (hmay : mayB LS = true) (hf : farB LD = true) :
  Calls Tryz.prog 214 #[.slice (some ⟨g, oa, none⟩) LS.length ca, .slice (some ⟨g, ob, none⟩) LD.length cb] w
   fun e w' => CodP LS LD w e w' ∧ Step (fun _ => False) w w' := by
 have hc := hA.cell 256 hl
 have hm := hA.much
 obtain ⟨q, hq⟩ : ∃ q, q = LS[256]?.getD 0 := ⟨_, rfl⟩
 rw [← hq] at hc h256
 have hq0 : ((q : Int) == 0) = false := beq_eq_false_iff_ne.2 (by omega)
 have hli : (256 : Int) < (LS.length : Int) := by omega
 clear hq
 have hc1 := ((Step.refl (fun _ => False) w).alloc (.cells #[.map none, .int .i64 0, .map none, .int .i64 0] 125)).cell hc (fun x => x)
 go_enter Tryz.func214, Tryz.ntmps214
 go_wp2_with fail
 obtain ⟨R, hR⟩ : ∃ R, R = w.heap.size := ⟨_, rfl⟩
 have hs1 : Step (fun _ => False) w (w.alloc (.cells #[.map none, .int .i64 0, .map none, .int .i64 0] 125)) := (Step.refl _ _).alloc _
 have hr1 : (w.alloc (.cells #[.map none, .int .i64 0, .map none, .int .i64 0] 125)).heap[R]? = some (.cells #[.map none, .int .i64 0, .map none, .int .i64 0] 125 (0, 0)) := by rw [hR]; exact heap_alloc_new _ _
 have hRw : w.heap.size ≤ R := by omega
 rw [← hR]
 generalize w.alloc (.cells #[.map none, .int .i64 0, .map none, .int .i64 0] 125) = w1 at *
 clear hR
 refine (dealUp_ok g oa ca LS w1 (hA.step hs1 (fun x => x)) hmay).mono ?_
 rintro e w2 ⟨mb, rfl, hmb, htab, hs2⟩
 have HT := hide htab
 have hlt1 := hs1.size
 clear htab
 go_wp2_with fail
 obtain ⟨w3, hw3⟩ : ∃ w3, w3 = w2.alloc (.cells #[.map (some mb), .int .i64 ((dealAll LS).longest : Nat)] 123) := ⟨_, rfl⟩
 have hs3 : Step (fun _ => False) w2 w3 := by rw [hw3]; exact (Step.refl _ _).alloc _
 have hr3 : w3.heap[w2.heap.size]? = some (.cells #[.map (some mb), .int .i64 ((dealAll LS).longest : Nat)] 123 (0, 0)) := by rw [hw3]; exact heap_alloc_new _ _
 rw [← hw3]
 clear hw3
 refine (dealFar_ok g ob cb LD w3 (((hB.step hs1 (fun x => x)).step hs2 (fun x => x)).step hs3 (fun x => x)) hf).mono ?_
 rintro e w4 ⟨x, rfl, hfar, hs4⟩
 have hR3 := lt_of_block hr3
 have hr4 := (hs4.at_ hr3 (fun x => x))
 have hrr := hs4.at_ (hs3.at_ (hs2.at_ hr1 (fun x => x)) (fun x => x)) (fun x => x)
 have a0 : ∀ o, (w4.alloc o).cell? ⟨w2.heap.size, 0, none⟩ = some (.map (some mb)) := fun o => blk_cell ((Below.heap_alloc w4 o _ (lt_of_block hr4)).trans hr4) 0 _ rfl
 have a1 : ∀ o, (w4.alloc o).cell? ⟨w2.heap.size, 1, none⟩ = some (.int .i64 ((dealAll LS).longest : Nat)) := fun o => blk_cell ((Below.heap_alloc w4 o _ (lt_of_block hr4)).trans hr4) 1 _ rfl
 have hro : ∀ o, (w4.alloc o).heap[R]? = some (.cells #[.map none, .int .i64 0, .map none, .int .i64 0] 125 (0, 0)) := fun o => (Below.heap_alloc w4 o _ (lt_of_block hrr)).trans hrr
 have b0 : ∀ o, (w4.alloc o).cell? ⟨R, 0, none⟩ = some (.map none) := fun o => blk_cell (hro o) 0 _ rfl
 have b1 : ∀ o, (w4.alloc o).cell? ⟨R, 1, none⟩ = some (.int .i64 0) := fun o => blk_cell (hro o) 1 _ rfl
 have b2 : ∀ o, (w4.alloc o).cell? ⟨R, 2, none⟩ = some (.map none) := fun o => blk_cell (hro o) 2 _ rfl
 have b3 : ∀ o, (w4.alloc o).cell? ⟨R, 3, none⟩ = some (.int .i64 0) := fun o => blk_cell (hro o) 3 _ rfl
 have f0 : ∀ o, (w4.alloc o).frozen? ⟨R, 0, none⟩ = false := fun o => blk_free (hro o) 0
 have f1 : ∀ o, (w4.alloc o).frozen? ⟨R, 1, none⟩ = false := fun o => blk_free (hro o) 1
 have f2 : ∀ o, (w4.alloc o).frozen? ⟨R, 2, none⟩ = false := fun o => blk_free (hro o) 2
 have f3 : ∀ o, (w4.alloc o).frozen? ⟨R, 3, none⟩ = false := fun o => blk_free (hro o) 3
 clear hro
 have hst : Step (fun _ => False) w w4 := (hs1.trans hs2).trans (hs3.trans hs4)
 have hz : w4.heap.size ≥ w3.heap.size := hs4.size
 have hz2 := hs2.size
 have hz3 := hs3.size
 have hRl := lt_of_block hr1
 have hmlt := (unhide HT).lt
 have HS34 := hide (hs3.trans hs4)
 have HST := hide hst
 have HFAR := hide hfar
 clear hr4 hrr hr1 hr3 hs1 hs2 hs3 hs4 hc hc1 hA hB hst hfar
 have hne : ¬ w2.heap.size = R := by omega
 go_wp2_with fail
 refine bodyPost_ret (v := .tuple #[.agg #[.map (some mb), .int .i64 ((dealAll LS).longest : Nat), .map x, .int .i64 ((dealAll LD).longest : Nat)], .int .i64 0]) (by simp [results, Tryz.results214, go_sem, b0, b1, b2, b3]) rfl ⟨⟨mb, x, rfl, by omega, ?_, ?_⟩, ?_⟩
 ·have h5 := (unhide HT).step (unhide HS34) (fun x => x)
  have h6 := h5.step ((Step.refl (fun _ => False) w4).alloc (.cells #[.map x, .int .i64 ((dealAll LD).longest : Nat)] 123)) (fun x => x)
  have hmR : mb ≠ R := by omega
  exact (((h6.of (Below.heap_setCell _ _ _ _ hmR)).of (Below.heap_setCell _ _ _ _ hmR)).of (Below.heap_setCell _ _ _ _ hmR)).of (Below.heap_setCell _ _ _ _ hmR)
 ·rcases unhide HFAR with h | ⟨m2, e2, hm2, ht2⟩
  ·exact .inl h
  ·have h6 := ht2.step ((Step.refl (fun _ => False) w4).alloc (.cells #[.map x, .int .i64 ((dealAll LD).longest : Nat)] 123)) (fun x => x)
   have hmR : m2 ≠ R := by omega
   exact .inr ⟨m2, e2, by omega, (((h6.of (Below.heap_setCell _ _ _ _ hmR)).of (Below.heap_setCell _ _ _ _ hmR)).of (Below.heap_setCell _ _ _ _ hmR)).of (Below.heap_setCell _ _ _ _ hmR)⟩
 ·exact (((((unhide HST).alloc _).setNew hRw _).setNew hRw _).setNew hRw _).setNew hRw _
theorem dealRow_any (g oa ob ca cb : Nat) (LS LD : List Nat) (w : World) (hA : Ints w g oa LS) (hB : Ints w g ob LD) (hl : 256 < LS.length) :
  Calls Tryz.prog 214 #[.slice (some ⟨g, oa, none⟩) LS.length ca, .slice (some ⟨g, ob, none⟩) LD.length cb] w
   fun e w' => (0 < LS[256]?.getD 0 ∧ mayB LS = true ∧ farB LD = true ∧ CodP LS LD w e w' ∧ Step (fun _ => False) w w') ∨ (¬ (0 < LS[256]?.getD 0 ∧ mayB LS = true ∧ farB LD = true) ∧ e = .returned (.tuple #[noCoding, .int .i64 7]) ∧ Step (fun _ => False) w w') := by
 by_cases h1 : 0 < LS[256]?.getD 0
 ·by_cases h2 : mayB LS = true
  ·by_cases h3 : farB LD = true
   ·exact (dealRow_fine g oa ob ca cb LS LD w hA hB hl h1 h2 h3).mono fun e w' h => .inl ⟨h1, h2, h3, h.1, h.2⟩
   ·exact (dealRow_no2 g oa ob ca cb LS LD w hA hB hl h1 h2 (by simpa using h3)).mono fun e w' h => .inr ⟨fun x => h3 x.2.2, h.1, h.2⟩
  ·exact (dealRow_no1 g oa ob ca cb LS LD w hA hl h1 (by simpa using h2)).mono fun e w' h => .inr ⟨fun x => h2 x.2.1, h.1, h.2⟩
 ·exact (dealRow_zero g oa ob ca cb LS LD w hA hl (by omega)).mono fun e w' h => .inr ⟨fun x => h1 x.1, h.1, h.2⟩
def CodingP (r : R (List Nat × List Nat)) (f : Nat) (w : World) (e : Ending) (w' : World) : Prop :=
 match r with
 | .ok ab q => CodP ab.1 ab.2 w e w' ∧ Fed f w w' q
 | .no x => e = .returned (.tuple #[noCoding, .int .i64 (x : Nat)]) ∧ ∃ q, Fed f w w' q
 | .miss => e = lost ∧ ∃ q, Fed f w w' q
theorem firstLens_sym (B : List Nat) (p c : Nat) : ∀ k s, (dealAll (firstLens B p c)).tab k = some s → s < 19 := by
 intro k s h
 have := ((dealTo_tab (firstLens B p c) 15 k s).1 h).1
 rw [firstLens_length] at this
 exact this
theorem coding_miss (B : List Nat) (p : Nat) (h : ¬ p + 14 ≤ 8 * B.length) : rCoding B p = .miss := by unfold rCoding; rw [if_neg h]
def rCod2 (B : List Nat) (p a b c : Nat) : R (List Nat × List Nat) :=
 if 286 < a ∨ 30 < b then .no 7
 else if p + 3 * c ≤ 8 * B.length then
  (if mayB (firstLens B p c) = true then
   (match rRow (dealAll (firstLens B p c)) B (a + b) (p + 3 * c) with
   | .ok row q => rDealt row a q
   | .no e => .no e
   | .miss => .miss)
  else .no 7)
 else .miss
theorem coding_cod2 (B : List Nat) (p : Nat) (h : p + 14 ≤ 8 * B.length) : rCoding B p = rCod2 B (p + 14) (numAt B p 5 + 257) (numAt B (p + 5) 5 + 1) (numAt B (p + 10) 4 + 4) := by
 unfold rCoding; rw [if_pos h]; rfl
theorem Fed.sets {f : Nat} {w w7 w8 : World} {q R : Nat} {u0 u1 u2 u3 : Value} (h : Fed f w w7 q) (hs : Step (fun _ => False) w7 w8) (hRw : w.heap.size ≤ R) (hRf : ¬ R = f) :
  Fed f w ((((w8.setCell ⟨R, 0, none⟩ u0).setCell ⟨R, 1, none⟩ u1).setCell ⟨R, 2, none⟩ u2).setCell ⟨R, 3, none⟩ u3) q := by
 have hfR : f ≠ R := fun e => hRf e.symm
 have hst : Step (· = f) w7 w8 := hs.mono (fun _ x => x.elim)
 refine ⟨((((h.step.trans hst).setNew hRw _).setNew hRw _).setNew hRw _).setNew hRw _, fun s x z' t hx => ?_⟩
 have h10 := h.feed s x z' t hx
 have h11 := hs.at_ h10 (fun x => x)
 exact (Below.heap_setCell _ _ _ _ hfR).trans ((Below.heap_setCell _ _ _ _ hfR).trans ((Below.heap_setCell _ _ _ _ hfR).trans ((Below.heap_setCell _ _ _ _ hfR).trans h11)))
theorem codCells {w : World} {R : Nat} (h : w.heap[R]? = some (.cells #[.map none, .int .i64 0, .map none, .int .i64 0] 125 (0, 0))) :
  (w.cell? ⟨R, 0, none⟩ = some (.map none) ∧ w.cell? ⟨R, 1, none⟩ = some (.int .i64 0) ∧ w.cell? ⟨R, 2, none⟩ = some (.map none) ∧ w.cell? ⟨R, 3, none⟩ = some (.int .i64 0)) ∧ w.frozen? ⟨R, 0, none⟩ = false ∧ w.frozen? ⟨R, 1, none⟩ = false ∧ w.frozen? ⟨R, 2, none⟩ = false ∧ w.frozen? ⟨R, 3, none⟩ = false :=
 ⟨⟨blk_cell h 0 _ rfl, blk_cell h 1 _ rfl, blk_cell h 2 _ rfl, blk_cell h 3 _ rfl⟩, blk_free h 0, blk_free h 1, blk_free h 2, blk_free h 3⟩
theorem codCellsA {w : World} {R : Nat} (h : w.heap[R]? = some (.cells #[.map none, .int .i64 0, .map none, .int .i64 0] 125 (0, 0))) :
  (∀ o, (w.alloc o).cell? ⟨R, 0, none⟩ = some (.map none)) ∧ (∀ o, (w.alloc o).cell? ⟨R, 1, none⟩ = some (.int .i64 0)) ∧ (∀ o, (w.alloc o).cell? ⟨R, 2, none⟩ = some (.map none)) ∧ (∀ o, (w.alloc o).cell? ⟨R, 3, none⟩ = some (.int .i64 0)) ∧
  (∀ o, (w.alloc o).frozen? ⟨R, 0, none⟩ = false) ∧ (∀ o, (w.alloc o).frozen? ⟨R, 1, none⟩ = false) ∧ (∀ o, (w.alloc o).frozen? ⟨R, 2, none⟩ = false) ∧ (∀ o, (w.alloc o).frozen? ⟨R, 3, none⟩ = false) := by
 have hro : ∀ o, (w.alloc o).heap[R]? = _ := fun o => (Below.heap_alloc w o _ (lt_of_block h)).trans h
 exact ⟨fun o => (codCells (hro o)).1.1, fun o => (codCells (hro o)).1.2.1, fun o => (codCells (hro o)).1.2.2.1, fun o => (codCells (hro o)).1.2.2.2, fun o => (codCells (hro o)).2.1, fun o => (codCells (hro o)).2.2.1, fun o => (codCells (hro o)).2.2.2.1, fun o => (codCells (hro o)).2.2.2.2⟩
end Go.Proofs.YtbpahojchgpdnaaGreatDoor
