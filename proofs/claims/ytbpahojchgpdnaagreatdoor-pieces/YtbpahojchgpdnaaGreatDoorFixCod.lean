/- Proved here: what fixedCoding hands back. -/
import Derived.Deep.RegionHeld3
import Derived.Deep.RegionLaw
import Derived.Test.YtbpahojchgpdnaaGreatDoorCodesDeal2
import Derived.Test.YtbpahojchgpdnaaGreatDoorSlices
set_option maxRecDepth 20000
set_option maxHeartbeats 4000000
namespace Go.Proofs.YtbpahojchgpdnaaGreatDoor
open Go.RowKit Go.Bel Go.Maps
theorem rep_next {w w' : World} {o x : Obj} {g : Nat} (hb : w.heap[g]? = some x) (h : Below (w.alloc o).heap.size (w.alloc o) w') : w'.heap[g]? = some x := by
 have hl := lt_of_block hb
 exact (h.block g (by simp; omega)).trans ((Below.heap_alloc _ _ _ hl).trans hb)
theorem one_cell (w : World) (v : Value) (t : TypeId) : (w.alloc (.cells #[v] t)).cell? ⟨w.heap.size, 0, none⟩ = some v := by
 rw [World.cell?_alloc_at (hn := rfl)]
 rfl
theorem step_rep {w0 w w' : World} {o : Obj} (h0 : Step (fun _ => False) w0 w) (h : Below (w.alloc o).heap.size (w.alloc o) w') : Step (fun _ => False) w0 w' :=
 (h0.alloc o).trans ⟨h.os, h.tape, h.output, h.size, fun k hk _ => h.block k hk⟩
theorem four_cells (w : World) (a b c d : Nat × Nat × Nat) (t : TypeId) (j : Nat) (r : Nat × Nat × Nat) (h : [a, b, c, d][j]? = some r) : (w.alloc (.cells #[rowVal a, rowVal b, rowVal c, rowVal d] t)).cell? ⟨w.heap.size, j, none⟩ = some (rowVal r) := by
 rw [World.cell?_alloc_at (hn := rfl)]
 match j, h with
 | 0, h => cases h; rfl
 | 1, h => cases h; rfl
 | 2, h => cases h; rfl
 | 3, h => cases h; rfl
 | j + 4, h => simp at h
theorem blk_alloc {w : World} {o x : Obj} {g : Nat} (hb : w.heap[g]? = some x) : (w.alloc o).heap[g]? = some x :=
 (Below.heap_alloc _ _ _ (lt_of_block hb)).trans hb
theorem fixedLengths_ok (w : World) :
  Calls Tryz.prog 102 #[] w fun e w' => ∃ ga gb c : Nat, e = .returned (.tuple #[.slice (some ⟨ga, 0, none⟩) 288 c, .slice (some ⟨gb, 0, none⟩) 32 32]) ∧ Ints w' ga 0 fixLens ∧ Ints w' gb 0 (List.replicate 32 5) ∧ Step (fun _ => False) w w' := by
 have hst0 := Step.refl (fun _ => False) w
 go_enter Tryz.func102, Tryz.ntmps102
 go_wp2_with fail
 refine (repeat_ok w.heap.size 8 144 1 (w.alloc _) (one_cell _ _ _) (by decide) (by decide) (by decide)).mono ?_
 rintro e w1 ⟨g1, rfl, hg1, hb1, hbel1⟩
 have hst1 := step_rep hst0 hbel1
 have HB1 := hide hb1
 clear hb1 hbel1 hst0 hg1
 go_wp2_with fail
 refine (repeat_ok w1.heap.size 9 112 1 (w1.alloc _) (one_cell _ _ _) (by decide) (by decide) (by decide)).mono ?_
 rintro e w2 ⟨g2, rfl, hg2, hb2, hbel2⟩
 have hst2 := step_rep hst1 hbel2
 have HB12 := hide (rep_next (unhide HB1) hbel2)
 have HB22 := hide hb2
 clear hb2 hbel2 hst1 HB1 hg2
 go_wp2_with fail
 refine (repeat_ok w2.heap.size 7 24 1 (w2.alloc _) (one_cell _ _ _) (by decide) (by decide) (by decide)).mono ?_
 rintro e w3 ⟨g3, rfl, hg3, hb3, hbel3⟩
 have hst3 := step_rep hst2 hbel3
 have HB13 := hide (rep_next (unhide HB12) hbel3)
 have HB23 := hide (rep_next (unhide HB22) hbel3)
 have HB33 := hide hb3
 clear hb3 hbel3 hst2 HB12 HB22 hg3
 go_wp2_with fail
 refine (repeat_ok w3.heap.size 8 8 1 (w3.alloc _) (one_cell _ _ _) (by decide) (by decide) (by decide)).mono ?_
 rintro e w4 ⟨g4, rfl, hg4, hb4, hbel4⟩
 have hst4 := step_rep hst3 hbel4
 have HB14 := hide (rep_next (unhide HB13) hbel4)
 have HB24 := hide (rep_next (unhide HB23) hbel4)
 have HB34 := hide (rep_next (unhide HB33) hbel4)
 have HB44 := hide hb4
 clear hb4 hbel4 hst3 HB13 HB23 HB33 hg4
 go_wp2_with fail
 refine (concat_ok w4.heap.size 4 4 [(g1, 8, 144), (g2, 9, 112), (g3, 7, 24), (g4, 8, 8)] (w4.alloc _) rfl (by decide) (by decide) (by decide) (four_cells _ _ _ _ _ _) ?cb ?cp ?cr).mono ?_
 case cb =>
  intro r hr
  simp only [List.mem_cons, List.not_mem_nil, or_false] at hr
  rcases hr with rfl | rfl | rfl | rfl
  ·exact blk_alloc (unhide HB14)
  ·exact blk_alloc (unhide HB24)
  ·exact blk_alloc (unhide HB34)
  ·exact blk_alloc (unhide HB44)
 case cp =>
  intro r hr
  simp only [List.mem_cons, List.not_mem_nil, or_false] at hr
  rcases hr with rfl | rfl | rfl | rfl <;> simp only [] <;> omega
 case cr =>
  intro r hr
  simp only [List.mem_cons, List.not_mem_nil, or_false] at hr
  rcases hr with rfl | rfl | rfl | rfl <;> simp only [] <;> omega
 rintro e w5 ⟨c5, rfl, hown5, hbel5⟩
 rw [fix_sum, fix_all] at hown5
 rw [fix_sum]
 have hst5 := step_rep hst4 hbel5
 have hi5 : Ints w5 (w4.heap.size + 1) 0 fixLens := ints_of_cells (by
  have := hown5.cells rfl
  rw [show (World.alloc w4 _).heap.size = w4.heap.size + 1 by simp] at this
  exact this) fix_le (by rw [fixLens_length]; decide)
 have HI5 := hide hi5
 clear hown5 hbel5 hst4 HB14 HB24 HB34 HB44 hi5
 go_wp2_with fail
 refine (repeat_ok w5.heap.size 5 32 1 (w5.alloc _) (one_cell _ _ _) (by decide) (by decide) (by decide)).mono ?_
 rintro e w7 ⟨g5, rfl, hg5, hb5, hbel7⟩
 have h57 : Step (fun _ => False) w5 w7 := step_rep (Step.refl (fun _ => False) w5) hbel7
 have HI7 := hide ((unhide HI5).step h57 (fun x => x))
 have HJ7 := hide (ints_far hb5)
 have HST := hide (hst5.trans h57)
 clear hb5 hbel7 h57 hst5 hg5 HI5
 go_wp2_with fail
 go_ret2
 exact ⟨_, _, _, rfl, unhide HI7, unhide HJ7, unhide HST⟩
theorem fixedCoding_ok (w : World) :
  Calls Tryz.prog 204 #[] w fun e w' => ∃ R mb db dl : Nat, e = .returned (.pointer (some ⟨R, 0, none⟩)) ∧ w.heap.size ≤ R ∧ w'.heap[R]? = some (.cells #[.map (some mb), .int .i64 ((dealAll fixLens).longest : Nat), .map (some db), .int .i64 (dl : Nat)] 125 (0, 0)) ∧ w.heap.size ≤ mb ∧ TabAt w' mb (dealAll fixLens).tab ∧ w.heap.size ≤ db ∧ TabAt w' db (dealAll (List.replicate 32 5)).tab ∧ Step (fun _ => False) w w' ∧ dl = (dealAll (List.replicate 32 5)).longest := by
 go_enter Tryz.func204, Tryz.ntmps204
 go_wp2_with fail
 refine (fixedLengths_ok w).mono ?_
 rintro e w5 ⟨ga, gb, c5, rfl, hi5, hi7, hst5⟩
 have hd6 := dealUp_ok ga 0 c5 fixLens w5 hi5 fix_may
 rw [fixLens_length] at hd6
 obtain ⟨lg, hlg⟩ : ∃ lg, lg = (dealAll fixLens).longest := ⟨_, rfl⟩
 obtain ⟨tb, htb⟩ : ∃ tb, tb = (dealAll fixLens).tab := ⟨_, rfl⟩
 rw [← hlg, ← htb] at hd6
 have HD6 := hide hd6
 have HI7 := hide hi7
 clear hd6 hi5 hi7
 go_wp2_with fail
 refine (unhide HD6).mono ?_
 rintro e w6 ⟨mb, rfl, hmb, htab, hs6⟩
 obtain ⟨w7, hw7⟩ : ∃ w7, w7 = w6.alloc (.cells #[.map (some mb), .int .i64 ((dealAll fixLens).longest : Nat)] 123) := ⟨_, rfl⟩
 have h67 : Step (fun _ => False) w6 w7 := by rw [hw7]; exact (Step.refl _ _).alloc _
 have hr7 : w7.heap[w6.heap.size]? = some (.cells #[.map (some mb), .int .i64 ((dealAll fixLens).longest : Nat)] 123 (0, 0)) := by rw [hw7]; exact heap_alloc_new _ _
 have hd8 := dealUp_ok gb 0 32 (List.replicate 32 5) w7 (((unhide HI7).step hs6 (fun x => x)).step h67 (fun x => x)) far_may
 rw [List.length_replicate] at hd8
 obtain ⟨dl, hdl⟩ : ∃ dl, dl = (dealAll (List.replicate 32 5)).longest := ⟨_, rfl⟩
 rw [← hdl] at hd8
 have HD8 := hide hd8
 have HDL := hide hdl
 have HR7 := hide hr7
 have HT7 := hide (htab.step h67 (fun x => x))
 have hst7 := (hst5.trans hs6).trans h67
 have hsz5 := hst5.size
 have hszw7 := hst7.size
 have hsz7 := h67.size
 have HW7 := hide hw7
 clear hd8 hdl hr7 htab hs6 HD6 HI7 hw7
 go_wp2_with fail
 rw [← unhide HW7]
 refine (unhide HD8).mono ?_
 clear HD8 HW7
 rintro e w8 ⟨db, rfl, hdb, htd8, hs8⟩
 have HTD8 := hide htd8
 clear htd8
 have hr8 := hs8.at_ (unhide HR7) (fun x => x)
 have HT8 := hide ((unhide HT7).step hs8 (fun x => x))
 have hst8 := hst7.trans hs8
 have hsz8 := hs8.size
 have hc80 := (show w8.cell? ⟨w6.heap.size, 0, none⟩ = _ from blk_cell hr8 0 _ rfl)
 have hc81 := (show w8.cell? ⟨w6.heap.size, 1, none⟩ = _ from blk_cell hr8 1 _ rfl)
 have hl68 := lt_of_block hr8
 have HR8 := hide hr8
 clear hr8 HR7 HT7 hs8 hst7
 have hsz := hst8.size
 go_wp2_with fail
 go_ret
 have hst9 := (Step.refl (fun _ => False) w8).alloc (.cells #[.map (some db), .int .i64 (dl : Nat)] 123)
 have hst10 := hst9.alloc (.cells #[.map (some mb), .int .i64 ((dealAll fixLens).longest : Nat), .map (some db), .int .i64 (dl : Nat)] 125)
 refine ⟨w8.heap.size + 1, mb, db, dl, rfl, by omega, ?_, by omega, ?_, by omega, ?_, hst8.trans hst10, unhide HDL⟩
 ·have := heap_alloc_new (w8.alloc (.cells #[.map (some db), .int .i64 (dl : Nat)] 123)) (.cells #[.map (some mb), .int .i64 ((dealAll fixLens).longest : Nat), .map (some db), .int .i64 (dl : Nat)] 125)
  rw [show (w8.alloc (.cells #[.map (some db), .int .i64 (dl : Nat)] 123)).heap.size = w8.heap.size + 1 by simp] at this
  exact this
 ·exact htb ▸ (unhide HT8).step hst10 (fun x => x)
 ·exact (unhide HTD8).step hst10 (fun x => x)
end Go.Proofs.YtbpahojchgpdnaaGreatDoor
