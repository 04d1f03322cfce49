/- Proved here: what dealRow and readCoding do where all lengths are told one by one, no distance has one, and the codes may be. -/
import Derived.Test.YtnoemlailgbpoaaDoorRow
namespace Go.Proofs.YtnoemlailgbpoaaDoor
open Go.RowKit Go.Bel Go.Maps

set_option maxRecDepth 20000 in
set_option maxHeartbeats 2000000 in
theorem dealRow_ok (g oa ob ca cb : Nat) (LS LD : List Nat) (w : World) (hA : Ints w g oa LS) (hB : Ints w g ob LD) (hl : 256 < LS.length) (h256 : 0 < LS[256]?.getD 0) (hmay : mayB LS = true) (h0 : cntTo LD LD.length = 0) :
    Calls Tryd.prog 100 #[.slice (some ⟨g, oa, none⟩) LS.length ca, .slice (some ⟨g, ob, none⟩) LD.length cb] w
      fun e w' => ∃ mb, e = .returned (.tuple #[.agg #[.map (some mb), .int .i64 ((dealAll LS).longest : Nat), .map none, .int .i64 0], .int .i64 0]) ∧ w.heap.size ≤ mb ∧ TabAt w' mb (dealAll LS).tab ∧ Step (fun _ => False) w w' := by
  have hc := hA.cell 256 hl
  have hm := hA.much
  obtain ⟨q, hq⟩ : ∃ q, q = LS[256]?.getD 0 := ⟨_, rfl⟩
  rw [← hq] at hc h256
  have hq0 : ((q : Int) == 0) = false := beq_eq_false_iff_ne.2 (by omega)
  have hli : (256 : Int) < (LS.length : Int) := by omega
  clear hq
  have hc1 := ((Step.refl (fun _ => False) w).alloc (.cells #[.map none, .int .i64 0, .map none, .int .i64 0] 94)).cell hc (fun x => x)
  go_enter Tryd.func100, Tryd.ntmps100
  go_wp2_with fail
  obtain ⟨R, hR⟩ : ∃ R, R = w.heap.size := ⟨_, rfl⟩
  have hs1 : Step (fun _ => False) w (w.alloc (.cells #[.map none, .int .i64 0, .map none, .int .i64 0] 94)) := (Step.refl _ _).alloc _
  have hr1 : (w.alloc (.cells #[.map none, .int .i64 0, .map none, .int .i64 0] 94)).heap[R]? = some (.cells #[.map none, .int .i64 0, .map none, .int .i64 0] 94 (0, 0)) := by rw [hR]; exact heap_alloc_new _ _
  have hRw : w.heap.size ≤ R := by omega
  rw [← hR]
  generalize w.alloc (.cells #[.map none, .int .i64 0, .map none, .int .i64 0] 94) = w1 at *
  clear hR
  refine (dealUp_ok g oa ca LS w1 (hA.step hs1 (fun x => x)) hmay).mono ?_
  rintro e w2 ⟨mb, rfl, hmb, htab, hs2⟩
  have HT := hide htab
  have hlt1 := hs1.size
  clear htab
  go_wp2_with fail
  obtain ⟨w3, hw3⟩ : ∃ w3, w3 = w2.alloc (.cells #[.map (some mb), .int .i64 ((dealAll LS).longest : Nat)] 92) := ⟨_, rfl⟩
  have hs3 : Step (fun _ => False) w2 w3 := by rw [hw3]; exact (Step.refl _ _).alloc _
  have hr3 : w3.heap[w2.heap.size]? = some (.cells #[.map (some mb), .int .i64 ((dealAll LS).longest : Nat)] 92 (0, 0)) := by rw [hw3]; exact heap_alloc_new _ _
  rw [← hw3]
  clear hw3
  refine (dealFar_none g ob cb LD w3 (((hB.step hs1 (fun x => x)).step hs2 (fun x => x)).step hs3 (fun x => x)) h0).mono ?_
  rintro e w4 ⟨rfl, hs4⟩
  have hR3 := lt_of_block hr3
  have hr4 := (hs4.at_ hr3 (fun x => x))
  have hrr := hs4.at_ (hs3.at_ (hs2.at_ hr1 (fun x => x)) (fun x => x)) (fun x => x)
  have a0 : ∀ o, (w4.alloc o).cell? ⟨w2.heap.size, 0, none⟩ = some (.map (some mb)) := fun o => blk_cell ((Below.heap_alloc w4 o _ (lt_of_block hr4)).trans hr4) 0 _ rfl
  have a1 : ∀ o, (w4.alloc o).cell? ⟨w2.heap.size, 1, none⟩ = some (.int .i64 ((dealAll LS).longest : Nat)) := fun o => blk_cell ((Below.heap_alloc w4 o _ (lt_of_block hr4)).trans hr4) 1 _ rfl
  have hro : ∀ o, (w4.alloc o).heap[R]? = some (.cells #[.map none, .int .i64 0, .map none, .int .i64 0] 94 (0, 0)) := fun o => (Below.heap_alloc w4 o _ (lt_of_block hrr)).trans hrr
  have b0 : ∀ o, (w4.alloc o).cell? ⟨R, 0, none⟩ = some (.map none) := fun o => blk_cell (hro o) 0 _ rfl
  have b1 : ∀ o, (w4.alloc o).cell? ⟨R, 1, none⟩ = some (.int .i64 0) := fun o => blk_cell (hro o) 1 _ rfl
  have b2 : ∀ o, (w4.alloc o).cell? ⟨R, 2, none⟩ = some (.map none) := fun o => blk_cell (hro o) 2 _ rfl
  have b3 : ∀ o, (w4.alloc o).cell? ⟨R, 3, none⟩ = some (.int .i64 0) := fun o => blk_cell (hro o) 3 _ rfl
  have f0 : ∀ o, (w4.alloc o).frozen? ⟨R, 0, none⟩ = false := fun o => blk_free (hro o) 0
  have f1 : ∀ o, (w4.alloc o).frozen? ⟨R, 1, none⟩ = false := fun o => blk_free (hro o) 1
  have f2 : ∀ o, (w4.alloc o).frozen? ⟨R, 2, none⟩ = false := fun o => blk_free (hro o) 2
  have f3 : ∀ o, (w4.alloc o).frozen? ⟨R, 3, none⟩ = false := fun o => blk_free (hro o) 3
  clear hro
  have hst : Step (fun _ => False) w w4 := (hs1.trans hs2).trans (hs3.trans hs4)
  have hz : w4.heap.size ≥ w3.heap.size := hs4.size
  have hz2 := hs2.size
  have hRl := lt_of_block hr1
  have hmlt := (unhide HT).lt
  have HS34 := hide (hs3.trans hs4)
  have HST := hide hst
  clear hr4 hrr hr1 hr3 hs1 hs2 hs3 hs4 hc hc1 hA hB hst
  have hne : ¬ w2.heap.size = R := by omega
  go_wp2_with fail
  refine bodyPost_ret (v := .tuple #[.agg #[.map (some mb), .int .i64 ((dealAll LS).longest : Nat), .map none, .int .i64 0], .int .i64 0]) (by simp [results, Tryd.results100, go_sem, b0, b1, b2, b3]) rfl ⟨mb, rfl, by omega, ?_, ?_⟩
  · have h5 := (unhide HT).step (unhide HS34) (fun x => x)
    have h6 := h5.step ((Step.refl (fun _ => False) w4).alloc (.cells #[.map none, .int .i64 0] 92)) (fun x => x)
    have hmR : mb ≠ R := by omega
    exact (((h6.of (Below.heap_setCell _ _ _ _ hmR)).of (Below.heap_setCell _ _ _ _ hmR)).of (Below.heap_setCell _ _ _ _ hmR)).of (Below.heap_setCell _ _ _ _ hmR)
  · exact (((((unhide HST).alloc _).setNew hRw _).setNew hRw _).setNew hRw _).setNew hRw _

theorem ints_take {w : World} {g : Nat} {L : List Nat} (h : Ints w g 0 L) (n : Nat) : Ints w g 0 (L.take n) :=
  ⟨fun i hi => by
      have hi2 : i < L.length := by simp at hi; omega
      have hi3 : i < n := by simp at hi; omega
      rw [h.cell i hi2, List.getElem?_take_of_lt hi3], fun i => by
      by_cases hi : i < n
      · rw [List.getElem?_take_of_lt hi]; exact h.le i
      · rw [List.getElem?_eq_none (by simp; omega)]; simp, by have := h.much; simp; omega⟩
theorem ints_drop {w : World} {g : Nat} {L : List Nat} (h : Ints w g 0 L) (n : Nat) : Ints w g n (L.drop n) :=
  ⟨fun i hi => by
      have hi2 : n + i < L.length := by simp at hi; omega
      have := h.cell (n + i) hi2
      rw [Nat.zero_add] at this
      rw [this, List.getElem?_drop], fun i => by rw [List.getElem?_drop]; exact h.le _, by have := h.much; simp; omega⟩

set_option maxRecDepth 20000 in
set_option maxHeartbeats 2000000 in
theorem readCoding_plain (f g off cap p : Nat) (pos : Nat → Nat) (L : List Nat) (B : List Nat) (w : World)
    (hF : w.heap[f]? = some (.cells #[.slice (some ⟨g, off, none⟩) B.length cap, .int .i64 (p : Nat)] 86 (0, 0))) (hS : Src w g off B) (hgf : g ≠ f) (hO : OrderAt w) (h0f : 0 ≠ f) (hp : p + 71 ≤ 8 * B.length)
    (hn1 : numAt B p 5 = 0) (hn2 : numAt B (p + 5) 5 = 0) (hn3 : numAt B (p + 10) 4 = 15) (hmay1 : mayB (firstLens B (p + 14) 19) = true) (hpos : pos 0 = p + 71)
    (hlen : L.length = 258) (hL : ∀ i : Nat, L[i]?.getD 0 < 16) (hC : ∀ i, i < 258 → CodeAt (dealAll (firstLens B (p + 14) 19)).longest (dealAll (firstLens B (p + 14) 19)).tab B (pos i) (pos (i + 1)) (L[i]?.getD 0))
    (h256 : 0 < (L.take 257)[256]?.getD 0) (hmay : mayB (L.take 257) = true) (hz : cntTo (L.drop 257) (L.drop 257).length = 0) :
    Calls Tryd.prog 93 #[.pointer (some ⟨f, 0, none⟩)] w
      fun e w' => ∃ mb, e = .returned (.tuple #[.agg #[.map (some mb), .int .i64 ((dealAll (L.take 257)).longest : Nat), .map none, .int .i64 0], .int .i64 0]) ∧ w.heap.size ≤ mb ∧ TabAt w' mb (dealAll (L.take 257)).tab ∧ Fed f w w' (pos 258) := by
  have hflt := lt_of_block hF
  have hlo := dealTo_longest_le (firstLens B (p + 14) 19) 15
  have HF := hide hF
  have HC := hide hC
  have HN1 := hide hn1
  have HN2 := hide hn2
  have HN3 := hide hn3
  have HP := hide hpos
  have HL := hide hlen
  have HLL := hide hL
  have HZ := hide hz
  have HMY := hide hmay
  have H256 := hide h256
  have HM1 := hide hmay1
  have HLO := hide hlo
  clear hF hC hn1 hn2 hn3 hpos hlen hL hz hmay h256 hmay1 hlo
  go_enter Tryd.func93, Tryd.ntmps93
  go_wp2_with fail
  obtain ⟨R, hR⟩ : ∃ R, R = w.heap.size := ⟨_, rfl⟩
  have hr1 : (w.alloc (.cells #[.map none, .int .i64 0, .map none, .int .i64 0] 94)).heap[R]? = some (.cells #[.map none, .int .i64 0, .map none, .int .i64 0] 94 (0, 0)) := by rw [hR]; exact heap_alloc_new _ _
  have hf1 := Fed.alloc0 (unhide HF) (.cells #[.map none, .int .i64 0, .map none, .int .i64 0] 94)
  have hRw : w.heap.size ≤ R := by omega
  have hRf : ¬ R = f := by omega
  rw [← hR]
  generalize w.alloc (.cells #[.map none, .int .i64 0, .map none, .int .i64 0] 94) = w1 at *
  clear hR
  refine (feedNum_ok f g off cap p 5 B w1 (hf1.feed _ _ _ (unhide HF)) (hS.step hf1.step hgf) hgf (by omega) (by omega)).mono ?_
  rintro e w2 ⟨rfl, hf2⟩
  rw [unhide HN1]
  have hf12 := hf1.trans hf2
  have hr2 := hf2.step.at_ hr1 hRf
  clear hf1 hf2 hr1
  go_wp2_with fail
  refine (feedNum_ok f g off cap (p + 5) 5 B w2 (hf12.feed _ _ _ (unhide HF)) (hS.step hf12.step hgf) hgf (by omega) (by omega)).mono ?_
  rintro e w3 ⟨rfl, hf3⟩
  rw [unhide HN2]
  have hf13 := hf12.trans hf3
  have hr3 := hf3.step.at_ hr2 hRf
  clear hf12 hf3 hr2
  go_wp2_with fail
  refine (feedNum_ok f g off cap (p + 5 + 5) 4 B w3 (hf13.feed _ _ _ (unhide HF)) (hS.step hf13.step hgf) hgf (by omega) (by omega)).mono ?_
  rintro e w4 ⟨rfl, hf4⟩
  rw [show p + 5 + 5 = p + 10 from rfl, unhide HN3]
  have hf14 := hf13.trans hf4
  have hr4 := hf4.step.at_ hr3 hRf
  clear hf13 hf4 hr3
  go_wp2_with fail
  refine (readFirsts_ok f g off cap (p + 5 + 5 + 4) 19 B w4 (hf14.feed _ _ _ (unhide HF)) (hS.step hf14.step hgf) hgf (by omega) (by omega) (hO.step hf14.step h0f) h0f (unhide HM1)).mono ?_
  rintro e w5 ⟨m1, rfl, hm1, ht1, hf5⟩
  have hf15 := hf14.trans hf5
  have hr5 := hf5.step.at_ hr4 hRf
  have HT1 := hide ht1
  have hsz4 := hf14.step.size
  clear hf14 hf5 hr4 ht1
  go_wp2_with fail
  rw [show p + 5 + 5 + 4 = p + 14 from rfl]
  obtain ⟨M, hM⟩ : ∃ M, M = dealAll (firstLens B (p + 14) 19) := ⟨_, rfl⟩
  have HC' : ∀ i, i < 258 → CodeAt M.longest M.tab B (pos i) (pos (i + 1)) (L[i]?.getD 0) := by rw [hM]; exact unhide HC
  have HT' : TabAt w5 m1 M.tab := by rw [hM]; exact unhide HT1
  have hlo : M.longest ≤ 15 := by rw [hM]; exact unhide HLO
  rw [← hM]
  have hf5' : w5.heap[f]? = some (.cells #[.slice (some ⟨g, off, none⟩) B.length cap, .int .i64 (pos 0 : Nat)] 86 (0, 0)) := by
    rw [unhide HP]; exact hf15.feed _ _ _ (unhide HF)
  have hfa := Fed.alloc0 hf5' (.cells #[.map (some m1), .int .i64 (M.longest : Nat)] 92)
  have hf16 := hf15.trans hfa
  have hr6 := hfa.step.at_ hr5 hRf
  have hm1f : m1 ≠ f := by omega
  have HT6 := hide (HT'.step hfa.step hm1f)
  have hF6 := hfa.feed _ _ _ hf5'
  have HCC := hide HC'
  generalize w5.alloc (.cells #[.map (some m1), .int .i64 (M.longest : Nat)] 92) = w6 at *
  clear HT' HC' hf15 hfa hr5 hf5' HT1 HC hM HM1 HLO
  refine (readRow_plain f g off cap 258 m1 M.longest pos L M.tab B w6 hF6 (hS.step hf16.step hgf) hgf (unhide HT6) hm1f hlo (unhide HL) (by omega) (unhide HLL) (unhide HCC)).mono ?_
  rintro e w7 ⟨RB, rfl, hRB, hints, hf7⟩
  have hf17 := hf16.trans hf7
  have hr7 := hf7.step.at_ hr6 hRf
  have HI := hide hints
  have hsz6 := hf16.step.size
  clear hf16 hf7 hr6 hints HT6 hF6
  have eA : (L.take 257).length = 257 := by rw [List.length_take, unhide HL]; rfl
  have eB : (L.drop 257).length = 1 := by rw [List.length_drop, unhide HL]
  have hdr := dealRow_ok RB 0 257 258 1 (L.take 257) (L.drop 257) w7.drew ((ints_take (unhide HI) 257).step ((Step.refl (fun _ => False) w7).drew) (fun x => x)) ((ints_drop (unhide HI) 257).step ((Step.refl (fun _ => False) w7).drew) (fun x => x)) (by rw [eA]; omega) (unhide H256) (unhide HMY) (unhide HZ)
  rw [eA, eB] at hdr
  have HDR := hide hdr
  clear hdr eA eB
  have hR7 := lt_of_block hr7
  go_wp2_with fail
  go_region_held3 (fun w' => w'.heap[R]? = some (.cells #[.map none, .int .i64 0, .map none, .int .i64 0] 94 (0, 0)) ∨ True) (exact .inr trivial)
    (first | (go_at_call 100; refine (unhide HDR).mono ?_; rintro e w8 ⟨mb, rfl, hmb, htab, hs8⟩; have hr8 := hs8.at_ (w := w7.drew) hr7 (fun x => x); have b0 := (show w8.cell? ⟨R, 0, none⟩ = some (.map none) from blk_cell hr8 0 _ rfl); have b1 := (show w8.cell? ⟨R, 1, none⟩ = some (.int .i64 0) from blk_cell hr8 1 _ rfl); have b2 := (show w8.cell? ⟨R, 2, none⟩ = some (.map none) from blk_cell hr8 2 _ rfl); have b3 := (show w8.cell? ⟨R, 3, none⟩ = some (.int .i64 0) from blk_cell hr8 3 _ rfl); have f0 := blk_free hr8 0; have f1 := blk_free hr8 1; have f2 := blk_free hr8 2; have f3 := blk_free hr8 3))
  have HT8 := hide htab
  have H8 := hide hs8
  clear htab hs8 hr8
  go_wp2_with fail
  refine bodyPost_ret (v := .tuple #[.agg #[.map (some mb), .int .i64 ((dealAll (L.take 257)).longest : Nat), .map none, .int .i64 0], .int .i64 0]) (by simp [results, Tryd.results93, go_sem, b0, b1, b2, b3]) rfl ⟨mb, rfl, ?_, ?_, ?_⟩
  · have := hf17.step.size; have hx : w7.drew.heap.size = w7.heap.size := rfl; omega
  · have hmR : mb ≠ R := by have hx : w7.drew.heap.size = w7.heap.size := rfl; omega
    exact ((((unhide HT8).of (Below.heap_setCell _ _ _ _ hmR)).of (Below.heap_setCell _ _ _ _ hmR)).of (Below.heap_setCell _ _ _ _ hmR)).of (Below.heap_setCell _ _ _ _ hmR)
  · have h9 := hf17.feed _ _ _ (unhide HF)
    have hst : Step (· = f) w7 w8 := ((Step.refl (fun _ => False) w7).drew.trans (unhide H8)).mono (fun _ x => x.elim)
    have hfR : f ≠ R := fun e => hRf e.symm
    refine ⟨((((hf17.step.trans hst).setNew hRw _).setNew hRw _).setNew hRw _).setNew hRw _, fun s x t hx => ?_⟩
    have h10 := hf17.feed s x t hx
    have h11 := (unhide H8).at_ (w := w7.drew) h10 (fun x => x)
    exact (Below.heap_setCell _ _ _ _ hfR).trans ((Below.heap_setCell _ _ _ _ hfR).trans ((Below.heap_setCell _ _ _ _ hfR).trans ((Below.heap_setCell _ _ _ _ hfR).trans h11)))
end Go.Proofs.YtnoemlailgbpoaaDoor
