/- Proved here: what readCoding does, whatever the bits are. -/
import Derived.Test.YtbpahojchgpdnaaGreatDoorGCoding
set_option maxRecDepth 20000
set_option maxHeartbeats 4000000
namespace Go.Proofs.YtbpahojchgpdnaaGreatDoor
open Go.RowKit Go.Bel Go.Maps
theorem rRowF_no (D : Dealt) (B : List Nat) (n : Nat) : ∀ k p row e, rRowF D B n k p row = .no e → e = 8 ∨ e = 9 := by
 intro k
 induction k with
 | zero => intro p row e h; simp [rRowF] at h
 | succ k ih =>
  intro p row e h
  rw [rRowF] at h
  split at h
  ·simp at h
  ·split at h
   ·rename_i e1 hs
    simp only [R.no.injEq] at h
    subst h
    exact .inr (rSym_no hs)
   ·simp at h
   ·split at h
    ·simp only [R.no.injEq] at h; exact .inl h.symm
    ·split at h
     ·rename_i e1 hl; exact (rLens_no hl).elim
     ·simp at h
     ·split at h
      ·simp only [R.no.injEq] at h; exact .inl h.symm
      ·exact ih _ _ _ h
theorem readCoding_any (f g off cap z p : Nat) (B : List Nat) (w : World)
  (hF : w.heap[f]? = some (.cells #[.slice (fedA g off B.length) B.length cap, .int .i64 (p : Nat), .int .i64 (z : Nat)] 91 (0, 0))) (hS : Src w g off B) (hgf : g ≠ f) (hO : OrderAt w) (h0f : 4 ≤ f) (hp : p ≤ 8 * B.length) :
  Calls Tryz.prog 205 #[.pointer (some ⟨f, 0, none⟩)] w fun e w' => CodingP (rCoding B p) f w e w' := by
 have hflt := lt_of_block hF
 have HF := hide hF
 obtain ⟨res, hre⟩ : ∃ r, r = rCoding B p := ⟨_, rfl⟩
 have HRE := hide hre
 rw [← hre]
 clear hF hre
 go_enter Tryz.func205, Tryz.ntmps205
 go_wp2_with fail
 obtain ⟨R, hR⟩ : ∃ R, R = w.heap.size := ⟨_, rfl⟩
 have hr1 : (w.alloc (.cells #[.map none, .int .i64 0, .map none, .int .i64 0] 125)).heap[R]? = some (.cells #[.map none, .int .i64 0, .map none, .int .i64 0] 125 (0, 0)) := by rw [hR]; exact heap_alloc_new _ _
 have hf1 := Fed.alloc0 (unhide HF) (.cells #[.map none, .int .i64 0, .map none, .int .i64 0] 125)
 have hRw : w.heap.size ≤ R := by omega
 have hRf : ¬ R = f := by omega
 rw [← hR]
 generalize w.alloc (.cells #[.map none, .int .i64 0, .map none, .int .i64 0] 125) = w1 at *
 clear hR
 by_cases h1 : p + 5 ≤ 8 * B.length
 case neg =>
  refine (feedNum_miss f g off cap z p 5 B w1 (hf1.feed _ _ _ _ (unhide HF)) (hS.step hf1.step hgf) hgf (by omega) hp (by omega)).mono ?_
  rintro e w2 ⟨rfl, hf2⟩
  have HFIN := hide (hf1.trans hf2)
  clear hf1 hf2 hr1
  go_wp2_with fail
  rw [unhide HRE, coding_miss B p (by omega)]
  exact ⟨rfl, rfl, _, unhide HFIN⟩
 refine (feedNum_ok f g off cap z p 5 B w1 (hf1.feed _ _ _ _ (unhide HF)) (hS.step hf1.step hgf) hgf (by omega) h1).mono ?_
 rintro e w2 ⟨rfl, hf2⟩
 have hf12 := hf1.trans hf2
 have hr2 := hf2.step.at_ hr1 hRf
 have hn1 := numAt_lt B p 5
 clear hf1 hf2 hr1
 go_wp2_with fail
 by_cases h2 : p + 5 + 5 ≤ 8 * B.length
 case neg =>
  refine (feedNum_miss f g off cap z (p + 5) 5 B w2 (hf12.feed _ _ _ _ (unhide HF)) (hS.step hf12.step hgf) hgf (by omega) h1 (by omega)).mono ?_
  rintro e w3 ⟨rfl, hf3⟩
  have HFIN := hide (hf12.trans hf3)
  clear hf12 hf3 hr2
  go_wp2_with fail
  rw [unhide HRE, coding_miss B p (by omega)]
  exact ⟨rfl, rfl, _, unhide HFIN⟩
 refine (feedNum_ok f g off cap z (p + 5) 5 B w2 (hf12.feed _ _ _ _ (unhide HF)) (hS.step hf12.step hgf) hgf (by omega) h2).mono ?_
 rintro e w3 ⟨rfl, hf3⟩
 have hf13 := hf12.trans hf3
 have hr3 := hf3.step.at_ hr2 hRf
 have hn2 := numAt_lt B (p + 5) 5
 clear hf12 hf3 hr2
 go_wp2_with fail
 by_cases h3 : p + 5 + 5 + 4 ≤ 8 * B.length
 case neg =>
  refine (feedNum_miss f g off cap z (p + 5 + 5) 4 B w3 (hf13.feed _ _ _ _ (unhide HF)) (hS.step hf13.step hgf) hgf (by omega) h2 (by omega)).mono ?_
  rintro e w4 ⟨rfl, hf4⟩
  have HFIN := hide (hf13.trans hf4)
  clear hf13 hf4 hr3
  go_wp2_with fail
  rw [unhide HRE, coding_miss B p (by omega)]
  exact ⟨rfl, rfl, _, unhide HFIN⟩
 refine (feedNum_ok f g off cap z (p + 5 + 5) 4 B w3 (hf13.feed _ _ _ _ (unhide HF)) (hS.step hf13.step hgf) hgf (by omega) h3).mono ?_
 rintro e w4 ⟨rfl, hf4⟩
 have hf14 := hf13.trans hf4
 have hr4 := hf4.step.at_ hr3 hRf
 have hn3 := numAt_lt B (p + 5 + 5) 4
 clear hf13 hf4 hr3
 have hre : res = rCod2 B (p + 5 + 5 + 4) (numAt B p 5 + 257) (numAt B (p + 5) 5 + 1) (numAt B (p + 5 + 5) 4 + 4) := by rw [unhide HRE, coding_cod2 B p h3]
 clear HRE
 generalize numAt B p 5 = x1 at *
 generalize numAt B (p + 5) 5 = x2 at *
 generalize numAt B (p + 5 + 5) 4 = x3 at *
 obtain ⟨q, hq⟩ : ∃ q, q = p + 5 + 5 + 4 := ⟨_, rfl⟩
 rw [← hq] at h3 hf14 hre
 clear hq h1 h2 hp
 by_cases hbig : 286 < x1 + 257 ∨ 30 < x2 + 1
 ·unfold rCod2 at hre
  rw [if_pos hbig] at hre
  obtain ⟨⟨b0, b1, b2, b3⟩, f0, f1, f2, f3⟩ := codCells hr4
  have HRE := hide hre
  have HFIN := hide hf14
  clear hre hf14 hr4
  by_cases hb1 : 286 < x1 + 257
  all_goals
   go_wp2_with fail
   refine bodyPost_ret (v := .tuple #[.agg #[.map none, .int .i64 0, .map none, .int .i64 0], .int .i64 7]) (by simp [results, Tryz.results205, go_sem, b0, b1, b2, b3]) rfl ?_
   rw [unhide HRE]
   exact ⟨rfl, _, Fed.sets (unhide HFIN) (Step.refl _ _) hRw hRf⟩
 ·unfold rCod2 at hre
  rw [if_neg hbig] at hre
  have hb1 : ¬ 286 < x1 + 257 := fun h => hbig (.inl h)
  have hb2 : ¬ 30 < x2 + 1 := fun h => hbig (.inr h)
  clear hbig
  have HRE := hide hre
  clear hre
  go_wp2_with fail
  have hfc := readFirsts_any f g off cap z q (x3 + 4) B w4 (hf14.feed _ _ _ _ (unhide HF)) (hS.step hf14.step hgf) hgf (by omega) (by omega) (hO.step hf14.step (fun k hk x => by omega)) h0f
  have e34 : (((x3 + 4 : Nat)) : Int) = (x3 : Int) + 4 := by omega
  rw [e34] at hfc
  refine hfc.mono ?_
  clear hfc e34
  rintro e w5 (⟨hthere, htp⟩ | ⟨hthere, rfl, q5, hf5⟩)
  case inr =>
   have HFIN := hide (hf14.trans hf5)
   clear hf14 hf5 hr4
   go_wp2_with fail
   rw [unhide HRE, if_neg (by omega)]
   exact ⟨rfl, rfl, _, unhide HFIN⟩
  unfold TabP at htp
  by_cases hmay : mayB (firstLens B q (x3 + 4)) = true
  case neg =>
   rw [if_neg hmay] at htp
   obtain ⟨rfl, q5, hf5⟩ := htp
   have hr5 := hf5.step.at_ hr4 hRf
   obtain ⟨b0, b1, b2, b3, f0, f1, f2, f3⟩ := codCellsA hr5
   have HFIN := hide (hf14.trans hf5)
   clear hf14 hf5 hr4 hr5
   go_wp2_with fail
   refine bodyPost_ret (v := .tuple #[.agg #[.map none, .int .i64 0, .map none, .int .i64 0], .int .i64 7]) (by simp [results, Tryz.results205, go_sem, b0, b1, b2, b3]) rfl ?_
   rw [unhide HRE, if_pos hthere, if_neg hmay]
   exact ⟨rfl, _, Fed.sets (unhide HFIN) ((Step.refl _ _).alloc _) hRw hRf⟩
  rw [if_pos hmay] at htp
  obtain ⟨m1, rfl, hm1, ht1, hf5⟩ := htp
  have hre := unhide HRE
  rw [if_pos hthere, if_pos hmay] at hre
  clear HRE
  have hlo := dealTo_longest_le (firstLens B q (x3 + 4)) 15
  have hsy := firstLens_sym B q (x3 + 4)
  obtain ⟨M, hM⟩ : ∃ M, M = dealAll (firstLens B q (x3 + 4)) := ⟨_, rfl⟩
  have hlo' : M.longest ≤ 15 := by rw [hM]; exact hlo
  rw [← hM] at ht1 hre hsy ⊢
  clear hlo hM hmay
  obtain ⟨n, hn⟩ : ∃ n, n = x1 + 257 + (x2 + 1) := ⟨_, rfl⟩
  rw [← hn] at hre
  have en : (x1 : Int) + 257 + ((x2 : Int) + 1) = (n : Int) := by omega
  have hn4 : n ≤ 400 := by omega
  have hsz4 := hf14.step.size
  have hf15 := hf14.trans hf5
  have hr5 := hf5.step.at_ hr4 hRf
  have hF5 := hf15.feed _ _ _ _ (unhide HF)
  have hfa := Fed.alloc0 hF5 (.cells #[.map (some m1), .int .i64 (M.longest : Nat)] 123)
  have hf16 := hf15.trans hfa
  have hr6 := hfa.step.at_ hr5 hRf
  have hm1f : m1 ≠ f := by omega
  have ht6 := ht1.step hfa.step hm1f
  have hF6 := hfa.feed _ _ _ _ hF5
  have hrow := readRow_any f g off cap z n m1 (q + 3 * (x3 + 4)) M B (w5.alloc (.cells #[.map (some m1), .int .i64 (M.longest : Nat)] 123)) hF6 (hS.step hf16.step hgf) hgf ht6 hm1f hlo' hthere hn4 hsy (hO.step hf16.step (fun k hk x => by omega)) h0f
  have HROW := hide hrow
  have HN := hide hn
  have HRE := hide hre
  have H16 := hide hf16
  have HR6 := hide hr6
  clear hrow hn hre hf16 hr6 hf15 hf14 hf5 hr4 hr5 hF5 hfa ht1 ht6 hF6 hsy
  go_wp2_with fail
  obtain ⟨w6, hw6⟩ : ∃ w6, w6 = w5.alloc (.cells #[.map (some m1), .int .i64 (M.longest : Nat)] 123) := ⟨_, rfl⟩
  rw [← hw6] at HROW H16 HR6 ⊢
  clear hw6
  cases hrr : rRow M B n (q + 3 * (x3 + 4)) with
  | miss =>
   have h1 := unhide HROW
   rw [hrr] at h1
   refine h1.mono ?_
   rintro e w7 ⟨rfl, q7, hf7⟩
   have HFIN := hide ((unhide H16).trans hf7)
   clear h1 hf7
   go_wp2_with fail
   rw [unhide HRE, hrr]
   exact ⟨rfl, rfl, _, unhide HFIN⟩
  | no x =>
   have h1 := unhide HROW
   have hx := rRowF_no _ _ _ _ _ _ _ hrr
   have hxb : ((x : Int) != 0) = true := by rw [bne_iff_ne]; omega
   rw [hrr] at h1
   refine h1.mono ?_
   rintro e w7 ⟨rfl, q7, hf7⟩
   obtain ⟨⟨b0, b1, b2, b3⟩, f0, f1, f2, f3⟩ := codCells (hf7.step.at_ (unhide HR6) hRf)
   have HFIN := hide ((unhide H16).trans hf7)
   clear h1 hf7 hx
   go_wp2_with fail
   refine bodyPost_ret (v := .tuple #[.agg #[.map none, .int .i64 0, .map none, .int .i64 0], .int .i64 (x : Nat)]) (by simp [results, Tryz.results205, go_sem, b0, b1, b2, b3]) rfl ?_
   rw [unhide HRE, hrr]
   exact ⟨rfl, _, Fed.sets (unhide HFIN) (Step.refl _ _) hRw hRf⟩
  | ok row q7 =>
   have h1 := unhide HROW
   rw [hrr] at h1
   refine h1.mono ?_
   rintro e w7 ⟨hlen, RB, rfl, hRB, hints, hf7⟩
   have hre := unhide HRE
   rw [hrr] at hre
   replace hre : res = rDealt row (x1 + 257) q7 := hre
   have hf17 := (unhide H16).trans hf7
   have hr7 := hf7.step.at_ (unhide HR6) hRf
   clear h1 hf7 HROW HRE H16 HR6 hrr
   obtain ⟨a, ha⟩ : ∃ a, a = x1 + 257 := ⟨_, rfl⟩
   rw [← ha] at hre
   have ea : (x1 : Int) + 257 = (a : Int) := by omega
   have han : a ≤ n := by have := unhide HN; omega
   have ha256 : 256 < a := by omega
   have hna : ¬ n = a := by have := unhide HN; omega
   have eA : (row.take a).length = a := by rw [List.length_take, hlen]; omega
   have eB : (row.drop a).length = n - a := by rw [List.length_drop, hlen]
   have e256 : (row.take a)[256]?.getD 0 = row[256]?.getD 0 := by rw [List.getElem?_take_of_lt ha256]
   have hdr := dealRow_any RB 0 a n (n - a) (row.take a) (row.drop a) w7.drew ((ints_take hints a).step ((Step.refl (fun _ => False) w7).drew) (fun x => x)) ((ints_drop hints a).step ((Step.refl (fun _ => False) w7).drew) (fun x => x)) (by omega)
   rw [eA, eB, e256] at hdr
   have han0 : (0 : Int) ≤ (a : Int) := by omega
   have hani : (a : Int) ≤ (n : Int) := by omega
   have hnn : ((n : Int) - (a : Int)) = ((n - a : Nat) : Int) := by omega
   have HDR := hide hdr
   have H17 := hide hf17
   have HRE := hide hre
   have HR7 := hide hr7
   have HA := hide ha
   have hR7 := lt_of_block hr7
   have hsz17 := hf17.step.size
   clear hdr eA eB e256 hf17 hre hints hr7 ha
   by_cases hok : 0 < row[256]?.getD 0 ∧ mayB (row.take a) = true ∧ farB (row.drop a) = true
   ·have hd1 := (unhide HDR).mono (R' := fun e w' => CodP (row.take a) (row.drop a) w7.drew e w' ∧ Step (fun _ => False) w7.drew w') (fun e w' h => by
     rcases h with ⟨_, _, _, h⟩ | ⟨h, _⟩
     ·exact h
     ·exact (h hok).elim)
    have HD1 := hide hd1
    have hre := unhide HRE
    unfold rDealt at hre
    rw [if_pos hok] at hre
    have HRE2 := hide hre
    clear hd1 HDR HRE hre
    go_wp2_with fail
    go_region_held3 (fun w' => w'.heap[R]? = some (.cells #[.map none, .int .i64 0, .map none, .int .i64 0] 125 (0, 0)) ∨ True) (exact .inr trivial)
     (first | (go_at_call 214; refine (unhide HD1).mono ?_; rintro e w8 ⟨⟨mb, x, rfl, hmb, htab, hfar⟩, hs8⟩; obtain ⟨⟨b0, b1, b2, b3⟩, f0, f1, f2, f3⟩ := codCells (hs8.at_ (w := w7.drew) (unhide HR7) (fun x => x))))
    have HT8 := hide htab
    have H8 := hide hs8
    have HFAR := hide hfar
    clear htab hs8 hfar
    go_wp2_with fail
    refine bodyPost_ret (v := .tuple #[.agg #[.map (some mb), .int .i64 ((dealAll (row.take a)).longest : Nat), .map x, .int .i64 ((dealAll (row.drop a)).longest : Nat)], .int .i64 0]) (by simp [results, Tryz.results205, go_sem, b0, b1, b2, b3]) rfl ?_
    rw [unhide HRE2]
    have hx : w7.drew.heap.size = w7.heap.size := rfl
    refine ⟨⟨mb, x, rfl, by omega, ?_, ?_⟩, Fed.sets (unhide H17) ((Step.refl (fun _ => False) w7).drew.trans (unhide H8)) hRw hRf⟩
    ·have hmR : mb ≠ R := by omega
     exact ((((unhide HT8).of (Below.heap_setCell _ _ _ _ hmR)).of (Below.heap_setCell _ _ _ _ hmR)).of (Below.heap_setCell _ _ _ _ hmR)).of (Below.heap_setCell _ _ _ _ hmR)
    ·rcases unhide HFAR with h | ⟨m2, e2, hm2, ht2⟩
     ·exact .inl h
     ·have hmR : m2 ≠ R := by omega
      exact .inr ⟨m2, e2, by omega, (((ht2.of (Below.heap_setCell _ _ _ _ hmR)).of (Below.heap_setCell _ _ _ _ hmR)).of (Below.heap_setCell _ _ _ _ hmR)).of (Below.heap_setCell _ _ _ _ hmR)⟩
   ·have hd1 := (unhide HDR).mono (R' := fun e w' => e = .returned (.tuple #[.agg #[.map none, .int .i64 0, .map none, .int .i64 0], .int .i64 7]) ∧ Step (fun _ => False) w7.drew w') (fun e w' h => by
     rcases h with ⟨h1, h2, h3, _⟩ | ⟨_, h⟩
     ·exact (hok ⟨h1, h2, h3⟩).elim
     ·exact h)
    have HD1 := hide hd1
    have hre := unhide HRE
    unfold rDealt at hre
    rw [if_neg hok] at hre
    have HRE2 := hide hre
    clear hd1 HDR HRE hre
    go_wp2_with fail
    go_region_held3 (fun w' => w'.heap[R]? = some (.cells #[.map none, .int .i64 0, .map none, .int .i64 0] 125 (0, 0)) ∨ True) (exact .inr trivial)
     (first | (go_at_call 214; refine (unhide HD1).mono ?_; rintro e w8 ⟨rfl, hs8⟩; obtain ⟨⟨b0, b1, b2, b3⟩, f0, f1, f2, f3⟩ := codCells (hs8.at_ (w := w7.drew) (unhide HR7) (fun x => x))))
    have H8 := hide hs8
    clear hs8
    go_wp2_with fail
    refine bodyPost_ret (v := .tuple #[.agg #[.map none, .int .i64 0, .map none, .int .i64 0], .int .i64 7]) (by simp [results, Tryz.results205, go_sem, b0, b1, b2, b3]) rfl ?_
    rw [unhide HRE2]
    exact ⟨rfl, _, Fed.sets (unhide H17) ((Step.refl (fun _ => False) w7).drew.trans (unhide H8)) hRw hRf⟩
end Go.Proofs.YtbpahojchgpdnaaGreatDoor
