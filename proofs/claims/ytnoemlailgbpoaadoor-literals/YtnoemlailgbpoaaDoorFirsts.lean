/- Proved here: what readFirsts does where all its bits are there and the lengths may be. -/
import Derived.Test.YtnoemlailgbpoaaDoorCodesDeal2
import Derived.Test.YtnoemlailgbpoaaDoorToldPure
import Derived.Deep.RegionHeld3
namespace Go.Proofs.YtnoemlailgbpoaaDoor
open Go.RowKit Go.Bel Go.Maps

/- the first lengths, when k of them have been told from bit p on -/
def fsTo (B : List Nat) (p : Nat) : Nat → Nat → Nat
  | 0, _ => 0
  | k + 1, i => if i = orderList[k]?.getD 0 then numAt B (p + 3 * k) 3 else fsTo B p k i
theorem fsTo_le (B : List Nat) (p k i : Nat) : fsTo B p k i ≤ 7 := by
  induction k with
  | zero => simp [fsTo]
  | succ k ih =>
    rw [fsTo]
    split
    · have := numAt_lt B (p + 3 * k) 3; omega
    · exact ih
def firstLens (B : List Nat) (p c : Nat) : List Nat := (List.range 19).map (fsTo B p c)
theorem firstLens_length (B : List Nat) (p c : Nat) : (firstLens B p c).length = 19 := by simp [firstLens]
theorem firstLens_get (B : List Nat) (p c i : Nat) (hi : i < 19) : (firstLens B p c)[i]?.getD 0 = fsTo B p c i := by simp [firstLens, hi]
theorem firstLens_le (B : List Nat) (p c i : Nat) : (firstLens B p c)[i]?.getD 0 ≤ 15 := by
  by_cases hi : i < 19
  · rw [firstLens_get _ _ _ _ hi]; have := fsTo_le B p c i; omega
  · rw [List.getElem?_eq_none (by rw [firstLens_length]; omega)]; simp
theorem order_lt (i : Nat) : orderList[i]?.getD 0 < 19 := by
  by_cases hi : i < 19
  · have : i = 0 ∨ i = 1 ∨ i = 2 ∨ i = 3 ∨ i = 4 ∨ i = 5 ∨ i = 6 ∨ i = 7 ∨ i = 8 ∨ i = 9 ∨ i = 10 ∨ i = 11 ∨ i = 12 ∨ i = 13 ∨ i = 14 ∨ i = 15 ∨ i = 16 ∨ i = 17 ∨ i = 18 := by omega
    rcases this with rfl | rfl | rfl | rfl | rfl | rfl | rfl | rfl | rfl | rfl | rfl | rfl | rfl | rfl | rfl | rfl | rfl | rfl | rfl <;> decide
  · rw [List.getElem?_eq_none (by simp [orderList]; omega)]; simp

/- the program's own order of the first lengths, at block 0 -/
def OrderAt (w : World) : Prop := ∀ i : Nat, i < 19 → w.cell? ⟨0, i, none⟩ = some (.int .i64 (orderList[i]?.getD 0 : Nat))
theorem OrderAt.step {S : Nat → Prop} {w w' : World} (h : OrderAt w) (hs : Step S w w') (hn : ¬ S 0) : OrderAt w' := fun i hi => hs.cell (h i hi) hn

theorem zeroF : (#[.int .i64 0, .int .i64 0, .int .i64 0, .int .i64 0, .int .i64 0, .int .i64 0, .int .i64 0, .int .i64 0, .int .i64 0, .int .i64 0, .int .i64 0, .int .i64 0, .int .i64 0, .int .i64 0, .int .i64 0, .int .i64 0, .int .i64 0, .int .i64 0, .int .i64 0] : Array Value) = Array.replicate 19 (.int .i64 0) := rfl

set_option maxRecDepth 20000 in
set_option maxHeartbeats 1000000 in
theorem readFirsts_ok (f g off cap p c : Nat) (B : List Nat) (w : World)
    (hF : w.heap[f]? = some (.cells #[.slice (some ⟨g, off, none⟩) B.length cap, .int .i64 (p : Nat)] 86 (0, 0))) (hS : Src w g off B) (hgf : g ≠ f) (hp : p + 3 * c ≤ 8 * B.length) (hc : c ≤ 19) (hO : OrderAt w) (h0f : 0 ≠ f) (hmay : mayB (firstLens B p c) = true) :
    Calls Tryd.prog 98 #[.pointer (some ⟨f, 0, none⟩), .int .i64 (c : Nat)] w
      fun e w' => ∃ mb, e = .returned (.tuple #[.agg #[.map (some mb), .int .i64 ((dealAll (firstLens B p c)).longest : Nat)], .int .i64 0]) ∧ w.heap.size ≤ mb ∧ TabAt w' mb (dealAll (firstLens B p c)).tab ∧ Fed f w w' (p + 3 * c) := by
  have HF := hide hF
  have hflt := lt_of_block hF
  clear hF
  go_enter Tryd.func98, Tryd.ntmps98
  go_wp2_with fail
  rw [zeroF]
  obtain ⟨R, hR⟩ : ∃ R, R = w.heap.size := ⟨_, rfl⟩
  have hra : RowAt ((w.alloc (.cells #[.map none, .int .i64 0] 92)).alloc (.cells (Array.replicate 19 (.int .i64 0)) 53)) (R + 1) 53 19 (fun i => .int .i64 (fsTo B p 0 i : Nat)) := by
    have := RowAt.born (w.alloc (.cells #[.map none, .int .i64 0] 92)) (A := Array.replicate 19 (.int .i64 0)) (n := 19) (f := fun i => .int .i64 (fsTo B p 0 i : Nat)) 53 (by simp) (fun i hi => by simp [hi, fsTo])
    rw [hR]; simpa using this
  have hrt : ((w.alloc (.cells #[.map none, .int .i64 0] 92)).alloc (.cells (Array.replicate 19 (.int .i64 0)) 53)).heap[R]? = some (.cells #[.map none, .int .i64 0] 92 (0, 0)) := by
    rw [hR]; exact (Below.heap_alloc _ _ _ (by simp)).trans (heap_alloc_new _ _)
  have hfd : Fed f w ((w.alloc (.cells #[.map none, .int .i64 0] 92)).alloc (.cells (Array.replicate 19 (.int .i64 0)) 53)) p := by
    have h1 := Fed.alloc0 (unhide HF) (.cells #[.map none, .int .i64 0] 92)
    exact h1.trans (Fed.alloc0 (h1.feed _ _ _ (unhide HF)) _)
  have hRf : ¬ R = f := by omega
  have hRf1 : ¬ R + 1 = f := by omega
  have hRw : w.heap.size ≤ R := by omega
  rw [← hR]
  generalize (w.alloc (.cells #[.map none, .int .i64 0] 92)).alloc (.cells (Array.replicate 19 (.int .i64 0)) 53) = w1 at *
  clear hR
  go_loopw [9] (fun i wr => ∃ k : Nat, k ≤ c ∧ i = .int .i64 (k : Nat) ∧ Fed f w wr (p + 3 * k) ∧ RowAt wr (R + 1) 53 19 (fun i => .int .i64 (fsTo B p k i : Nat)) ∧ wr.heap[R]? = some (.cells #[.map none, .int .i64 0] 92 (0, 0))) (fun i _ => c - (intOf i).toNat)
  case atStart => exact ⟨0, by omega, rfl, hfd, hra, hrt⟩
  case round =>
    clear hfd hra hrt
    obtain ⟨k, hk, rfl, hfed, hra, hrt⟩ := hrel
    by_cases hlt : k < c
    · have hO1 := hO.step hfed.step h0f
      have hc1 := hO1 k (by omega)
      have hol := order_lt k
      obtain ⟨q, hq⟩ : ∃ q, q = orderList[k]?.getD 0 := ⟨_, rfl⟩
      rw [← hq] at hc1 hol
      have hqi : ((q : Nat) : Int) < 19 := by omega
      have hki : ((k : Nat) : Int) < 19 := by omega
      have hk0 : (0 : Int) ≤ ((k : Nat) : Int) := by omega
      have hq0 : (0 : Int) ≤ ((q : Nat) : Int) := by omega
      have cq := hra.cell q hol
      have fq := hra.free q
      have HQ := hide hq
      have hnum := feedNum_ok f g off cap (p + 3 * k) 3 B wr.drew (hfed.feed _ _ _ (unhide HF)) ((hS.step hfed.step hgf).step ((Step.refl (fun _ => False) wr).drew) (fun x => x)) hgf (by omega) (by omega)
      have HNUM := hide hnum
      have HRA := hide hra
      have HRT := hide hrt
      have HFED := hide hfed
      clear hq hnum hra hrt hfed hO1
      go_wp2_with fail
      refine wp_region_noPanic ?_
      go_region_held3 (fun w' => w'.cell? ⟨0, k, none⟩ = some (.int .i64 (q : Nat))) (go_keep)
        (first | (go_at_call 72; refine (unhide HNUM).mono ?_; rintro e w2 ⟨rfl, hf2⟩; have k1 := hf2.step.cell (p := ⟨0, k, none⟩) hc1 h0f; have k2 := ((unhide HRA).drew.step hf2.step hRf1).cell q hol; have k3 := ((unhide HRA).drew.step hf2.step hRf1).free q))
      all_goals
        refine NoPanic.normal ?_
        have hr2 : RowAt (w2.setCell ⟨R + 1, q, none⟩ (.int .i64 (numAt B (p + 3 * k) 3 : Nat))) (R + 1) 53 19 (fun i => .int .i64 (fsTo B p (k + 1) i : Nat)) := by
          refine (((unhide HRA).drew.step hf2.step hRf1).set q (.int .i64 (numAt B (p + 3 * k) 3 : Nat))).congr fun i _ => ?_
          rw [fsTo, ← unhide HQ]
          by_cases hi : i = q <;> simp [hi]
        have ht2 : (w2.setCell ⟨R + 1, q, none⟩ (.int .i64 (numAt B (p + 3 * k) 3 : Nat))).heap[R]? = some (.cells #[.map none, .int .i64 0] 92 (0, 0)) :=
          (Below.heap_setCell _ _ _ _ (by simp)).trans (hf2.step.at_ (w := wr.drew) (unhide HRT) hRf)
        have hfd2 : Fed f w (w2.setCell ⟨R + 1, q, none⟩ (.int .i64 (numAt B (p + 3 * k) 3 : Nat))) (p + 3 * k + 3) := by
          have h1 : Fed f wr w2 (p + 3 * k + 3) := ⟨(Step.refl (· = f) wr).drew.trans hf2.step, fun s x t hx => hf2.feed s x t hx⟩
          have h2 := (unhide HFED).trans h1
          exact ⟨h2.step.setNew (by simp; omega) _, fun s x t hx => (Below.heap_setCell _ _ _ _ (fun e => hRf1 e.symm)).trans (h2.feed s x t hx)⟩
        have H1 := hide hr2
        have H2 := hide ht2
        have H3 := hide hfd2
        clear hr2 ht2 hfd2 hf2 k1 k2 k3 cq fq hc1
        go_wp2_with fail
        go_roundw
        case rel => exact ⟨k + 1, by omega, by go_num, unhide H3, unhide H1, unhide H2⟩
        case measure => simp [intOf]; omega
    · have : k = c := by omega
      subst this
      have hints : Ints wr (R + 1) 0 (firstLens B p k) := ⟨fun i hi => by
          rw [firstLens_length] at hi
          rw [firstLens_get _ _ _ _ hi, Nat.zero_add]
          exact hra.cell i hi, firstLens_le B p k, by rw [firstLens_length]; omega⟩
      have HI := hide hints
      have HRT := hide hrt
      have HFED := hide hfed
      clear hints hrt hfed hra
      go_wp2_with fail
      have hdl := dealUp_ok (R + 1) 0 19 (firstLens B p k) wr (unhide HI) hmay
      rw [firstLens_length] at hdl
      refine hdl.mono ?_
      clear hdl
      rintro e w3 ⟨mb, rfl, hmb, htab, hs3⟩
      obtain ⟨r0, r1, rf0, rf1⟩ := blk_two (hs3.at_ (unhide HRT) (fun x => x))
      have hRl := lt_of_block (unhide HRT)
      have HT := hide htab
      clear htab
      go_wp2_with fail
      refine bodyPost_ret (v := .tuple #[.agg #[.map (some mb), .int .i64 ((dealAll (firstLens B p k)).longest : Nat)], .int .i64 0]) (by simp [results, Tryd.results98, go_sem, r0, r1]) rfl ⟨mb, rfl, ?_, ?_, ?_⟩
      · have := (unhide HFED).step.size; omega
      · exact (unhide HT).of ((Below.heap_setCell _ _ _ _ (by simp; omega)).trans (Below.heap_setCell _ _ _ _ (by simp; omega)))
      · have h1 : Fed f wr w3 (p + 3 * k) := ⟨hs3.mono (fun _ x => x.elim), fun s x t hx => by
            have h9 := (unhide HFED).feed _ _ _ (unhide HF)
            rw [h9] at hx
            cases hx
            exact hs3.at_ h9 (fun x => x)⟩
        have h2 := (unhide HFED).trans h1
        exact ⟨(h2.step.setNew (by simpa using hRw) _).setNew (by simpa using hRw) _, fun s x t hx => (Below.heap_setCell _ _ _ _ (fun e => hRf e.symm)).trans ((Below.heap_setCell _ _ _ _ (fun e => hRf e.symm)).trans (h2.feed s x t hx))⟩
end Go.Proofs.YtnoemlailgbpoaaDoor
