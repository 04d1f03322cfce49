/- Proved here: what readFirsts does, whatever the bits are. -/
import Derived.Test.YtbpahojchgpdnaaGreatDoorCodesDeal2
import Derived.Test.YtbpahojchgpdnaaGreatDoorGRow
import Derived.RegionDies
namespace Go.Proofs.YtbpahojchgpdnaaGreatDoor
open Go.RowKit Go.Bel Go.Maps

/- a table that a call hands back, with its error -/
def TabP (L : List Nat) (q f : Nat) (w : World) (e : Ending) (w' : World) : Prop :=
  if mayB L = true then ∃ mb, e = .returned (.tuple #[.agg #[.map (some mb), .int .i64 ((dealAll L).longest : Nat)], .int .i64 0]) ∧ w.heap.size ≤ mb ∧ TabAt w' mb (dealAll L).tab ∧ Fed f w w' q
  else e = .returned (.tuple #[.agg #[.map none, .int .i64 0], .int .i64 7]) ∧ ∃ q, Fed f w w' q

set_option maxRecDepth 20000 in
set_option maxHeartbeats 1000000 in
theorem readFirsts_any (f g off cap z p c : Nat) (B : List Nat) (w : World)
    (hF : w.heap[f]? = some (.cells #[.slice (some ⟨g, off, none⟩) B.length cap, .int .i64 (p : Nat), .int .i64 (z : Nat)] 91 (0, 0))) (hS : Src w g off B) (hgf : g ≠ f) (hp : p ≤ 8 * B.length) (hc : c ≤ 19) (hO : OrderAt w) (h0f : 4 ≤ f) :
    Calls Tryz.prog 212 #[.pointer (some ⟨f, 0, none⟩), .int .i64 (c : Nat)] w
      fun e w' => (p + 3 * c ≤ 8 * B.length ∧ TabP (firstLens B p c) (p + 3 * c) f w e w') ∨ (8 * B.length < p + 3 * c ∧ e = lost ∧ ∃ q, Fed f w w' q) := by
  have HF := hide hF
  have hflt := lt_of_block hF
  clear hF
  go_enter Tryz.func212, Tryz.ntmps212
  go_wp2_with fail
  rw [zeroF]
  obtain ⟨R, hR⟩ : ∃ R, R = w.heap.size := ⟨_, rfl⟩
  have hra : RowAt ((w.alloc (.cells #[.map none, .int .i64 0] 123)).alloc (.cells (Array.replicate 19 (.int .i64 0)) 216)) (R + 1) 216 19 (fun i => .int .i64 (fsTo B p 0 i : Nat)) := by
    have := RowAt.born (w.alloc (.cells #[.map none, .int .i64 0] 123)) (A := Array.replicate 19 (.int .i64 0)) (n := 19) (f := fun i => .int .i64 (fsTo B p 0 i : Nat)) 216 (by simp) (fun i hi => by simp [hi, fsTo])
    rw [hR]; simpa using this
  have hrt : ((w.alloc (.cells #[.map none, .int .i64 0] 123)).alloc (.cells (Array.replicate 19 (.int .i64 0)) 216)).heap[R]? = some (.cells #[.map none, .int .i64 0] 123 (0, 0)) := by
    rw [hR]; exact (Below.heap_alloc _ _ _ (by simp)).trans (heap_alloc_new _ _)
  have hfd : Fed f w ((w.alloc (.cells #[.map none, .int .i64 0] 123)).alloc (.cells (Array.replicate 19 (.int .i64 0)) 216)) p := by
    have h1 := Fed.alloc0 (unhide HF) (.cells #[.map none, .int .i64 0] 123)
    exact h1.trans (Fed.alloc0 (h1.feed _ _ _ _ (unhide HF)) _)
  have hRf : ¬ R = f := by omega
  have hRf1 : ¬ R + 1 = f := by omega
  have hRw : w.heap.size ≤ R := by omega
  rw [← hR]
  generalize (w.alloc (.cells #[.map none, .int .i64 0] 123)).alloc (.cells (Array.replicate 19 (.int .i64 0)) 216) = w1 at *
  clear hR
  go_loopw [9] (fun i wr => ∃ k : Nat, k ≤ c ∧ p + 3 * k ≤ 8 * B.length ∧ i = .int .i64 (k : Nat) ∧ Fed f w wr (p + 3 * k) ∧ RowAt wr (R + 1) 216 19 (fun i => .int .i64 (fsTo B p k i : Nat)) ∧ wr.heap[R]? = some (.cells #[.map none, .int .i64 0] 123 (0, 0))) (fun i _ => c - (intOf i).toNat)
  case atStart => exact ⟨0, by omega, by omega, rfl, hfd, hra, hrt⟩
  case round =>
    clear hfd hra hrt
    obtain ⟨k, hk, hpk, rfl, hfed, hra, hrt⟩ := hrel
    by_cases hlt : k < c
    · have hO1 := hO.step hfed.step (fun k hk x => by omega)
      have hc1 := hO1.order k (by omega)
      have hol := order_lt k
      obtain ⟨q, hq⟩ : ∃ q, q = orderList[k]?.getD 0 := ⟨_, rfl⟩
      rw [← hq] at hc1 hol
      have hqi : ((q : Nat) : Int) < 19 := by omega
      have hki : ((k : Nat) : Int) < 19 := by omega
      have hk0 : (0 : Int) ≤ ((k : Nat) : Int) := by omega
      have hq0 : (0 : Int) ≤ ((q : Nat) : Int) := by omega
      have cq := hra.cell q hol
      have fq := hra.free q
      have HQ := hide hq
      by_cases hthere : p + 3 * k + 3 ≤ 8 * B.length
      · have hnum := feedNum_ok f g off cap z (p + 3 * k) 3 B wr.drew (hfed.feed _ _ _ _ (unhide HF)) ((hS.step hfed.step hgf).step ((Step.refl (fun _ => False) wr).drew) (fun x => x)) hgf (by omega) (by omega)
        have HNUM := hide hnum
        have HRA := hide hra
        have HRT := hide hrt
        have HFED := hide hfed
        clear hq hnum hra hrt hfed hO1
        go_wp2_with fail
        refine wp_region_noPanic ?_
        go_region_held3 (fun w' => w'.cell? ⟨0, k, none⟩ = some (.int .i64 (q : Nat))) (go_keep)
          (first | (go_at_call 119; refine (unhide HNUM).mono ?_; rintro e w2 ⟨rfl, hf2⟩; have k1 := hf2.step.cell (p := ⟨0, k, none⟩) hc1 (by show ¬ (0 = f); omega); have k2 := ((unhide HRA).drew.step hf2.step hRf1).cell q hol; have k3 := ((unhide HRA).drew.step hf2.step hRf1).free q))
        all_goals
          refine NoPanic.normal ?_
          have hr2 : RowAt (w2.setCell ⟨R + 1, q, none⟩ (.int .i64 (numAt B (p + 3 * k) 3 : Nat))) (R + 1) 216 19 (fun i => .int .i64 (fsTo B p (k + 1) i : Nat)) := by
            refine (((unhide HRA).drew.step hf2.step hRf1).set q (.int .i64 (numAt B (p + 3 * k) 3 : Nat))).congr fun i _ => ?_
            rw [fsTo, ← unhide HQ]
            by_cases hi : i = q <;> simp [hi]
          have ht2 : (w2.setCell ⟨R + 1, q, none⟩ (.int .i64 (numAt B (p + 3 * k) 3 : Nat))).heap[R]? = some (.cells #[.map none, .int .i64 0] 123 (0, 0)) :=
            (Below.heap_setCell _ _ _ _ (by simp)).trans (hf2.step.at_ (w := wr.drew) (unhide HRT) hRf)
          have hfd2 : Fed f w (w2.setCell ⟨R + 1, q, none⟩ (.int .i64 (numAt B (p + 3 * k) 3 : Nat))) (p + 3 * k + 3) := by
            have h1 : Fed f wr w2 (p + 3 * k + 3) := ⟨(Step.refl (· = f) wr).drew.trans hf2.step, fun s x z' t hx => hf2.feed s x z' t hx⟩
            have h2 := (unhide HFED).trans h1
            exact ⟨h2.step.setNew (by simp; omega) _, fun s x z' t hx => (Below.heap_setCell _ _ _ _ (fun e => hRf1 e.symm)).trans (h2.feed s x z' t hx)⟩
          have H1 := hide hr2
          have H2 := hide ht2
          have H3 := hide hfd2
          clear hr2 ht2 hfd2 hf2 k1 k2 k3 cq fq hc1
          go_wp2_with fail
          go_roundw
          case rel => exact ⟨k + 1, by omega, by omega, by go_num, unhide H3, unhide H1, unhide H2⟩
          case measure => simp [intOf]; omega
      · have hnum := feedNum_miss f g off cap z (p + 3 * k) 3 B wr.drew (hfed.feed _ _ _ _ (unhide HF)) ((hS.step hfed.step hgf).step ((Step.refl (fun _ => False) wr).drew) (fun x => x)) hgf (by omega) hpk (by omega)
        have HNUM := hide hnum
        have HFED := hide hfed
        clear hq hnum hra hrt hfed hO1 cq fq
        go_wp2_with fail
        go_region_dies
        all_goals
          refine (unhide HNUM).mono ?_
          rintro e w2 ⟨rfl, hf2⟩
          refine ⟨rfl, .inr ⟨by omega, rfl, _, (unhide HFED).trans ⟨(Step.refl (· = f) wr).drew.trans hf2.step, fun s x z' t hx => hf2.feed s x z' t hx⟩⟩⟩
    · have : k = c := by omega
      subst this
      have hints : Ints wr (R + 1) 0 (firstLens B p k) := ⟨fun i hi => by
          rw [firstLens_length] at hi
          rw [firstLens_get _ _ _ _ hi, Nat.zero_add]
          exact hra.cell i hi, firstLens_le B p k, by rw [firstLens_length]; omega⟩
      have HI := hide hints
      have HRT := hide hrt
      have HFED := hide hfed
      have h1f : ∀ w3, Step (fun _ => False) wr w3 → Fed f w w3 (p + 3 * k) := fun w3 hs3 => (unhide HFED).trans ⟨hs3.mono (fun _ x => x.elim), fun s x z' t hx => by
            have h9 := (unhide HFED).feed _ _ _ _ (unhide HF)
            rw [h9] at hx
            cases hx
            exact hs3.at_ h9 (fun x => x)⟩
      have H1F := hide h1f
      clear hints hrt hfed hra h1f
      go_wp2_with fail
      by_cases hmay : mayB (firstLens B p k) = true
      · have hdl := dealUp_ok (R + 1) 0 19 (firstLens B p k) wr (unhide HI) hmay
        rw [firstLens_length] at hdl
        refine hdl.mono ?_
        clear hdl
        rintro e w3 ⟨mb, rfl, hmb, htab, hs3⟩
        obtain ⟨r0, r1, rf0, rf1⟩ := blk_two (hs3.at_ (unhide HRT) (fun x => x))
        have hRl := lt_of_block (unhide HRT)
        have HT := hide htab
        have HS3 := hide hs3
        clear htab hs3
        go_wp2_with fail
        refine bodyPost_ret (v := .tuple #[.agg #[.map (some mb), .int .i64 ((dealAll (firstLens B p k)).longest : Nat)], .int .i64 0]) (by simp [results, Tryz.results212, go_sem, r0, r1]) rfl (.inl ⟨hpk, ?_⟩)
        unfold TabP
        rw [if_pos hmay]
        refine ⟨mb, rfl, ?_, ?_, ?_⟩
        · have := (unhide HFED).step.size; omega
        · exact (unhide HT).of ((Below.heap_setCell _ _ _ _ (by simp; omega)).trans (Below.heap_setCell _ _ _ _ (by simp; omega)))
        · have h2 := unhide H1F _ (unhide HS3)
          exact ⟨(h2.step.setNew (by simpa using hRw) _).setNew (by simpa using hRw) _, fun s x z' t hx => (Below.heap_setCell _ _ _ _ (fun e => hRf e.symm)).trans ((Below.heap_setCell _ _ _ _ (fun e => hRf e.symm)).trans (h2.feed s x z' t hx))⟩
      · have hdl := dealUp_no (R + 1) 0 19 (firstLens B p k) wr (unhide HI) (by simpa using hmay)
        rw [firstLens_length] at hdl
        refine hdl.mono ?_
        clear hdl
        rintro e w3 ⟨rfl, hs3⟩
        obtain ⟨r0, r1, rf0, rf1⟩ := blk_two (hs3.at_ (unhide HRT) (fun x => x))
        have HS3 := hide hs3
        clear hs3
        go_wp2_with fail
        refine bodyPost_ret (v := .tuple #[.agg #[.map none, .int .i64 0], .int .i64 7]) (by simp [results, Tryz.results212, go_sem, r0, r1]) rfl (.inl ⟨hpk, ?_⟩)
        unfold TabP
        rw [if_neg hmay]
        refine ⟨rfl, p + 3 * k, ?_⟩
        have h2 := unhide H1F _ (unhide HS3)
        exact ⟨(h2.step.setNew (by simpa using hRw) _).setNew (by simpa using hRw) _, fun s x z' t hx => (Below.heap_setCell _ _ _ _ (fun e => hRf e.symm)).trans ((Below.heap_setCell _ _ _ _ (fun e => hRf e.symm)).trans (h2.feed s x z' t hx))⟩
end Go.Proofs.YtbpahojchgpdnaaGreatDoor
