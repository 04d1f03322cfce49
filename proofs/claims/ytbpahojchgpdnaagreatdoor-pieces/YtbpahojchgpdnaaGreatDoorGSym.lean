/- Proved here: what symbol does, whatever the bits are, by what copyBack does. -/
import Derived.Test.YtbpahojchgpdnaaGreatDoorKept
set_option maxRecDepth 20000
set_option maxHeartbeats 4000000
namespace Go.Proofs.YtbpahojchgpdnaaGreatDoor
open Go.RowKit Go.Bel Go.Maps
theorem rSymF_code (D : Dealt) (B : List Nat) (p : Nat) : ∀ r j s q, (∀ i, 1 ≤ i → i ≤ j → D.tab (keyAt B p i) = none) → rSymF D B p r j = .ok s q → ∀ i, 1 ≤ i → i < q - p → D.tab (keyAt B p i) = none := by
 intro r
 induction r with
 | zero => intro j s q _ h; simp [rSymF] at h
 | succ r ih =>
  intro j s q hno h
  rw [rSymF] at h
  split at h
  ·split at h
   ·simp only [R.ok.injEq] at h
    obtain ⟨_, rfl⟩ := h
    intro i h1 h2
    exact hno i h1 (by omega)
   ·rename_i hn
    refine ih (j + 1) s q (fun i h1 h2 => ?_) h
    by_cases hi : i = j + 1
    ·rw [hi]; exact hn
    ·exact hno i h1 (by omega)
  ·simp at h
theorem rSym_code {D : Dealt} {B : List Nat} {p s q : Nat} (h : rSym D B p = .ok s q) : CodeAt D.longest D.tab B p q s := by
 have h1 := rSym_ok h
 exact ⟨h1.1, by omega, h1.2.1, h1.2.2.2, rSymF_code D B p _ 0 s q (fun i h1 h2 => by omega) h⟩
theorem symbol_no (d f base g off cap z p mb : Nat) (D : Dealt) (B : List Nat) (st : DSt) (w : World) (h : OnD w d f base g off cap z B st p) (hsm : st.sm = .map (some mb)) (hsl : st.sl = D.longest) (ht : TabAt w mb D.tab) (hmf : mb ≠ f) (hl : D.longest ≤ 15) (hp : p ≤ 8 * B.length) (hr : rSym D B p = .no 9) :
  Calls Tryz.prog 174 #[.pointer (some ⟨d, 0, none⟩)] w
   fun e w' => e = .returned (.int .i64 9) ∧ ∃ q, OnD w' d f base g off cap z B st q ∧ Dst d f w st.v w' st.v := by
 obtain ⟨c0, _, _, c3, c4, c5, c6, c7, _⟩ := h.dec.cell
 rw [hsm] at c6
 rw [hsl] at c7
 have hread := read_any f g off cap z p mb D B w.drew h.feed (h.src.step ((Step.refl (fun _ => False) w).drew) (fun x => x)) h.goff.f (ht.of rfl) hmf hl hp
 rw [hr] at hread
 have HRD := hide hread
 have HH := hide h
 clear h hread hsm hsl hr ht
 go_enter Tryz.func174, Tryz.ntmps174
 go_wp2_with fail
 go_region_held3 (fun w' => w'.cell? ⟨d, 0, none⟩ = some (.pointer (some ⟨f, 0, none⟩)) ∧ w'.cell? ⟨d, 7, none⟩ = some (.map (some mb)) ∧ w'.cell? ⟨d, 8, none⟩ = some (.int .i64 (D.longest : Nat))) (go_keep)
  (first | (go_at_call 191; refine (unhide HRD).mono ?_; rintro e w1 ⟨rfl, q, hfed⟩; have k0 := hfed.step.cell (p := ⟨d, 0, none⟩) c0 (unhide HH).dec.ne; have k6 := hfed.step.cell (p := ⟨d, 7, none⟩) c6 (unhide HH).dec.ne; have k7 := hfed.step.cell (p := ⟨d, 8, none⟩) c7 (unhide HH).dec.ne))
 have h1 := ((unhide HH).step0 ((Step.refl (fun _ => False) w).drew)).fed hfed
 have hd1 : Dst d f w st.v w1 st.v := (Dst.step0 ((Step.refl (fun _ => False) w).drew)).trans (Dst.fed hfed)
 clear hfed k0 k6 k7
 have H1 := hide h1
 have HD1 := hide hd1
 clear h1 hd1
 go_wp2_with fail
 go_ret
 exact ⟨rfl, _, unhide H1, unhide HD1⟩
theorem symbol_miss (d f base g off cap z p mb : Nat) (D : Dealt) (B : List Nat) (st : DSt) (w : World) (h : OnD w d f base g off cap z B st p) (hsm : st.sm = .map (some mb)) (hsl : st.sl = D.longest) (ht : TabAt w mb D.tab) (hmf : mb ≠ f) (hl : D.longest ≤ 15) (hp : p ≤ 8 * B.length) (hr : rSym D B p = .miss) :
  Calls Tryz.prog 174 #[.pointer (some ⟨d, 0, none⟩)] w
   fun e w' => e = lost ∧ ∃ q, OnD w' d f base g off cap z B st q ∧ Dst d f w st.v w' st.v := by
 obtain ⟨c0, _, _, c3, c4, c5, c6, c7, _⟩ := h.dec.cell
 rw [hsm] at c6
 rw [hsl] at c7
 have hread := read_any f g off cap z p mb D B w.drew h.feed (h.src.step ((Step.refl (fun _ => False) w).drew) (fun x => x)) h.goff.f (ht.of rfl) hmf hl hp
 rw [hr] at hread
 have HRD := hide hread
 have HH := hide h
 clear h hread hsm hsl hr ht
 go_enter Tryz.func174, Tryz.ntmps174
 go_wp2_with fail
 go_region_dies
 all_goals
  refine (unhide HRD).mono ?_
  rintro e w1 ⟨rfl, q, hfed⟩
  exact ⟨rfl, rfl, q, ((unhide HH).step0 ((Step.refl (fun _ => False) w).drew)).fed hfed, (Dst.step0 ((Step.refl (fun _ => False) w).drew)).trans (Dst.fed hfed)⟩
theorem symbol_copy (d f base g off cap z p mb c q : Nat) (D : Dealt) (B : List Nat) (st : DSt) (w : World) (Q : Ending → World → Prop) (h : OnD w d f base g off cap z B st p) (hsm : st.sm = .map (some mb)) (hsl : st.sl = D.longest) (ht : TabAt w mb D.tab) (hmf : mb ≠ f) (hl : D.longest ≤ 15) (hp : p ≤ 8 * B.length) (hr : rSym D B p = .ok c q) (hc : 256 < c) (hc2 : c < 100000)
  (hcopy : ∀ w1, OnD w1 d f base g off cap z B st q → Dst d f w st.v w1 st.v → Calls Tryz.prog 192 #[.pointer (some ⟨d, 0, none⟩), .int .i64 (c : Nat)] w1 fun e w' => ((∃ x : Nat, e = .returned (.int .i64 (x : Nat))) ∨ e = lost) ∧ Q e w') :
  Calls Tryz.prog 174 #[.pointer (some ⟨d, 0, none⟩)] w fun e w' => Q e w' := by
 obtain ⟨c0, _, _, c3, c4, c5, c6, c7, _⟩ := h.dec.cell
 rw [hsm] at c6
 rw [hsl] at c7
 have hread := read_any f g off cap z p mb D B w.drew h.feed (h.src.step ((Step.refl (fun _ => False) w).drew) (fun x => x)) h.goff.f (ht.of rfl) hmf hl hp
 rw [hr] at hread
 have HRD := hide hread
 have HH := hide h
 have HC := hide hcopy
 clear h hread hsm hsl hr ht hcopy
 go_enter Tryz.func174, Tryz.ntmps174
 go_wp2_with fail
 refine wp_region_noPanic ?_
 go_region_held3 (fun w' => w'.cell? ⟨d, 0, none⟩ = some (.pointer (some ⟨f, 0, none⟩)) ∧ w'.cell? ⟨d, 7, none⟩ = some (.map (some mb)) ∧ w'.cell? ⟨d, 8, none⟩ = some (.int .i64 (D.longest : Nat))) (go_keep)
  (first | (go_at_call 191; refine (unhide HRD).mono ?_; rintro e w1 ⟨rfl, hfed⟩; have k0 := hfed.step.cell (p := ⟨d, 0, none⟩) c0 (unhide HH).dec.ne; have k6 := hfed.step.cell (p := ⟨d, 7, none⟩) c6 (unhide HH).dec.ne; have k7 := hfed.step.cell (p := ⟨d, 8, none⟩) c7 (unhide HH).dec.ne))
 refine NoPanic.normal ?_
 have h1 := ((unhide HH).step0 ((Step.refl (fun _ => False) w).drew)).fed hfed
 have hd1 : Dst d f w st.v w1 st.v := (Dst.step0 ((Step.refl (fun _ => False) w).drew)).trans (Dst.fed hfed)
 clear hfed k0 k6 k7
 have HCC := hide (unhide HC w1 h1 hd1)
 clear h1 hd1 HC
 have hc6 : ((c : Int) == 256) = false := beq_eq_false_iff_ne.2 (by omega)
 have hc7 : ¬ (c : Int) < 256 := by omega
 go_wp2_with fail
 refine (unhide HCC).mono ?_
 rintro e w3 ⟨⟨x, rfl⟩ | rfl, hq⟩
 ·have HQ := hide hq
  clear hq
  go_wp2_with fail
  exact unhide HQ
 ·have HQ := hide hq
  clear hq
  go_wp2_with fail
  exact ⟨rfl, unhide HQ⟩
end Go.Proofs.YtbpahojchgpdnaaGreatDoor
