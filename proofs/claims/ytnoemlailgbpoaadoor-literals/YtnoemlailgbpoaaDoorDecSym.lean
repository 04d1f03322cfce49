/- Proved here: what the decoder's symbol does where the bits are a byte's code, or the end's. -/
import Derived.Test.YtnoemlailgbpoaaDoorDecEnd
import Derived.Test.YtnoemlailgbpoaaDoorCodesDeal2
import Derived.Deep.RegionHeld3
namespace Go.Proofs.YtnoemlailgbpoaaDoor
open Go.RowKit Go.Bel Go.Maps

/- from bit p on stands the code of symbol s, of k bits, of the table at block mb -/
structure Code1 (w : World) (f mb longest : Nat) (M : Tab) (B : List Nat) (p k s : Nat) : Prop where
  tab : TabAt w mb M
  ne : mb ≠ f
  one : 1 ≤ k
  le : k ≤ longest
  most : longest ≤ 15
  there : p + k ≤ 8 * B.length
  is : M (keyAt B p k) = some s
  no : ∀ j, 1 ≤ j → j < k → M (keyAt B p j) = none

theorem read1 (f g off cap p k mb longest s : Nat) (M : Tab) (B : List Nat) (w : World)
    (hF : w.heap[f]? = some (.cells #[.slice (some ⟨g, off, none⟩) B.length cap, .int .i64 (p : Nat)] 86 (0, 0))) (hS : Src w g off B) (hgf : g ≠ f) (h : Code1 w f mb longest M B p k s) (hs : s < 100000) :
    Calls Tryd.prog 74 #[.agg #[.map (some mb), .int .i64 (longest : Nat)], .pointer (some ⟨f, 0, none⟩)] w
      fun e w' => e = .returned (.tuple #[.int .i64 (s : Nat), .int .i64 0]) ∧ Fed f w w' (p + k) :=
  read_ok f g off cap p k mb longest s M B w hF hS hgf h.tab h.ne h.one h.le h.most h.there h.is h.no hs

set_option maxRecDepth 20000 in
set_option maxHeartbeats 1000000 in
theorem symbol_room (d f base g off cap p k mb c : Nat) (M : Tab) (B : List Nat) (st : DSt) (w : World) (h : OnD w d f base g off cap B st p) (hsm : st.sm = .map (some mb)) (hcode : Code1 w f mb st.sl M B p k c) (hc : c ≤ 256) (hm : st.most ≤ 1048576) (hr : st.out.length < st.most) (hc2 : c < 256) :
    Calls Tryd.prog 56 #[.pointer (some ⟨d, 0, none⟩)] w
      fun e w' => e = .returned (.int .i64 0) ∧ ∃ v', OnD w' d f base g off cap B { st with v := v', out := st.out ++ [c] } (p + k) ∧ Dst d f w st.v w' v' := by
  obtain ⟨c0, _, _, c3, c4, c5, c6, c7, _⟩ := h.dec.cell
  rw [hsm] at c6
  have hread := read1 f g off cap p k mb st.sl c M B w.drew h.feed (h.src.step ((Step.refl (fun _ => False) w).drew) (fun x => x)) h.goff.f ⟨hcode.tab.of rfl, hcode.ne, hcode.one, hcode.le, hcode.most, hcode.there, hcode.is, hcode.no⟩ (by omega)
  have HRD := hide hread
  have HH := hide h
  have HR := hide hr
  clear h hr hread hcode hsm
  go_enter Tryd.func56, Tryd.ntmps56
  go_wp2_with fail
  go_region_held3 (fun w' => w'.cell? ⟨d, 0, none⟩ = some (.pointer (some ⟨f, 0, none⟩)) ∧ w'.cell? ⟨d, 6, none⟩ = some (.map (some mb)) ∧ w'.cell? ⟨d, 7, none⟩ = some (.int .i64 (st.sl : Nat))) (go_keep)
    (first | (go_at_call 74; refine (unhide HRD).mono ?_; rintro e w1 ⟨rfl, hfed⟩; have k0 := hfed.step.cell (p := ⟨d, 0, none⟩) c0 (unhide HH).dec.ne; have k6 := hfed.step.cell (p := ⟨d, 6, none⟩) c6 (unhide HH).dec.ne; have k7 := hfed.step.cell (p := ⟨d, 7, none⟩) c7 (unhide HH).dec.ne))
  have h1 := ((unhide HH).step0 ((Step.refl (fun _ => False) w).drew)).fed hfed
  have hd1 : Dst d f w st.v w1 st.v := (Dst.step0 ((Step.refl (fun _ => False) w).drew)).trans (Dst.fed hfed)
  clear hfed k0 k6 k7
  have H1 := hide h1
  have HD1 := hide hd1
  clear h1 hd1
  go_wp2_with fail
  have h2 : OnD (w1.alloc (.cells #[.int .u8 (c : Nat)] 5)) d f base g off cap B st (p + k) := (unhide H1).step0 ((Step.refl _ _).alloc _)
  have hcq : (w1.alloc (.cells #[.int .u8 (c : Nat)] 5)).cell? ⟨w1.heap.size, 0, none⟩ = some (.int .u8 (c : Nat)) := cell_of_one (heap_alloc_new _ _)
  have hd2 := (unhide HD1).alloc (.cells #[.int .u8 (c : Nat)] 5)
  generalize w1.alloc (.cells #[.int .u8 (c : Nat)] 5) = w2 at *
  refine (put1_ok d f base c 1 w1.heap.size _ w2 h2.dec hcq (unhide HR) hm).mono ?_
  rintro e w3 ⟨rfl, v', h3, hw3⟩
  have H4 := hide (h2.put h3 hw3)
  have H5 := hide (hd2.trans (Dst.of_wrt hw3))
  clear h3 hw3 h2 hd2 hcq
  go_wp2_with fail
  go_ret
  exact ⟨rfl, v', unhide H4, unhide H5⟩

set_option maxRecDepth 20000 in
set_option maxHeartbeats 1000000 in
theorem symbol_full (d f base g off cap p k mb c : Nat) (M : Tab) (B : List Nat) (st : DSt) (w : World) (h : OnD w d f base g off cap B st p) (hsm : st.sm = .map (some mb)) (hcode : Code1 w f mb st.sl M B p k c) (hc : c ≤ 256) (hm : st.most ≤ 1048576) (hr : st.out.length = st.most) (hc2 : c < 256) :
    Calls Tryd.prog 56 #[.pointer (some ⟨d, 0, none⟩)] w
      fun e w' => e = .returned (.int .i64 11) ∧ OnD w' d f base g off cap B st (p + k) ∧ Dst d f w st.v w' st.v := by
  obtain ⟨c0, _, _, c3, c4, c5, c6, c7, _⟩ := h.dec.cell
  rw [hsm] at c6
  have hread := read1 f g off cap p k mb st.sl c M B w.drew h.feed (h.src.step ((Step.refl (fun _ => False) w).drew) (fun x => x)) h.goff.f ⟨hcode.tab.of rfl, hcode.ne, hcode.one, hcode.le, hcode.most, hcode.there, hcode.is, hcode.no⟩ (by omega)
  have HRD := hide hread
  have HH := hide h
  have HR := hide hr
  clear h hr hread hcode hsm
  go_enter Tryd.func56, Tryd.ntmps56
  go_wp2_with fail
  go_region_held3 (fun w' => w'.cell? ⟨d, 0, none⟩ = some (.pointer (some ⟨f, 0, none⟩)) ∧ w'.cell? ⟨d, 6, none⟩ = some (.map (some mb)) ∧ w'.cell? ⟨d, 7, none⟩ = some (.int .i64 (st.sl : Nat))) (go_keep)
    (first | (go_at_call 74; refine (unhide HRD).mono ?_; rintro e w1 ⟨rfl, hfed⟩; have k0 := hfed.step.cell (p := ⟨d, 0, none⟩) c0 (unhide HH).dec.ne; have k6 := hfed.step.cell (p := ⟨d, 6, none⟩) c6 (unhide HH).dec.ne; have k7 := hfed.step.cell (p := ⟨d, 7, none⟩) c7 (unhide HH).dec.ne))
  have h1 := ((unhide HH).step0 ((Step.refl (fun _ => False) w).drew)).fed hfed
  have hd1 : Dst d f w st.v w1 st.v := (Dst.step0 ((Step.refl (fun _ => False) w).drew)).trans (Dst.fed hfed)
  clear hfed k0 k6 k7
  have H1 := hide h1
  have HD1 := hide hd1
  clear h1 hd1
  go_wp2_with fail
  have h2 : OnD (w1.alloc (.cells #[.int .u8 (c : Nat)] 5)) d f base g off cap B st (p + k) := (unhide H1).step0 ((Step.refl _ _).alloc _)
  have hcq : (w1.alloc (.cells #[.int .u8 (c : Nat)] 5)).cell? ⟨w1.heap.size, 0, none⟩ = some (.int .u8 (c : Nat)) := cell_of_one (heap_alloc_new _ _)
  have hd2 := (unhide HD1).alloc (.cells #[.int .u8 (c : Nat)] 5)
  generalize w1.alloc (.cells #[.int .u8 (c : Nat)] 5) = w2 at *
  refine (put1_much d f base c 1 w1.heap.size _ w2 h2.dec hcq (unhide HR) hm (by omega) (by omega)).mono ?_
  rintro e w3 ⟨rfl, h3, hw3⟩
  have H4 := hide (h2.put h3 hw3)
  have H5 := hide (hd2.trans (Dst.of_wrt hw3))
  clear h3 hw3 h2 hd2 hcq
  go_wp2_with fail
  go_ret
  exact ⟨rfl, unhide H4, unhide H5⟩

set_option maxRecDepth 20000 in
set_option maxHeartbeats 1000000 in
theorem symbol_end (d f base g off cap p k mb c : Nat) (M : Tab) (B : List Nat) (st : DSt) (w : World) (h : OnD w d f base g off cap B st p) (hsm : st.sm = .map (some mb)) (hcode : Code1 w f mb st.sl M B p k c) (_hc : c ≤ 256) (_hm : st.most ≤ 1048576) (hr : c = 256) :
    Calls Tryd.prog 56 #[.pointer (some ⟨d, 0, none⟩)] w
      fun e w' => e = .returned (.int .i64 0) ∧ OnD w' d f base g off cap B st.ended (endPos st (p + k)) ∧ Dst d f w st.v w' st.v := by
  obtain ⟨c0, _, _, c3, c4, c5, c6, c7, _⟩ := h.dec.cell
  rw [hsm] at c6
  have hread := read1 f g off cap p k mb st.sl c M B w.drew h.feed (h.src.step ((Step.refl (fun _ => False) w).drew) (fun x => x)) h.goff.f ⟨hcode.tab.of rfl, hcode.ne, hcode.one, hcode.le, hcode.most, hcode.there, hcode.is, hcode.no⟩ (by omega)
  have hcp : p + k ≤ 8 * B.length := hcode.there
  have hmu := h.src.much
  have HRD := hide hread
  have HH := hide h
  have HR := hide hr
  clear h hr hread hcode hsm
  go_enter Tryd.func56, Tryd.ntmps56
  go_wp2_with fail
  go_region_held3 (fun w' => w'.cell? ⟨d, 0, none⟩ = some (.pointer (some ⟨f, 0, none⟩)) ∧ w'.cell? ⟨d, 6, none⟩ = some (.map (some mb)) ∧ w'.cell? ⟨d, 7, none⟩ = some (.int .i64 (st.sl : Nat))) (go_keep)
    (first | (go_at_call 74; refine (unhide HRD).mono ?_; rintro e w1 ⟨rfl, hfed⟩; have k0 := hfed.step.cell (p := ⟨d, 0, none⟩) c0 (unhide HH).dec.ne; have k6 := hfed.step.cell (p := ⟨d, 6, none⟩) c6 (unhide HH).dec.ne; have k7 := hfed.step.cell (p := ⟨d, 7, none⟩) c7 (unhide HH).dec.ne))
  have hpk := hcp
  have h1 := ((unhide HH).step0 ((Step.refl (fun _ => False) w).drew)).fed hfed
  have hd1 : Dst d f w st.v w1 st.v := (Dst.step0 ((Step.refl (fun _ => False) w).drew)).trans (Dst.fed hfed)
  clear hfed k0 k6 k7
  have H1 := hide h1
  have HD1 := hide hd1
  clear h1 hd1
  have hc6 : ((c : Int) == 256) = true := beq_iff_eq.2 (by have := unhide HR; omega)
  have hc7 : ¬ (c : Int) < 256 := by have := unhide HR; omega
  go_wp2_with fail
  refine (endBlock_any d f base g off cap (p + k) B st w1 (unhide H1) (by omega)).mono ?_
  rintro e w3 ⟨rfl, h3, hw3⟩
  have H4 := hide h3
  have H5 := hide ((unhide HD1).trans hw3)
  clear h3 hw3
  go_wp2_with fail
  go_ret
  exact ⟨rfl, unhide H4, unhide H5⟩
end Go.Proofs.YtnoemlailgbpoaaDoor
