/- Proved here: what the decoder's toldHead, and head at blocks of types 0 and 2, do where the bits are there. -/
import Derived.Test.YtnoemlailgbpoaaDoorCoding
namespace Go.Proofs.YtnoemlailgbpoaaDoor
open Go.RowKit Go.Bel Go.Maps

/- what the bits from p on must be for a head of type 2 with all lengths told one by one -/
structure ToldAt (B : List Nat) (p : Nat) (pos : Nat → Nat) (L : List Nat) : Prop where
  there : p + 71 ≤ 8 * B.length
  n1 : numAt B p 5 = 0
  n2 : numAt B (p + 5) 5 = 0
  n3 : numAt B (p + 10) 4 = 15
  may1 : mayB (firstLens B (p + 14) 19) = true
  pos0 : pos 0 = p + 71
  len : L.length = 258
  lt : ∀ i : Nat, L[i]?.getD 0 < 16
  code : ∀ i, i < 258 → CodeAt (dealAll (firstLens B (p + 14) 19)).longest (dealAll (firstLens B (p + 14) 19)).tab B (pos i) (pos (i + 1)) (L[i]?.getD 0)
  end_ : 0 < (L.take 257)[256]?.getD 0
  may : mayB (L.take 257) = true
  none_ : cntTo (L.drop 257) (L.drop 257).length = 0

set_option maxRecDepth 20000 in
set_option maxHeartbeats 2000000 in
theorem toldHead_plain (d f base g off cap p : Nat) (pos : Nat → Nat) (L B : List Nat) (st : DSt) (w : World) (h : OnD w d f base g off cap B st p) (hO : OrderAt w) (h0f : 0 ≠ f) (ht : ToldAt B p pos L) (hsm : ∃ x, st.sm = .map x) (hdm : ∃ x, st.dm = .map x) :
    Calls Tryd.prog 79 #[.pointer (some ⟨d, 0, none⟩)] w
      fun e w' => ∃ mb, e = .returned (.int .i64 0) ∧ w.heap.size ≤ mb ∧ TabAt w' mb (dealAll (L.take 257)).tab ∧ OnD w' d f base g off cap B { st with sm := .map (some mb), sl := (dealAll (L.take 257)).longest, dm := .map none, dl := 0, place := 2 } (pos 258) ∧ Dst d f w st.v w' st.v := by
  obtain ⟨c0, _⟩ := h.dec.cell
  obtain ⟨x1, hx1⟩ := hsm
  obtain ⟨x2, hx2⟩ := hdm
  have HH := hide h
  have HX1 := hide hx1
  have HX2 := hide hx2
  have HT := hide ht
  clear h ht hx1 hx2
  go_enter Tryd.func79, Tryd.ntmps79
  go_wp2_with fail
  refine (readCoding_plain f g off cap p pos L B w (unhide HH).feed (unhide HH).src (unhide HH).goff.f hO h0f (unhide HT).there (unhide HT).n1 (unhide HT).n2 (unhide HT).n3 (unhide HT).may1 (unhide HT).pos0 (unhide HT).len (unhide HT).lt (unhide HT).code (unhide HT).end_ (unhide HT).may (unhide HT).none_).mono ?_
  rintro e w1 ⟨mb, rfl, hmb, htab, hfed⟩
  obtain ⟨lg, hlg⟩ : ∃ lg, lg = (dealAll (L.take 257)).longest := ⟨_, rfl⟩
  rw [← hlg]
  have h1 := (unhide HH).fed hfed
  obtain ⟨_, _, _, k3, _, _, k6, k7, k8, k9, _⟩ := h1.dec.cell
  rw [unhide HX1] at k6
  rw [unhide HX2] at k8
  have f3 := h1.dec.free 3
  have f6 := h1.dec.free 6
  have f7 := h1.dec.free 7
  have f8 := h1.dec.free 8
  have f9 := h1.dec.free 9
  have hdl := lt_of_block h1.dec.blk
  have hmblt := htab.lt
  have HF := hide hfed
  have H1 := hide h1
  have HTB := hide htab
  have HLG := hide hlg
  have hne : ¬ w1.heap.size = d := by omega
  have hdw := lt_of_block (unhide HH).dec.blk
  have hmd : ¬ mb = d := by omega
  clear h1 hfed htab hlg
  go_wp2_with fail
  go_ret
  refine ⟨mb, rfl, hmb, ?_, ?_, ?_⟩
  · exact ((((((unhide HTB).of (Below.heap_setCell _ _ _ _ hmd)).of (Below.heap_setCell _ _ _ _ hmd)).of (Below.heap_setCell _ _ _ _ hmd)).of (Below.heap_setCell _ _ _ _ hmd)).of (Below.heap_setCell _ _ _ _ hmd)).step ((Step.refl (fun _ => False) _).alloc _) (fun x => x)
  · rw [← unhide HLG]
    have a1 := (unhide H1).set (st' := { st with sm := .map (some mb) }) 6 (.map (some mb)) (by simp [DSt.cells]) rfl rfl
    have a2 := a1.set (st' := { st with sm := .map (some mb), sl := lg }) 7 (.int .i64 (lg : Nat)) (by simp [DSt.cells]) rfl rfl
    have a3 := a2.set (st' := { st with sm := .map (some mb), sl := lg, dm := .map none }) 8 (.map none) (by simp [DSt.cells]) rfl rfl
    have a4 := a3.set (st' := { st with sm := .map (some mb), sl := lg, dm := .map none, dl := 0 }) 9 (.int .i64 0) (by simp [DSt.cells]) rfl rfl
    have a5 := a4.set (st' := { st with sm := .map (some mb), sl := lg, dm := .map none, dl := 0, place := 2 }) 3 (.int .i64 2) (by simp [DSt.cells]) rfl rfl
    exact a5.step0 ((Step.refl (fun _ => False) _).alloc _)
  · exact ((((((Dst.fed (unhide HF)).trans (Dst.setCell d f _ st.v 6 _)).trans (Dst.setCell d f _ st.v 7 _)).trans (Dst.setCell d f _ st.v 8 _)).trans (Dst.setCell d f _ st.v 9 _)).trans (Dst.setCell d f _ st.v 3 _)).alloc _

/- a head's three bits: is it the last block; its type -/
structure HeadAt (B : List Nat) (p : Nat) (last : Bool) (kind : Nat) : Prop where
  there : p + 3 ≤ 8 * B.length
  last_ : bitAt B p = last.toNat
  kind_ : numAt B (p + 1) 2 = kind

theorem onSetLast {w : World} {d f base g off cap p : Nat} {B : List Nat} {st : DSt} {b : Bool} (h : OnD w d f base g off cap B st p) : OnD (w.setCell ⟨d, 4, none⟩ (.bool b)) d f base g off cap B { st with last := b } p :=
  h.set 4 _ (by simp [DSt.cells]) rfl rfl

set_option maxRecDepth 20000 in
set_option maxHeartbeats 2000000 in
theorem head_stored (d f base g off cap p q n : Nat) (last : Bool) (B : List Nat) (st : DSt) (w : World) (h : OnD w d f base g off cap B st p) (hh : HeadAt B p last 0) (hq : q = (p + 3 + 7) / 8 * 8) (hp : q + 32 ≤ 8 * B.length) (hn : numAt B q 16 = n) (hm : numAt B (q + 16) 16 = 65535 - n) (hn2 : n ≤ 65535) :
    Calls Tryd.prog 57 #[.pointer (some ⟨d, 0, none⟩)] w
      fun e w' => e = .returned (.int .i64 0) ∧ OnD w' d f base g off cap B { st with last := last, left := n, place := 1 } (q + 32) ∧ Dst d f w st.v w' st.v := by
  have HQ := hide hq
  have HN := hide hn
  have HM := hide hm
  clear hq hn hm
  obtain ⟨c0, _⟩ := h.dec.cell
  have hth := hh.there
  have HH := hide h
  have HHD := hide hh
  clear h hh
  go_enter Tryd.func57, Tryd.ntmps57
  go_wp2_with fail
  refine (feedBit_ok f g off cap p B w (unhide HH).feed (unhide HH).src (by omega)).mono ?_
  rintro e w1 ⟨rfl, hf1⟩
  rw [(unhide HHD).last_]
  have h1 := (unhide HH).fed hf1
  obtain ⟨_, _, _, _, k4, _⟩ := h1.dec.cell
  have kf4 := h1.dec.free 4
  have HF1 := hide hf1
  have H1 := hide h1
  clear h1 hf1
  have hbt : ((last.toNat : Int) == 1) = last := by cases last <;> rfl
  go_wp2_with fail
  have h2 : OnD (w1.setCell ⟨d, 4, none⟩ (.bool last)) d f base g off cap B { st with last := last } (p + 1) := onSetLast (unhide H1)
  have hd2 : Dst d f w st.v (w1.setCell ⟨d, 4, none⟩ (.bool last)) st.v := (Dst.fed (unhide HF1)).trans (Dst.setCell d f w1 st.v 4 _)
  generalize w1.setCell ⟨d, 4, none⟩ (.bool last) = w2 at *
  refine (feedNum_ok f g off cap (p + 1) 2 B w2 h2.feed h2.src h2.goff.f (by omega) (by omega)).mono ?_
  rintro e w3 ⟨rfl, hf3⟩
  rw [(unhide HHD).kind_]
  have h3 := h2.fed hf3
  have hd3 := hd2.trans (Dst.fed hf3)
  have H3 := hide h3
  have HD3 := hide hd3
  clear h2 hd2 h3 hd3 hf3 hbt
  go_wp2_with fail
  refine (storedHead_ok d f base g off cap (p + 1 + 2) q n B _ w3 (unhide H3) (unhide HQ) hp (unhide HN) (unhide HM) hn2).mono ?_
  rintro e w4 ⟨rfl, h4, hd4⟩
  have H4 := hide h4
  have HD4 := hide ((unhide HD3).trans hd4)
  clear h4 hd4
  go_wp2_with fail
  go_ret
  exact ⟨rfl, unhide H4, unhide HD4⟩

set_option maxRecDepth 20000 in
set_option maxHeartbeats 2000000 in
theorem head_told (d f base g off cap p : Nat) (last : Bool) (pos : Nat → Nat) (L B : List Nat) (st : DSt) (w : World) (h : OnD w d f base g off cap B st p) (hh : HeadAt B p last 2) (hO : OrderAt w) (h0f : 0 ≠ f) (h0 : DOff d f st.v 0) (ht : ToldAt B (p + 3) pos L) (hsm : ∃ x, st.sm = .map x) (hdm : ∃ x, st.dm = .map x) :
    Calls Tryd.prog 57 #[.pointer (some ⟨d, 0, none⟩)] w
      fun e w' => ∃ mb, e = .returned (.int .i64 0) ∧ w.heap.size ≤ mb ∧ TabAt w' mb (dealAll (L.take 257)).tab ∧ OnD w' d f base g off cap B { st with last := last, sm := .map (some mb), sl := (dealAll (L.take 257)).longest, dm := .map none, dl := 0, place := 2 } (pos 258) ∧ Dst d f w st.v w' st.v := by
  have HT := hide ht
  have HSM := hide hsm
  have HDM := hide hdm
  have HO := hide hO
  clear ht hsm hdm hO
  obtain ⟨c0, _⟩ := h.dec.cell
  have hth := hh.there
  have HH := hide h
  have HHD := hide hh
  clear h hh
  go_enter Tryd.func57, Tryd.ntmps57
  go_wp2_with fail
  refine (feedBit_ok f g off cap p B w (unhide HH).feed (unhide HH).src (by omega)).mono ?_
  rintro e w1 ⟨rfl, hf1⟩
  rw [(unhide HHD).last_]
  have h1 := (unhide HH).fed hf1
  obtain ⟨_, _, _, _, k4, _⟩ := h1.dec.cell
  have kf4 := h1.dec.free 4
  have HF1 := hide hf1
  have H1 := hide h1
  clear h1 hf1
  have hbt : ((last.toNat : Int) == 1) = last := by cases last <;> rfl
  go_wp2_with fail
  have h2 : OnD (w1.setCell ⟨d, 4, none⟩ (.bool last)) d f base g off cap B { st with last := last } (p + 1) := onSetLast (unhide H1)
  have hd2 : Dst d f w st.v (w1.setCell ⟨d, 4, none⟩ (.bool last)) st.v := (Dst.fed (unhide HF1)).trans (Dst.setCell d f w1 st.v 4 _)
  generalize w1.setCell ⟨d, 4, none⟩ (.bool last) = w2 at *
  refine (feedNum_ok f g off cap (p + 1) 2 B w2 h2.feed h2.src h2.goff.f (by omega) (by omega)).mono ?_
  rintro e w3 ⟨rfl, hf3⟩
  rw [(unhide HHD).kind_]
  have h3 := h2.fed hf3
  have hd3 := hd2.trans (Dst.fed hf3)
  have H3 := hide h3
  have HD3 := hide hd3
  clear h2 hd2 h3 hd3 hf3 hbt
  go_wp2_with fail
  refine (toldHead_plain d f base g off cap (p + 1 + 2) pos L B _ w3 (unhide H3) ((unhide HO).step (unhide HD3).step h0.not) h0f (unhide HT) (unhide HSM) (unhide HDM)).mono ?_
  rintro e w4 ⟨mb, rfl, hmb, htab, h4, hd4⟩
  have H4 := hide h4
  have HT4 := hide htab
  have hsz := (unhide HD3).step.size
  have HD4 := hide ((unhide HD3).trans hd4)
  clear h4 hd4 htab
  go_wp2_with fail
  go_ret
  exact ⟨mb, rfl, by omega, unhide HT4, unhide H4, unhide HD4⟩

set_option maxRecDepth 20000 in
set_option maxHeartbeats 2000000 in
theorem head_fixed (d f base g off cap p : Nat) (last : Bool) (B : List Nat) (st : DSt) (w : World) (h : OnD w d f base g off cap B st p) (hh : HeadAt B p last 1) (Q : Ending → World → Prop)
    (hfix : ∀ w3, OnD w3 d f base g off cap B { st with last := last } (p + 1 + 2) → Dst d f w st.v w3 st.v → Calls Tryd.prog 78 #[.pointer (some ⟨d, 0, none⟩)] w3 fun e w' => e = .returned (.int .i64 0) ∧ Q e w') :
    Calls Tryd.prog 57 #[.pointer (some ⟨d, 0, none⟩)] w fun e w' => e = .returned (.int .i64 0) ∧ Q e w' := by
  have HFX := hide hfix
  clear hfix
  obtain ⟨c0, _⟩ := h.dec.cell
  have hth := hh.there
  have HH := hide h
  have HHD := hide hh
  clear h hh
  go_enter Tryd.func57, Tryd.ntmps57
  go_wp2_with fail
  refine (feedBit_ok f g off cap p B w (unhide HH).feed (unhide HH).src (by omega)).mono ?_
  rintro e w1 ⟨rfl, hf1⟩
  rw [(unhide HHD).last_]
  have h1 := (unhide HH).fed hf1
  obtain ⟨_, _, _, _, k4, _⟩ := h1.dec.cell
  have kf4 := h1.dec.free 4
  have HF1 := hide hf1
  have H1 := hide h1
  clear h1 hf1
  have hbt : ((last.toNat : Int) == 1) = last := by cases last <;> rfl
  go_wp2_with fail
  have h2 : OnD (w1.setCell ⟨d, 4, none⟩ (.bool last)) d f base g off cap B { st with last := last } (p + 1) := onSetLast (unhide H1)
  have hd2 : Dst d f w st.v (w1.setCell ⟨d, 4, none⟩ (.bool last)) st.v := (Dst.fed (unhide HF1)).trans (Dst.setCell d f w1 st.v 4 _)
  generalize w1.setCell ⟨d, 4, none⟩ (.bool last) = w2 at *
  refine (feedNum_ok f g off cap (p + 1) 2 B w2 h2.feed h2.src h2.goff.f (by omega) (by omega)).mono ?_
  rintro e w3 ⟨rfl, hf3⟩
  rw [(unhide HHD).kind_]
  have h3 := h2.fed hf3
  have hd3 := hd2.trans (Dst.fed hf3)
  have H3 := hide h3
  have HD3 := hide hd3
  clear h2 hd2 h3 hd3 hf3 hbt
  go_wp2_with fail
  refine (unhide HFX w3 (unhide H3) (unhide HD3)).mono ?_
  rintro e w4 ⟨rfl, hq⟩
  have HQ := hide hq
  clear hq
  go_wp2_with fail
  go_ret
  exact ⟨rfl, unhide HQ⟩
end Go.Proofs.YtnoemlailgbpoaaDoor
