/- Proved here: what the decoder's endBlock, storedByte and storedHead do where the bits are there. -/
import Derived.Test.YtnoemlailgbpoaaDoorDecPut
namespace Go.Proofs.YtnoemlailgbpoaaDoor
open Go.RowKit Go.Bel

def _root_.Go.Bel.DSt.ended (st : DSt) : DSt := { st with place := if st.last then 3 else 0 }
def endPos (st : DSt) (p : Nat) : Nat := if st.last then (p + 7) / 8 * 8 else p

abbrev OnD (w : World) (d f base g off cap : Nat) (B : List Nat) (st : DSt) (p : Nat) : Prop := On w d f base g off cap 97 86 5 B st p

set_option maxRecDepth 20000 in
set_option maxHeartbeats 1000000 in
theorem endBlock_any (d f base g off cap p : Nat) (B : List Nat) (st : DSt) (w : World) (h : OnD w d f base g off cap B st p) (hp : p < 4611686018427387000) :
    Calls Tryd.prog 71 #[.pointer (some ⟨d, 0, none⟩)] w
      fun e w' => e = .returned (.int .i64 0) ∧ OnD w' d f base g off cap B st.ended (endPos st p) ∧ Dst d f w st.v w' st.v := by
  obtain ⟨c0, _, _, c3, c4, _⟩ := h.dec.cell
  have f3 := h.dec.free 3
  have h1 : OnD (w.setCell ⟨d, 3, none⟩ (.int .i64 0)) d f base g off cap B { st with place := 0 } p := h.set 3 _ rfl rfl rfl
  have HH := hide h
  have H1 := hide h1
  clear h h1
  rcases Bool.eq_false_or_eq_true st.last with hl | hl
  · rw [hl] at c4
    have HL := hide hl
    clear hl
    go_enter Tryd.func71, Tryd.ntmps71
    go_wp2_with fail
    refine (feedPass_any f p _ _ (unhide H1).feed (by omega)).mono ?_
    rintro e w1 ⟨rfl, hfed⟩
    have h2 := (unhide H1).fed hfed
    obtain ⟨_, _, _, k3, _⟩ := h2.dec.cell
    have kf3 := h2.dec.free 3
    have H2 := hide h2
    have H3 := hide hfed
    clear h2 hfed
    go_wp2_with fail
    go_ret
    refine ⟨rfl, ?_, ?_⟩
    · rw [DSt.ended, endPos, if_pos (unhide HL), if_pos (unhide HL)]; exact (unhide H2).set 3 _ (by simp [DSt.cells]) rfl rfl
    · exact ((Dst.setCell d f w st.v 3 _).trans (Dst.fed (unhide H3))).trans (Dst.setCell d f w1 st.v 3 _)
  · rw [hl] at c4
    have HL := hide hl
    clear hl
    go_enter Tryd.func71, Tryd.ntmps71
    go_wp2_with fail
    go_ret
    refine ⟨rfl, ?_, Dst.setCell d f w st.v 3 _⟩
    have hl : ¬ st.last = true := by rw [unhide HL]; simp
    rw [DSt.ended, endPos, if_neg hl, if_neg hl]
    exact unhide H1

set_option maxRecDepth 20000 in
set_option maxHeartbeats 1000000 in
theorem storedByte_end (d f base g off cap p : Nat) (B : List Nat) (st : DSt) (w : World) (h : OnD w d f base g off cap B st p) (hp : p < 4611686018427387000) (h0 : st.left = 0) :
    Calls Tryd.prog 55 #[.pointer (some ⟨d, 0, none⟩)] w
      fun e w' => e = .returned (.int .i64 0) ∧ OnD w' d f base g off cap B st.ended (endPos st p) ∧ Dst d f w st.v w' st.v := by
  obtain ⟨c0, _, _, c3, c4, c5, _⟩ := h.dec.cell
  rw [h0] at c5
  have HH := hide h
  clear h h0
  go_enter Tryd.func55, Tryd.ntmps55
  go_wp2_with fail
  refine (endBlock_any d f base g off cap p B st w (unhide HH) hp).mono ?_
  rintro e w1 ⟨rfl, h1, h2⟩
  have H1 := hide h1
  have H2 := hide h2
  clear h1 h2
  go_wp2_with fail
  go_ret
  exact ⟨rfl, unhide H1, unhide H2⟩

set_option maxRecDepth 20000 in
set_option maxHeartbeats 1000000 in
theorem storedByte_room (d f base g off cap p : Nat) (B : List Nat) (st : DSt) (w : World) (h : OnD w d f base g off cap B st p) (hp : p + 8 ≤ 8 * B.length) (h0 : 0 < st.left) (hl : st.left ≤ 65535) (hm : st.most ≤ 1048576) (hr : st.out.length < st.most) :
    Calls Tryd.prog 55 #[.pointer (some ⟨d, 0, none⟩)] w
      fun e w' => e = .returned (.int .i64 0) ∧ ∃ v', OnD w' d f base g off cap B { st with v := v', out := st.out ++ [numAt B p 8], left := st.left - 1 } (p + 8) ∧ Dst d f w st.v w' v' := by
  obtain ⟨c0, _, _, c3, c4, c5, _⟩ := h.dec.cell
  have hnum := numAt_lt B p 8
  have HH := hide h
  have HR := hide hr
  clear h hr
  go_enter Tryd.func55, Tryd.ntmps55
  go_wp2_with fail
  refine (feedNum_ok f g off cap p 8 B w (unhide HH).feed (unhide HH).src (unhide HH).goff.f (by omega) hp).mono ?_
  rintro e w1 ⟨rfl, hfed⟩
  have h1 := (unhide HH).fed hfed
  obtain ⟨k0, _, _, k3, k4, k5, _⟩ := h1.dec.cell
  have kf5 := h1.dec.free 5
  have HF := hide hfed
  have H1 := hide h1
  clear hfed h1
  obtain ⟨q, hq⟩ : ∃ q, q = numAt B p 8 := ⟨_, rfl⟩
  rw [← hq] at hnum ⊢
  have HQ := hide hq
  clear hq
  go_wp2_with fail
  have h2 : OnD ((w1.setCell ⟨d, 5, none⟩ (.int .i64 ((st.left : Int) - 1))).alloc (.cells #[.int .u8 (q : Nat)] 5)) d f base g off cap B { st with left := st.left - 1 } (p + 8) := by
    have e : (st.left : Int) - 1 = ((st.left - 1 : Nat) : Int) := by omega
    rw [e]
    exact ((unhide H1).set (st' := { st with left := st.left - 1 }) 5 _ (by simp [DSt.cells]) rfl rfl).step0 ((Step.refl _ _).alloc _)
  have hcq : ((w1.setCell ⟨d, 5, none⟩ (.int .i64 ((st.left : Int) - 1))).alloc (.cells #[.int .u8 (q : Nat)] 5)).cell? ⟨w1.heap.size, 0, none⟩ = some (.int .u8 (q : Nat)) := by
    have := heap_alloc_new (w1.setCell ⟨d, 5, none⟩ (.int .i64 ((st.left : Int) - 1))) (.cells #[.int .u8 (q : Nat)] 5)
    have e : (w1.setCell ⟨d, 5, none⟩ (.int .i64 ((st.left : Int) - 1))).heap.size = w1.heap.size := by simp [World.setCell]
    rw [e] at this
    exact cell_of_one this
  have hd2 : Dst d f w st.v ((w1.setCell ⟨d, 5, none⟩ (.int .i64 ((st.left : Int) - 1))).alloc (.cells #[.int .u8 (q : Nat)] 5)) st.v :=
    ((Dst.fed (unhide HF)).trans (Dst.setCell d f w1 st.v 5 _)).alloc _
  generalize (w1.setCell ⟨d, 5, none⟩ (.int .i64 ((st.left : Int) - 1))).alloc (.cells #[.int .u8 (q : Nat)] 5) = w2 at *
  refine (put1_ok d f base q 1 w1.heap.size _ w2 h2.dec hcq (unhide HR) hm).mono ?_
  rintro e w3 ⟨rfl, v', h3, hw3⟩
  have H4 := hide (h2.put h3 hw3)
  have H5 := hide (hd2.trans (Dst.of_wrt hw3))
  clear h3 hw3 h2 hd2 hcq
  go_wp2_with fail
  go_ret
  exact ⟨rfl, v', by rw [← unhide HQ]; exact unhide H4, unhide H5⟩

set_option maxRecDepth 20000 in
set_option maxHeartbeats 1000000 in
theorem storedByte_full (d f base g off cap p : Nat) (B : List Nat) (st : DSt) (w : World) (h : OnD w d f base g off cap B st p) (hp : p + 8 ≤ 8 * B.length) (h0 : 0 < st.left) (hl : st.left ≤ 65535) (hm : st.most ≤ 1048576) (hr : st.out.length = st.most) :
    Calls Tryd.prog 55 #[.pointer (some ⟨d, 0, none⟩)] w
      fun e w' => e = .returned (.int .i64 11) ∧ OnD w' d f base g off cap B { st with left := st.left - 1 } (p + 8) ∧ Dst d f w st.v w' st.v := by
  obtain ⟨c0, _, _, c3, c4, c5, _⟩ := h.dec.cell
  have hnum := numAt_lt B p 8
  have HH := hide h
  have HR := hide hr
  clear h hr
  go_enter Tryd.func55, Tryd.ntmps55
  go_wp2_with fail
  refine (feedNum_ok f g off cap p 8 B w (unhide HH).feed (unhide HH).src (unhide HH).goff.f (by omega) hp).mono ?_
  rintro e w1 ⟨rfl, hfed⟩
  have h1 := (unhide HH).fed hfed
  obtain ⟨k0, _, _, k3, k4, k5, _⟩ := h1.dec.cell
  have kf5 := h1.dec.free 5
  have HF := hide hfed
  have H1 := hide h1
  clear hfed h1
  obtain ⟨q, hq⟩ : ∃ q, q = numAt B p 8 := ⟨_, rfl⟩
  rw [← hq] at hnum ⊢
  have HQ := hide hq
  clear hq
  go_wp2_with fail
  have h2 : OnD ((w1.setCell ⟨d, 5, none⟩ (.int .i64 ((st.left : Int) - 1))).alloc (.cells #[.int .u8 (q : Nat)] 5)) d f base g off cap B { st with left := st.left - 1 } (p + 8) := by
    have e : (st.left : Int) - 1 = ((st.left - 1 : Nat) : Int) := by omega
    rw [e]
    exact ((unhide H1).set (st' := { st with left := st.left - 1 }) 5 _ (by simp [DSt.cells]) rfl rfl).step0 ((Step.refl _ _).alloc _)
  have hcq : ((w1.setCell ⟨d, 5, none⟩ (.int .i64 ((st.left : Int) - 1))).alloc (.cells #[.int .u8 (q : Nat)] 5)).cell? ⟨w1.heap.size, 0, none⟩ = some (.int .u8 (q : Nat)) := by
    have := heap_alloc_new (w1.setCell ⟨d, 5, none⟩ (.int .i64 ((st.left : Int) - 1))) (.cells #[.int .u8 (q : Nat)] 5)
    have e : (w1.setCell ⟨d, 5, none⟩ (.int .i64 ((st.left : Int) - 1))).heap.size = w1.heap.size := by simp [World.setCell]
    rw [e] at this
    exact cell_of_one this
  have hd2 : Dst d f w st.v ((w1.setCell ⟨d, 5, none⟩ (.int .i64 ((st.left : Int) - 1))).alloc (.cells #[.int .u8 (q : Nat)] 5)) st.v :=
    ((Dst.fed (unhide HF)).trans (Dst.setCell d f w1 st.v 5 _)).alloc _
  generalize (w1.setCell ⟨d, 5, none⟩ (.int .i64 ((st.left : Int) - 1))).alloc (.cells #[.int .u8 (q : Nat)] 5) = w2 at *
  refine (put1_much d f base q 1 w1.heap.size _ w2 h2.dec hcq (unhide HR) hm (by omega) (by omega)).mono ?_
  rintro e w3 ⟨rfl, h3, hw3⟩
  have H4 := hide (h2.put h3 hw3)
  have H5 := hide (hd2.trans (Dst.of_wrt hw3))
  clear h3 hw3 h2 hd2 hcq
  go_wp2_with fail
  go_ret
  exact ⟨rfl, unhide H4, unhide H5⟩

set_option maxRecDepth 20000 in
set_option maxHeartbeats 1000000 in
theorem storedHead_ok (d f base g off cap p q n : Nat) (B : List Nat) (st : DSt) (w : World) (h : OnD w d f base g off cap B st p) (hq : q = (p + 7) / 8 * 8) (hp : q + 32 ≤ 8 * B.length) (hn : numAt B q 16 = n) (hm : numAt B (q + 16) 16 = 65535 - n) (hn2 : n ≤ 65535) :
    Calls Tryd.prog 77 #[.pointer (some ⟨d, 0, none⟩)] w
      fun e w' => e = .returned (.int .i64 0) ∧ OnD w' d f base g off cap B { st with left := n, place := 1 } (q + 32) ∧ Dst d f w st.v w' st.v := by
  obtain ⟨c0, _, _, c3, c4, c5, _⟩ := h.dec.cell
  have hmu := h.src.much
  have HH := hide h
  have HQ := hide hq
  have HN := hide hn
  have HM := hide hm
  clear h hn hm hq
  have hpq : p ≤ q := by have := unhide HQ; omega
  go_enter Tryd.func77, Tryd.ntmps77
  go_wp2_with fail
  refine (feedPass_any f p _ w (unhide HH).feed (by omega)).mono ?_
  rintro e w1 ⟨rfl, hf1⟩
  rw [← unhide HQ] at hf1
  have h1 := (unhide HH).fed hf1
  obtain ⟨a0, _⟩ := h1.dec.cell
  have H1 := hide h1
  have HF1 := hide hf1
  clear h1 hf1
  go_wp2_with fail
  refine (feedNum_ok f g off cap q 16 B w1 (unhide H1).feed (unhide H1).src (unhide H1).goff.f (by omega) (by omega)).mono ?_
  rintro e w2 ⟨rfl, hf2⟩
  rw [unhide HN]
  have h2 := (unhide H1).fed hf2
  obtain ⟨b0, _⟩ := h2.dec.cell
  have H2 := hide h2
  have HF2 := hide hf2
  clear h2 hf2
  go_wp2_with fail
  refine (feedNum_ok f g off cap (q + 16) 16 B w2 (unhide H2).feed (unhide H2).src (unhide H2).goff.f (by omega) (by omega)).mono ?_
  rintro e w3 ⟨rfl, hf3⟩
  rw [unhide HM]
  have h3 := (unhide H2).fed hf3
  obtain ⟨_, _, _, d3, _, d5, _⟩ := h3.dec.cell
  have df3 := h3.dec.free 3
  have df5 := h3.dec.free 5
  have H3 := hide h3
  have HF3 := hide hf3
  clear h3 hf3
  have hne : (((65535 - n : Nat) : Int) != (65535 : Int) - (n : Int)) = false := by rw [bne_eq_false_iff_eq]; omega
  go_wp2_with fail
  go_ret
  refine ⟨rfl, ?_, ?_⟩
  · exact ((unhide H3).set (st' := { st with left := n }) 5 _ (by simp [DSt.cells]) rfl rfl).set 3 _ (by simp [DSt.cells]) rfl rfl
  · exact ((((Dst.fed (unhide HF1)).trans (Dst.fed (unhide HF2))).trans (Dst.fed (unhide HF3))).trans (Dst.setCell d f w3 st.v 5 _)).trans (Dst.setCell d f _ st.v 3 _)
end Go.Proofs.YtnoemlailgbpoaaDoor
