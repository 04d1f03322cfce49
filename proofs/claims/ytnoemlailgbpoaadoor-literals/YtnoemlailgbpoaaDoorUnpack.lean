/- Proved here: what Unpack does with what is bare, where the decoder's steps are known. -/
import Derived.Test.YtnoemlailgbpoaaDoorRun
namespace Go.Proofs.YtnoemlailgbpoaaDoor
open Go.RowKit Go.Bel Go.Maps

set_option maxRecDepth 20000 in
set_option maxHeartbeats 400000 in
theorem newDec_any (f most : Nat) (w : World) :
    Calls Tryd.prog 31 #[.pointer (some ⟨f, 0, none⟩), .int .i64 (most : Nat)] w fun e w' => e = .returned (.pointer (some ⟨w.heap.size, 0, none⟩)) ∧
      w' = w.alloc (.cells #[.pointer (some ⟨f, 0, none⟩), .slice none 0 0, .int .i64 (most : Nat), .int .i64 0, .bool false, .int .i64 0, .map none, .int .i64 0, .map none, .int .i64 0, .pointer none] 97) := by
  go_enter Tryd.func31, Tryd.ntmps31
  go_wp2
  go_ret
  exact ⟨rfl, rfl⟩

set_option maxRecDepth 20000 in
set_option maxHeartbeats 400000 in
theorem decOut_any (d : Nat) (a : Option Addr) (n c : Nat) (w : World) (hc : w.cell? ⟨d, 1, none⟩ = some (.slice a n c)) :
    Calls Tryd.prog 33 #[.pointer (some ⟨d, 0, none⟩)] w fun e w' => e = .returned (.slice a n c) ∧ w' = w := by
  go_enter Tryd.func33, Tryd.ntmps33
  go_wp2
  go_ret
  exact ⟨rfl, rfl⟩

set_option maxRecDepth 20000 in
set_option maxHeartbeats 400000 in
theorem askedFor_any (most : Nat) (w : World) (h : most ≤ 1048576) :
    Calls Tryd.prog 22 #[.int .i64 (most : Nat)] w fun e w' => e = .returned (.int .i64 (most : Nat)) ∧ w' = w := by
  go_enter Tryd.func22, Tryd.ntmps22
  go_wp2
  go_ret
  exact ⟨rfl, rfl⟩

def init (most : Nat) : PS := { out := [], most := most, place := 0, last := false, left := 0, tab := fun _ => none, longest := 0, p := 0 }

theorem holds_init {w : World} {f d g off cap most : Nat} {B : List Nat} (hS : Src w g off B) (hO : OrderAt w) (hm : most ≤ 1048576) (hg : g < f) (hf0 : 0 < f) (hd : d = f + 1) (hsz : w.heap.size = f + 2)
    (hF : w.heap[f]? = some (.cells #[.slice (some ⟨g, off, none⟩) B.length cap, .int .i64 ((0 : Nat) : Int)] 86 (0, 0)))
    (hD : w.heap[d]? = some (.cells #[.pointer (some ⟨f, 0, none⟩), .slice none 0 0, .int .i64 (most : Nat), .int .i64 0, .bool false, .int .i64 0, .map none, .int .i64 0, .map none, .int .i64 0, .pointer none] 97 (0, 0))) :
    Holds w d f (f + 2) g off cap B (init most) (.slice none 0 0) := by
  refine ⟨⟨⟨.slice none 0 0, [], most, 0, false, 0, .map none, 0, .map none, 0, .pointer none⟩, rfl, ⟨⟨hD, World.ownsRow_nil _ _ _ _, by omega, by omega, by omega, by omega⟩, hF, hS, ⟨by omega, by omega, by simp [Value.ownBlock]⟩, by omega⟩, rfl, rfl, rfl, rfl, rfl, ⟨_, rfl⟩, ⟨_, rfl⟩, .inl rfl, fun h => by simp [init] at h⟩, hO, ⟨by omega, by omega, by simp [Value.ownBlock]⟩, by omega, hm, by simp [init], by simp [init]⟩

def usedOf (e : Nat) (s : PS) : Nat := if e = 0 then (s.p + 7) / 8 else 0

set_option maxRecDepth 20000 in
set_option maxHeartbeats 2000000 in
theorem unpackBare_ok (g off cap most n e : Nat) (B : List Nat) (s' : PS) (w : World) (hfix : FixedHeadSaid) (hS : Src w g off B) (hg : g < w.heap.size) (hO : OrderAt w) (h0 : 0 < w.heap.size) (hm : most ≤ 1048576) (hr : PRun B n (init most) e s') :
    Calls Tryd.prog 21 #[.slice (some ⟨g, off, none⟩) B.length cap, .int .i64 (most : Nat)] w
      fun r w' => ∃ v', r = .returned (.agg #[.int .i64 (e : Nat), v', .int .i64 (usedOf e s' : Nat), .string ⟨#[]⟩]) ∧ w'.ownsRow w.heap.size 5 1 v' s'.out.length (u8s s'.out) ∧ Step (fun _ => False) w w' := by
  have HR := hide hr
  have HX := hide hfix
  clear hr hfix
  go_enter Tryd.func21, Tryd.ntmps21
  go_wp2_with fail
  obtain ⟨R, hR⟩ : ∃ R, R = w.heap.size := ⟨_, rfl⟩
  obtain ⟨w1, hw1⟩ : ∃ w1, w1 = w.alloc (.cells #[.int .i64 0, .slice none 0 0, .int .i64 0, .string ⟨#[]⟩] 38) := ⟨_, rfl⟩
  have hs1 : Step (fun _ => False) w w1 := by rw [hw1]; exact (Step.refl _ _).alloc _
  have hz1 : w1.heap.size = R + 1 := by rw [hw1, hR]; simp
  have hr1 : w1.heap[R]? = some (.cells #[.int .i64 0, .slice none 0 0, .int .i64 0, .string ⟨#[]⟩] 38 (0, 0)) := by rw [hw1, hR]; exact heap_alloc_new _ _
  have hRw : w.heap.size ≤ R := by omega
  have hgR : g < R := by omega
  have h0R : 0 < R := by omega
  rw [← hw1, ← hR]
  have hRe : R ≤ w.heap.size := by omega
  clear hw1 hR
  refine (feedNew_any (.slice (some ⟨g, off, none⟩) B.length cap) w1 ⟨_, _, _, rfl⟩).mono ?_
  rintro e1 w2 ⟨rfl, hw2⟩
  rw [hz1]
  have hz2 : w2.heap.size = R + 1 + 1 := by rw [hw2]; simp [hz1]
  have hs2 : Step (fun _ => False) w1 w2 := by rw [hw2]; exact (Step.refl _ _).alloc _
  have hF2 : w2.heap[R + 1]? = some (.cells #[.slice (some ⟨g, off, none⟩) B.length cap, .int .i64 ((0 : Nat) : Int)] 86 (0, 0)) := by rw [hw2, ← hz1]; exact heap_alloc_new _ _
  clear hw2
  go_wp2_with fail
  refine (newDec_any (R + 1) most w2).mono ?_
  rintro e2 w3 ⟨rfl, hw3⟩
  rw [hz2]
  have hz3 : w3.heap.size = R + 1 + 2 := by rw [hw3]; simp [hz2]
  have hs3 : Step (fun _ => False) w2 w3 := by rw [hw3]; exact (Step.refl _ _).alloc _
  have hD3 : w3.heap[R + 1 + 1]? = some (.cells #[.pointer (some ⟨R + 1, 0, none⟩), .slice none 0 0, .int .i64 (most : Nat), .int .i64 0, .bool false, .int .i64 0, .map none, .int .i64 0, .map none, .int .i64 0, .pointer none] 97 (0, 0)) := by rw [hw3, ← hz2]; exact heap_alloc_new _ _
  have hs13 := (hs1.trans hs2).trans hs3
  have hH3 := holds_init (hS.step hs13 (fun x => x)) (hO.step hs13 (fun x => x)) hm (show g < R + 1 by omega) (by omega) rfl hz3 (hs3.at_ hF2 (fun x => x)) hD3
  have hr3 := (hs2.trans hs3).at_ hr1 (fun x => x)
  have HH3 := hide hH3
  have HS13 := hide hs13
  clear hw3 hH3 hs13 hs1 hs2 hs3 hF2 hD3 hz1 hz2 hr1
  go_wp2_with fail
  refine (run_ok (R + 1 + 1) (R + 1) (R + 1 + 2) g off cap n e B (init most) s' _ w3 (unhide HX) (unhide HH3) (unhide HR)).mono ?_
  rintro r w4 ⟨rfl, v', hH4, hd4⟩
  obtain ⟨st, rfl, hon, e1, e2, e3, e4, e5, e6, e7, e8, e9⟩ := hH4.ex
  obtain ⟨va, vc, hv⟩ := hon.dec.vslice
  obtain ⟨_, c1, _⟩ := hon.dec.cell
  rw [hv] at c1
  have hst4 : Step (fun _ => False) w w4 := by
    refine (unhide HS13).trans' hd4.step (fun i hi hx => ?_)
    rcases hx with hx | hx | hx
    · omega
    · omega
    · simp [Value.ownBlock] at hx
  have hr4 : w4.heap[R]? = some (.cells #[.int .i64 0, .slice none 0 0, .int .i64 0, .string ⟨#[]⟩] 38 (0, 0)) := by
    refine hd4.step.at_ hr3 (fun hx => ?_)
    rcases hx with hx | hx | hx
    · omega
    · omega
    · simp [Value.ownBlock] at hx
  have hown : w4.ownsRow (R + 1 + 2) 5 1 (.slice va st.out.length vc) s'.out.length (u8s s'.out) := by
    rw [← hv, ← e1]; exact hon.dec.own
  have hfeed := hon.feed
  have hbits := hH4.bits
  have hmuch := hon.src.much
  have hz4 := hst4.size
  have hrl := lt_of_block hr4
  have hp : s'.p < 4611686018427387904 := by omega
  have HOWN := hide hown
  have HST := hide hst4
  have HFE := hide hfeed
  have HE1 := hide e1
  clear hown hst4 hfeed e1 e2 e3 e4 e5 e6 e7 e8 e9 hon hH4 hd4 HR HX HH3 HS13 hr3 hS hO hmuch
  obtain ⟨len, hlen⟩ : ∃ len, len = st.out.length := ⟨_, rfl⟩
  rw [← hlen] at c1 
  have HLEN := hide hlen
  clear hv hlen
  go_wp2_with fail
  refine (decOut_any (R + 1 + 1) va len vc w4 c1).mono ?_
  rintro r w5 ⟨rfl, rfl⟩
  have q0 : w5.cell? ⟨R, 0, none⟩ = some (.int .i64 0) := blk_cell hr4 0 _ rfl
  have q1 : w5.cell? ⟨R, 1, none⟩ = some (.slice none 0 0) := blk_cell hr4 1 _ rfl
  have q2 : w5.cell? ⟨R, 2, none⟩ = some (.int .i64 0) := blk_cell hr4 2 _ rfl
  have q3 : w5.cell? ⟨R, 3, none⟩ = some (.string ⟨#[]⟩) := blk_cell hr4 3 _ rfl
  have g0 := blk_free hr4 0
  have g1 := blk_free hr4 1
  have g2 := blk_free hr4 2
  have g3 := blk_free hr4 3
  clear c1 hr4
  by_cases he : e = 0
  · have he' : ((e : Int) == 0) = true := beq_iff_eq.2 (by omega)
    have hue : usedOf e s' = (s'.p + 7) / 8 := by unfold usedOf; rw [if_pos he]
    have HUE := hide hue
    have HEE := hide he
    clear hue
    go_wp2_with fail
    refine (feedUsed_any (R + 1) s'.p _ _ ((Below.heap_alloc _ _ _ (lt_of_block (unhide HFE))).trans (unhide HFE)) hp).mono ?_
    rintro r w6 ⟨rfl, hw6⟩
    subst hw6
    go_wp2_with fail
    refine bodyPost_ret (v := .agg #[.int .i64 0, .slice va len vc, .int .i64 (((s'.p : Int) + 7) / 8), .string ⟨#[]⟩]) (by simp [results, Tryd.results21, go_sem, q0, q1, q2, q3, hrl]) rfl ⟨.slice va len vc, ?_, ?_, ?_⟩
    · rw [unhide HUE, unhide HEE]
      have : (((s'.p + 7) / 8 : Nat) : Int) = ((s'.p : Int) + 7) / 8 := by omega
      rw [this]
      rfl
    · have h1 := ownsRow_mono (unhide HOWN) (show w.heap.size ≤ R + 1 + 2 by omega)
      rw [← unhide HLEN] at h1
      have hne : ∀ k, (Value.slice va len vc).ownBlock = some k → k ≠ R := fun k hk hx => by
        have h2 := (unhide HOWN)
        rw [← unhide HLEN] at h2
        have := (h2.lt k hk).1
        omega
      exact (((ownsRow_setCell_other (ownsRow_setCell_other (ownsRow_setCell_other (ownsRow_setCell_other h1 (a := ⟨R, 0, none⟩) (fun x => hne R x rfl) _) (a := ⟨R, 1, none⟩) (fun x => hne R x rfl) _) (a := ⟨R, 2, none⟩) (fun x => hne R x rfl) _) (a := ⟨R, 3, none⟩) (fun x => hne R x rfl) _))).alloc _
    · exact (((((unhide HST).setNew hRw _).setNew hRw _).setNew hRw _).setNew hRw _).alloc _
  · have he' : ((e : Int) == 0) = false := beq_eq_false_iff_ne.2 (by omega)
    have hue : usedOf e s' = 0 := by unfold usedOf; rw [if_neg he]
    have HUE := hide hue
    clear hue
    go_wp2_with fail
    refine bodyPost_ret (v := .agg #[.int .i64 (e : Nat), .slice va len vc, .int .i64 0, .string ⟨#[]⟩]) (by simp [results, Tryd.results21, go_sem, q0, q1, q2, q3, hrl]) rfl ⟨.slice va len vc, ?_, ?_, ?_⟩
    · rw [unhide HUE]; rfl
    · have h1 := ownsRow_mono (unhide HOWN) (show w.heap.size ≤ R + 1 + 2 by omega)
      rw [← unhide HLEN] at h1
      have hne : ∀ k, (Value.slice va len vc).ownBlock = some k → k ≠ R := fun k hk hx => by
        have h2 := (unhide HOWN)
        rw [← unhide HLEN] at h2
        have := (h2.lt k hk).1
        omega
      exact (((ownsRow_setCell_other (ownsRow_setCell_other (ownsRow_setCell_other (ownsRow_setCell_other h1 (a := ⟨R, 0, none⟩) (fun x => hne R x rfl) _) (a := ⟨R, 1, none⟩) (fun x => hne R x rfl) _) (a := ⟨R, 2, none⟩) (fun x => hne R x rfl) _) (a := ⟨R, 3, none⟩) (fun x => hne R x rfl) _))).alloc _
    · exact (((((unhide HST).setNew hRw _).setNew hRw _).setNew hRw _).setNew hRw _).alloc _

set_option maxRecDepth 20000 in
set_option maxHeartbeats 2000000 in
theorem unpack_ok (g off cap most n e : Nat) (B : List Nat) (s' : PS) (w : World) (hfix : FixedHeadSaid) (hS : Src w g off B) (hg : g < w.heap.size) (hO : OrderAt w) (h0 : 0 < w.heap.size) (hm : most ≤ 1048576) (hr : PRun B n (init most) e s') :
    Calls Tryd.prog 12 #[.int .i64 0, .slice (some ⟨g, off, none⟩) B.length cap, .int .i64 (most : Nat)] w
      fun r w' => ∃ v', r = .returned (.agg #[.int .i64 (e : Nat), v', .int .i64 (usedOf e s' : Nat), .string ⟨#[]⟩]) ∧ w'.ownsRow w.heap.size 5 1 v' s'.out.length (u8s s'.out) ∧ Step (fun _ => False) w w' := by
  have HR := hide hr
  have HX := hide hfix
  clear hr hfix
  go_enter Tryd.func12, Tryd.ntmps12
  go_wp2_with fail
  obtain ⟨R, hR⟩ : ∃ R, R = w.heap.size := ⟨_, rfl⟩
  obtain ⟨w1, hw1⟩ : ∃ w1, w1 = w.alloc (.cells #[.int .i64 0, .slice none 0 0, .int .i64 0, .string ⟨#[]⟩] 38) := ⟨_, rfl⟩
  have hs1 : Step (fun _ => False) w w1 := by rw [hw1]; exact (Step.refl _ _).alloc _
  have hz1 : w1.heap.size = R + 1 := by rw [hw1, hR]; simp
  have hr1 : w1.heap[R]? = some (.cells #[.int .i64 0, .slice none 0 0, .int .i64 0, .string ⟨#[]⟩] 38 (0, 0)) := by rw [hw1, hR]; exact heap_alloc_new _ _
  have hRw : w.heap.size ≤ R := by omega
  have hRe : R ≤ w.heap.size := by omega
  rw [← hw1, ← hR]
  clear hw1 hR
  refine (askedFor_any most w1 hm).mono ?_
  rintro r w2 ⟨rfl, rfl⟩
  go_wp2_with fail
  refine (unpackBare_ok g off cap most n e B s' w2 (unhide HX) (hS.step hs1 (fun x => x)) (by omega) (hO.step hs1 (fun x => x)) (by omega) hm (unhide HR)).mono ?_
  rintro r w3 ⟨v', rfl, hown, hs3⟩
  have hr3 := hs3.at_ hr1 (fun x => x)
  have q0 : w3.cell? ⟨R, 0, none⟩ = some (.int .i64 0) := blk_cell hr3 0 _ rfl
  have q1 : w3.cell? ⟨R, 1, none⟩ = some (.slice none 0 0) := blk_cell hr3 1 _ rfl
  have q2 : w3.cell? ⟨R, 2, none⟩ = some (.int .i64 0) := blk_cell hr3 2 _ rfl
  have q3 : w3.cell? ⟨R, 3, none⟩ = some (.string ⟨#[]⟩) := blk_cell hr3 3 _ rfl
  have g0 := blk_free hr3 0
  have g1 := blk_free hr3 1
  have g2 := blk_free hr3 2
  have g3 := blk_free hr3 3
  obtain ⟨va, vl, vc, hv⟩ : ∃ a n c, v' = .slice a n c := by
    obtain ⟨_, ⟨hv, _⟩ | ⟨_, _, _, hv, _⟩⟩ := hown
    · exact ⟨_, _, _, hv⟩
    · exact ⟨_, _, _, hv⟩
  subst hv
  have HO := hide hown
  have HST := hide (hs1.trans hs3)
  clear hown hr3 hr1 hs1 hs3 hS hO HR HX
  go_wp2_with fail
  refine bodyPost_ret (v := .agg #[.int .i64 (e : Nat), .slice va vl vc, .int .i64 (usedOf e s' : Nat), .string ⟨#[]⟩]) (by simp [results, Tryd.results12, go_sem, q0, q1, q2, q3]) rfl ⟨.slice va vl vc, rfl, ?_, ?_⟩
  · have h1 := ownsRow_mono (unhide HO) (show w.heap.size ≤ w2.heap.size by omega)
    have hne : (Value.slice va vl vc).ownBlock ≠ some R := fun hx => by have := ((unhide HO).lt R hx).1; omega
    exact ownsRow_setCell_other (ownsRow_setCell_other (ownsRow_setCell_other (ownsRow_setCell_other h1 (a := ⟨R, 0, none⟩) hne _) (a := ⟨R, 1, none⟩) hne _) (a := ⟨R, 2, none⟩) hne _) (a := ⟨R, 3, none⟩) hne _
  · exact ((((unhide HST).setNew hRw _).setNew hRw _).setNew hRw _).setNew hRw _
end Go.Proofs.YtnoemlailgbpoaaDoor
