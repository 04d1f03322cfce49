/- Proved here: what deal, Deal and DealDistances do. -/
import Derived.Test.YtnoemlailgbpoaaDoorCodesDeal
namespace Go.Proofs.YtnoemlailgbpoaaDoor
open Go.RowKit Go.Bel Go.Maps

def TabN (w : World) (mb n : Nat) (M : Tab) : Prop :=
  ∃ D : DataW Unit, w.ownsMap Tryd.prog 125 (plainElem Tryd.prog 3) mb n D ∧ MapIs D M
theorem TabN.tab {w : World} {mb n : Nat} {M : Tab} (h : TabN w mb n M) (hn : n ≤ 1000000) : TabAt w mb M := by
  obtain ⟨D, h1, h2⟩ := h; exact ⟨n, D, hn, h1, h2⟩
theorem TabN.mono {w : World} {mb n n' : Nat} {M : Tab} (h : TabN w mb n M) (hn : n ≤ n') : TabN w mb n' M := by
  obtain ⟨D, h1, h2⟩ := h; exact ⟨D, h1.mono hn, h2⟩

structure DealRel (w wr : World) (R n : Nat) (st : Dealt) : Prop where
  tab : TabN wr (R + 1) n st.tab
  var : wr.heap[R + 1 + 1]? = some (.cells #[.map (some (R + 1)), .int .i64 (st.longest : Nat)] 92 (0, 0))
  res : wr.heap[R]? = some (.cells #[.map none, .int .i64 0] 92 (0, 0))
  step : Step (fun _ => False) w wr

theorem DealRel.put {w wr w1 : World} {R n key s l : Nat} {st : Dealt} {D : DataW Unit} (h : DealRel w wr R n st) (hR : w.heap.size ≤ R)
    (hown : w1.ownsMap Tryd.prog 125 (plainElem Tryd.prog 3) (R + 1) (n + 1) (D.put (.int .u32 (key : Nat)) (.lit (.int .i64 (s : Nat)))))
    (hD : MapIs D st.tab) (hm : IsMap D) (hgr : wr.grownBy w1 (some (R + 1))) :
    DealRel w (w1.setCell ⟨R + 1 + 1, 1, none⟩ (.int .i64 (l : Nat))) R (n + 1) ⟨st.next + 1, fun c => if c = key then some s else st.tab c, l⟩ := by
  have hv := hgr.block (R + 1 + 1) (lt_of_block h.var) (by simp)
  have hr := hgr.block R (lt_of_block h.res) (by simp)
  refine ⟨⟨_, hown.setCell (by simp) _, mapIs_put hD hm key s⟩, ?_, ?_, ?_⟩
  · have := blk_set (hv.trans h.var) 1 (.int .i64 (l : Nat))
    simpa using this
  · exact (Below.heap_setCell _ _ _ _ (by simp; omega)).trans (hr.trans h.res)
  · exact (h.step.grown hgr (fun k hk => .inr (by simp at hk; omega))).setNew (by simp; omega) _

set_option maxRecDepth 20000 in
set_option maxHeartbeats 2000000 in
theorem deal_any (g off cap : Nat) (L : List Nat) (w : World) (h : Ints w g off L) :
    Calls Tryd.prog 104 #[.slice (some ⟨g, off, none⟩) L.length cap] w fun e w' => ∃ mb, e = .returned (.agg #[.map (some mb), .int .i64 ((dealAll L).longest : Nat)]) ∧ w.heap.size ≤ mb ∧ TabAt w' mb (dealAll L).tab ∧ Step (fun _ => False) w w' := by
  have hmuch := h.much
  have hmm := @run_makeMap Tryd.prog
  go_enter Tryd.func104, Tryd.ntmps104
  go_wp2_with fail
  obtain ⟨R, hR⟩ : ∃ R, R = w.heap.size := ⟨_, rfl⟩
  have hst0 : DealRel w (((w.alloc (.cells #[.map none, .int .i64 0] 92)).alloc (.map #[] 0)).alloc (.cells #[.map (some (w.heap.size + 1)), .int .i64 0] 92)) R 0 (dealTo L 0) := by
    subst hR
    refine ⟨⟨.map [], ?_, mapIs_nil⟩, ?_, ?_, (((Step.refl _ _).alloc _).alloc _).alloc _⟩
    · have := (World.ownsMap_made (H := Unit) (w.alloc (.cells #[.map none, .int .i64 0] 92)) Tryd.prog 125 (plainElem Tryd.prog 3)).alloc (.cells #[.map (some (w.heap.size + 1)), .int .i64 0] 92)
      simpa using this
    · have := heap_alloc_new ((w.alloc (.cells #[.map none, .int .i64 0] 92)).alloc (.map #[] 0)) (.cells #[.map (some (w.heap.size + 1)), .int .i64 0] 92)
      have e : ((w.alloc (.cells #[.map none, .int .i64 0] 92)).alloc (.map #[] 0)).heap.size = w.heap.size + 1 + 1 := by simp
      rw [e] at this
      exact this
    · exact (Below.heap_alloc _ _ _ (by simp; omega)).trans ((Below.heap_alloc _ _ _ (by simp)).trans (heap_alloc_new _ _))
  have hRw : w.heap.size ≤ R := by omega
  rw [← hR] at hst0 ⊢
  generalize hW1 : ((w.alloc (.cells #[.map none, .int .i64 0] 92)).alloc (.map #[] 0)).alloc (.cells #[.map (some (R + 1)), .int .i64 0] 92) = w1 at *
  clear hW1 hR hmm
  go_loopw [4, 5] (fun nx ln wr => ∃ l : Nat, l ≤ 15 ∧ ln = .int .i64 ((l : Int) + 1) ∧ nx = .int .u32 ((dealTo L l).next : Nat) ∧ DealRel w wr R (l * 1000) (dealTo L l)) (fun _ ln _ => 16 - (intOf ln).toNat)
  case atStart => exact ⟨0, by omega, rfl, rfl, by simpa using hst0⟩
  case round =>
    clear hst0
    obtain ⟨l, hl, rfl, rfl, hrel⟩ := hrel
    have hbd := dealTo_bd L hmuch l hl
    by_cases hlt : l < 15
    · have hfr := dealIn_next_le L (l + 1) ⟨2 * (dealTo L l).next, (dealTo L l).tab, (dealTo L l).longest⟩
      have e2 : ((dealTo L l).next : Int) * 2 = ((2 * (dealTo L l).next : Nat) : Int) := by omega
      have hd1 : dealTo L (l + 1) = dealIn L (l + 1) ⟨2 * (dealTo L l).next, (dealTo L l).tab, (dealTo L l).longest⟩ L.length := rfl
      have hrel' : DealRel w wr R (l * 1000) ⟨2 * (dealTo L l).next, (dealTo L l).tab, (dealTo L l).longest⟩ := ⟨hrel.tab, hrel.var, hrel.res, hrel.step⟩
      have HD1 := hide hd1
      have H2 := hide e2
      clear hd1 hrel e2
      go_wp2_with fail
      rw [unhide H2]
      generalize hst : (⟨2 * (dealTo L l).next, (dealTo L l).tab, (dealTo L l).longest⟩ : Dealt) = st at *
      have hnx : st.next = 2 * (dealTo L l).next := by rw [← hst]
      have HNX := hide hnx
      rw [← hnx]
      clear hst hnx H2
      go_loopw [4, 18] (fun nx i wr => ∃ k : Nat, k ≤ L.length ∧ i = .int .i64 (k : Nat) ∧ nx = .int .u32 ((dealIn L (l + 1) st k).next : Nat) ∧ DealRel w wr R (l * 1000 + k) (dealIn L (l + 1) st k)) (fun _ i _ => L.length - (intOf i).toNat)
      case atStart => exact ⟨0, by omega, rfl, rfl, hrel'⟩
      case round =>
        clear hrel'
        obtain ⟨k, hk, rfl, rfl, hrel⟩ := hrel
        have hnk := hfr k
        have hnb : st.next ≤ 65601536 := by rw [unhide HNX]; omega
        by_cases hkl : k < L.length
        · have hcell := (h.step hrel.step (fun x => x)).cell k hkl
          have hle := h.le k
          obtain ⟨q, hq⟩ : ∃ q, q = L[k]?.getD 0 := ⟨_, rfl⟩
          rw [← hq] at hcell hle
          have HQ := hide hq
          clear hq
          by_cases hql : q = l + 1
          · have hq' : ((q : Int) == (l : Int) + 1) = true := beq_iff_eq.2 (by omega)
            obtain ⟨hv0, hv1, hvf0, hvf1⟩ := blk_two hrel.var
            obtain ⟨D, hown, hD⟩ := hrel.tab
            have HR := hide hrel
            have HQL := hide hql
            clear hrel hql
            have hdn : dealIn L (l + 1) st (k + 1) = ⟨(dealIn L (l + 1) st k).next + 1, fun c => if c = (dealIn L (l + 1) st k).next then some k else (dealIn L (l + 1) st k).tab c, l + 1⟩ := by
              rw [dealIn, ← unhide HQ, if_pos (unhide HQL)]
            have HDN := hide hdn
            clear hdn
            have hb32 : (dealIn L (l + 1) st k).next < 4294967295 := by omega
            go_wp2_with (first | (at_mapUpdate; refine wpList_mapUpdate_own _ rfl _ _ _ 90 rfl 125 3 keyLaw Tryd.underlying90 _ (R + 1) (l * 1000 + k) D rfl hown (by unfold maxLen; omega) _ _ _ rfl rfl (keyOf_int_mk Tryd.underlying125 (WalkArith.wf_u32 (by omega))) _ [] (plainElem_int Tryd.underlying3 (WalkArith.wf_i64 (by omega))) ?_; intro w2 hown2 hgr2; obtain ⟨ha0, ha1, haf0, haf1⟩ := blk_two ((hgr2.block (R + 1 + 1) (lt_of_block (unhide HR).var) (by simp)).trans (unhide HR).var)))
            have R2 := DealRel.put (l := l + 1) (unhide HR) hRw hown2 hD hown.isMap hgr2
            have e1 : ((l + 1 : Nat) : Int) = (l : Int) + 1 := by omega
            rw [e1] at R2
            have HR2 := hide R2
            clear R2 e1 hown2 hgr2 ha0 ha1 haf0 haf1 hown hD hv0 hv1 hvf0 hvf1
            go_roundw
            case rel => exact ⟨k + 1, by omega, by go_num, by rw [unhide HDN]; go_num, by rw [unhide HDN]; exact unhide HR2⟩
            case measure => simp [intOf]; omega
          · have hq' : ((q : Int) == (l : Int) + 1) = false := beq_eq_false_iff_ne.2 (by omega)
            go_wp2_with fail
            go_roundw
            case rel => exact ⟨k + 1, by omega, by go_num, by rw [dealIn, ← unhide HQ, if_neg hql], by rw [dealIn, ← unhide HQ, if_neg hql]; exact ⟨hrel.tab.mono (by omega), hrel.var, hrel.res, hrel.step⟩⟩
            case measure => simp [intOf]; omega
        · have : k = L.length := by omega
          subst this
          go_wp2_with fail
          go_roundw
          case rel => exact ⟨l + 1, by omega, by go_num, by rw [unhide HD1], by rw [unhide HD1]; exact ⟨hrel.tab.mono (by omega), hrel.var, hrel.res, hrel.step⟩⟩
          case measure => simp [intOf]; omega
    · have : l = 15 := by omega
      subst this
      obtain ⟨a0, a1, af0, af1⟩ := blk_two hrel.var
      obtain ⟨r0, r1, rf0, rf1⟩ := blk_two hrel.res
      have HR := hide hrel
      clear hrel
      go_wp2_with fail
      refine bodyPost_ret (v := .agg #[.map (some (R + 1)), .int .i64 ((dealTo L 15).longest : Nat)]) (by simp [results, Tryd.results104, go_sem, r0, r1]) rfl ⟨R + 1, rfl, by omega, ?_, ?_⟩
      · exact ((unhide HR).tab.tab (by omega)).of ((Below.heap_setCell _ _ _ _ (by simp)).trans (Below.heap_setCell _ _ _ _ (by simp)))
      · exact ((unhide HR).step.setNew (by simpa using hRw) _).setNew (by simpa using hRw) _

set_option maxRecDepth 20000 in
set_option maxHeartbeats 2000000 in
theorem dealUp_ok (g off cap : Nat) (L : List Nat) (w : World) (h : Ints w g off L) (hmay : mayB L = true) :
    Calls Tryd.prog 97 #[.slice (some ⟨g, off, none⟩) L.length cap] w fun e w' => ∃ mb, e = .returned (.tuple #[.agg #[.map (some mb), .int .i64 ((dealAll L).longest : Nat)], .int .i64 0]) ∧ w.heap.size ≤ mb ∧ TabAt w' mb (dealAll L).tab ∧ Step (fun _ => False) w w' := by
  go_enter Tryd.func97, Tryd.ntmps97
  go_wp2_with fail
  obtain ⟨w1, hw1⟩ : ∃ w1, w1 = w.alloc (.cells #[.map none, .int .i64 0] 92) := ⟨_, rfl⟩
  have hs1 : Step (fun _ => False) w w1 := by rw [hw1]; exact (Step.refl _ _).alloc _
  have hr1 : w1.heap[w.heap.size]? = some (.cells #[.map none, .int .i64 0] 92 (0, 0)) := by rw [hw1]; exact heap_alloc_new _ _
  rw [← hw1]
  clear hw1
  refine (mayBe_any g off cap L w1 (h.step hs1 (fun x => x))).mono ?_
  rintro e w2 ⟨rfl, rfl⟩
  rw [hmay]
  go_wp2_with fail
  refine (deal_any g off cap L _ (h.step hs1 (fun x => x))).mono ?_
  rintro e w3 ⟨mb, rfl, hmb, htab, hs3⟩
  obtain ⟨r0, r1, rf0, rf1⟩ := blk_two (hs3.at_ hr1 (fun x => x))
  have hlt := lt_of_block hr1
  have HT := hide htab
  clear htab hr1
  go_wp2_with fail
  refine bodyPost_ret (v := .tuple #[.agg #[.map (some mb), .int .i64 ((dealAll L).longest : Nat)], .int .i64 0]) (by simp [results, Tryd.results97, go_sem, r0, r1]) rfl ⟨mb, rfl, by omega, ?_, ?_⟩
  · exact (unhide HT).of ((Below.heap_setCell _ _ _ _ (by simp; omega)).trans (Below.heap_setCell _ _ _ _ (by simp; omega)))
  · exact ((hs1.trans hs3).setNew (by simp) _).setNew (by simp) _

set_option maxRecDepth 20000 in
set_option maxHeartbeats 2000000 in
theorem dealUp_no (g off cap : Nat) (L : List Nat) (w : World) (h : Ints w g off L) (hmay : mayB L = false) :
    Calls Tryd.prog 97 #[.slice (some ⟨g, off, none⟩) L.length cap] w fun e w' => e = .returned (.tuple #[.agg #[.map none, .int .i64 0], .int .i64 7]) ∧ Step (fun _ => False) w w' := by
  go_enter Tryd.func97, Tryd.ntmps97
  go_wp2_with fail
  obtain ⟨w1, hw1⟩ : ∃ w1, w1 = w.alloc (.cells #[.map none, .int .i64 0] 92) := ⟨_, rfl⟩
  have hs1 : Step (fun _ => False) w w1 := by rw [hw1]; exact (Step.refl _ _).alloc _
  have hr1 : w1.heap[w.heap.size]? = some (.cells #[.map none, .int .i64 0] 92 (0, 0)) := by rw [hw1]; exact heap_alloc_new _ _
  rw [← hw1]
  clear hw1
  refine (mayBe_any g off cap L w1 (h.step hs1 (fun x => x))).mono ?_
  rintro e w2 ⟨rfl, rfl⟩
  rw [hmay]
  obtain ⟨r0, r1, rf0, rf1⟩ := blk_two hr1
  clear hr1
  go_wp2_with fail
  refine bodyPost_ret (v := .tuple #[.agg #[.map none, .int .i64 0], .int .i64 7]) (by simp [results, Tryd.results97, go_sem, r0, r1]) rfl ⟨rfl, ?_⟩
  exact (hs1.setNew (by simp) _).setNew (by simp) _

set_option maxRecDepth 20000 in
set_option maxHeartbeats 2000000 in
theorem dealFar_none (g off cap : Nat) (L : List Nat) (w : World) (h : Ints w g off L) (h0 : cntTo L L.length = 0) :
    Calls Tryd.prog 106 #[.slice (some ⟨g, off, none⟩) L.length cap] w fun e w' => e = .returned (.tuple #[.agg #[.map none, .int .i64 0], .int .i64 0]) ∧ Step (fun _ => False) w w' := by
  go_enter Tryd.func106, Tryd.ntmps106
  go_wp2_with fail
  obtain ⟨w1, hw1⟩ : ∃ w1, w1 = w.alloc (.cells #[.map none, .int .i64 0] 92) := ⟨_, rfl⟩
  have hs1 : Step (fun _ => False) w w1 := by rw [hw1]; exact (Step.refl _ _).alloc _
  have hr1 : w1.heap[w.heap.size]? = some (.cells #[.map none, .int .i64 0] 92 (0, 0)) := by rw [hw1]; exact heap_alloc_new _ _
  rw [← hw1]
  clear hw1
  refine (weigh_any g off cap L w1 (h.step hs1 (fun x => x))).mono ?_
  rintro e w2 ⟨rfl, rfl⟩
  rw [h0]
  obtain ⟨r0, r1, rf0, rf1⟩ := blk_two hr1
  clear hr1 h0
  go_wp2_with fail
  refine bodyPost_ret (v := .tuple #[.agg #[.map none, .int .i64 0], .int .i64 0]) (by simp [results, Tryd.results106, go_sem, r0, r1]) rfl ⟨rfl, ?_⟩
  exact (hs1.setNew (by simp) _).setNew (by simp) _
end Go.Proofs.YtnoemlailgbpoaaDoor
