/- Proved here: what the decoder's put does with one byte. -/
import Derived.Test.YtnoemlailgbpoaaDoorDecPure
import Derived.Test.YtnoemlailgbpoaaDoorInfo
import Derived.Test.YtnoemlailgbpoaaDoorFeedRest
import Derived.Deep.RegionLaw
namespace Go.Proofs.YtnoemlailgbpoaaDoor
open Go.RowKit Go.Bel

abbrev Dec (w : World) (d f base : Nat) (st : DSt) : Prop := DecAt w d f base 97 5 st

set_option maxRecDepth 20000 in
set_option maxHeartbeats 1000000 in
theorem put1_ok (d f base c cap k : Nat) (st : DSt) (w : World) (h : Dec w d f base st) (hx : w.cell? ⟨k, 0, none⟩ = some (.int .u8 (c : Nat))) (hroom : st.out.length < st.most) (hm : st.most ≤ 1048576) :
    Calls Tryd.prog 73 #[.pointer (some ⟨d, 1, none⟩), .slice (some ⟨k, 0, none⟩) 1 cap] w
      fun e w' => e = .returned (.int .i64 0) ∧ ∃ v', Dec w' d f base { st with v := v', out := st.out ++ [c] } ∧ Wrt d w st.v w' v' := by
  obtain ⟨_, c1, c2, _⟩ := h.cell
  have f1 := h.free 1
  obtain ⟨va, vc, hv⟩ := h.vslice
  have hown := h.own
  rw [hv] at c1 hown
  have hbase := h.base_le
  obtain ⟨i0, hi, hz0, hz1, hz2⟩ := info_parts Tryd.info5
  have HH := hide h
  have HV := hide hv
  have HW := hide hown
  clear h hv hown
  go_enter Tryd.func73, Tryd.ntmps73
  go_wp2
  go_quiet (fail)
  go_wp2_with (at_builtin; refine wpList_append_row _ rfl _ _ 29 rfl base 5 i0 (.int .u8 0) 1 1 Tryd.underlying29 hi hz0 hz1 hz2 rfl (by decide) _ st.out.length (u8s st.out) rfl (by exact unhide HW) ⟨k, 0, none⟩ 1 cap [.int .u8 (c : Nat)] rfl rfl ?c1 ?c2 (by decide) ?c3 ?c4 ?c5 ?_)
  case c1 =>
    intro j u hj
    match j, hj with
    | 0, hj => simp at hj; subst hj; simpa [Addr.add] using hx
  case c2 => intro u hu; simp at hu; subst hu; rfl
  case c3 => unfold maxLen; omega
  case c4 => omega
  case c5 => exact hbase
  intro g cap' w1 hown' hgr hg
  have hgr' : w.grownBy w1 st.v.ownBlock := by rw [unhide HV]; exact ⟨hgr.os, hgr.tape, hgr.output, hgr.size, hgr.block⟩
  obtain ⟨hb1, hdec, hdst⟩ := (unhide HH).app (xs := [c]) (m := 1) hown' rfl hgr' (by rw [unhide HV]; exact hg)
  have k1 := blk_cell hb1 1 _ rfl
  have kf1 := blk_free hb1 1
  have H1 := hide hdec
  have H2 := hide hdst
  clear hown' hgr hgr' hg hb1 hdec hdst
  go_wp2
  go_ret
  exact ⟨rfl, _, unhide H1, unhide H2⟩

set_option maxRecDepth 20000 in
set_option maxHeartbeats 1000000 in
theorem put1_much (d f base c cap k : Nat) (st : DSt) (w : World) (h : Dec w d f base st) (_hx : w.cell? ⟨k, 0, none⟩ = some (.int .u8 (c : Nat))) (hroom : st.out.length = st.most) (_hm : st.most ≤ 1048576) (hcap : 1 ≤ cap) (hcap2 : cap ≤ 1000) :
    Calls Tryd.prog 73 #[.pointer (some ⟨d, 1, none⟩), .slice (some ⟨k, 0, none⟩) 1 cap] w
      fun e w' => e = .returned (.int .i64 11) ∧ Dec w' d f base st ∧ Wrt d w st.v w' st.v := by
  obtain ⟨_, c1, c2, _⟩ := h.cell
  have f1 := h.free 1
  have hfin : ∀ n, Dec ((w.setCell ⟨d, 1, none⟩ st.v).drewN n) d f base st ∧ Wrt d w st.v ((w.setCell ⟨d, 1, none⟩ st.v).drewN n) st.v := fun n =>
    ⟨(h.set (st' := st) 1 st.v (by simp [DSt.cells]) rfl rfl).other rfl (fun _ _ => rfl) (Nat.le_refl _), ⟨((Step.refl _ w).setCell (p := ⟨d, 1, none⟩) (.inl rfl) _).drewN n, fun _ h => .inl h⟩⟩
  have HF := hide hfin
  obtain ⟨hl, ⟨hv, hn⟩ | ⟨g, vcap, cur, hv, hg, hh, hnc, hcm, hcs, htk⟩⟩ := h.own
  · rw [hv] at c1
    rw [hn] at hroom
    have hm0 : st.most = 0 := hroom.symm
    rw [hm0] at c2
    have HV := hide hv
    clear h hv hfin hroom hm0 hn
    go_enter Tryd.func73, Tryd.ntmps73
    go_wp2
    go_quiet (fail)
    go_wp2
    go_region
    go_wp2
    go_ret
    rw [← unhide HV]
    exact ⟨rfl, unhide HF _⟩
  · have hroom' : ((st.most : Int) - (st.out.length : Int)) = 0 := by omega
    rw [hv] at c1
    have hm1 : (st.most : Int) = (st.out.length : Int) := by omega
    have HV := hide hv
    obtain ⟨i0, hi, hz0, hz1, hz2⟩ := info_parts Tryd.info5
    rw [hm1] at c2
    generalize st.out.length = n at *
    clear h hv hfin hroom hroom' hm1 hl hh hcs htk
    go_enter Tryd.func73, Tryd.ntmps73
    go_wp2
    go_quiet (fail)
    go_wp2
    have hsc : ∀ (W : World) (a b : Nat), W.setCells a b [] = W := fun _ _ _ => rfl
    go_region_law (refine step_append_room rfl (.tmp 24) (.tmp 27) 29 rfl 5 i0 1 Tryd.underlying29 hi hz1 g 0 n vcap (by simp [Act.eval]) ⟨k, 0, none⟩ 0 cap [] (by simp [Act.eval]) rfl (by simp) (by simp) (by omega) (by simp) ?_)
    go_wp2
    go_ret
    rw [← unhide HV]
    exact ⟨rfl, unhide HF _⟩

end Go.Proofs.YtnoemlailgbpoaaDoor
