/- Proved here: what fixedHead does. -/
import Derived.Test.YtnoemlailgbpoaaDoorFixCod
namespace Go.Proofs.YtnoemlailgbpoaaDoor
open Go.RowKit Go.Bel Go.Maps

theorem fix_end {d f base g off cap p cb m1 m2 l2 lg : Nat} {M2 : Tab} {B : List Nat} {st : DSt} {w : World} (h : OnD w d f base g off cap B st p)
    (hfx : st.fx = .pointer (some ⟨cb, 0, none⟩)) (hlg : lg = (dealAll fixLens).longest) (hcb : w.heap[cb]? = some (.cells #[.map (some m1), .int .i64 (lg : Nat), .map (some m2), .int .i64 (l2 : Nat)] 94 (0, 0))) (ht1 : TabAt w m1 (dealAll fixLens).tab) (ht2 : TabAt w m2 M2) (o0 : DOff d f st.v cb) (o1 : DOff d f st.v m1) (o2 : DOff d f st.v m2) :
    ∀ w', w' = (((((w.setCell ⟨d, 6, none⟩ (.map (some m1))).setCell ⟨d, 7, none⟩ (.int .i64 (lg : Nat))).setCell ⟨d, 8, none⟩ (.map (some m2))).setCell ⟨d, 9, none⟩ (.int .i64 (l2 : Nat))).setCell ⟨d, 3, none⟩ (.int .i64 2)) →
      OnD w' d f base g off cap B { st with sm := .map (some m1), sl := (dealAll fixLens).longest, dm := .map (some m2), dl := l2, fx := .pointer (some ⟨cb, 0, none⟩), place := 2 } p ∧ TabAt w' m1 (dealAll fixLens).tab ∧ FixAt w' d f st.v (.pointer (some ⟨cb, 0, none⟩)) ∧ Dst d f w st.v w' st.v := by
  rintro w' rfl
  have hd : Dst d f w st.v _ st.v := (((((Dst.setCell d f w st.v 6 (.map (some m1))).trans (Dst.setCell d f _ st.v 7 (.int .i64 (lg : Nat)))).trans (Dst.setCell d f _ st.v 8 (.map (some m2)))).trans (Dst.setCell d f _ st.v 9 (.int .i64 (l2 : Nat)))).trans (Dst.setCell d f _ st.v 3 (.int .i64 2)))
  refine ⟨?_, ht1.step hd.step o1.not, ?_, hd⟩
  · rw [← hlg, ← hfx]
    have a1 := h.set (st' := { st with sm := .map (some m1) }) 6 (.map (some m1)) (by simp [DSt.cells]) rfl rfl
    have a2 := a1.set (st' := { st with sm := .map (some m1), sl := lg }) 7 (.int .i64 (lg : Nat)) (by simp [DSt.cells]) rfl rfl
    have a3 := a2.set (st' := { st with sm := .map (some m1), sl := lg, dm := .map (some m2) }) 8 (.map (some m2)) (by simp [DSt.cells]) rfl rfl
    have a4 := a3.set (st' := { st with sm := .map (some m1), sl := lg, dm := .map (some m2), dl := l2 }) 9 (.int .i64 (l2 : Nat)) (by simp [DSt.cells]) rfl rfl
    exact a4.set (st' := { st with sm := .map (some m1), sl := lg, dm := .map (some m2), dl := l2, place := 2 }) 3 (.int .i64 2) (by simp [DSt.cells]) rfl rfl
  · rw [hlg] at hcb
    have hf0 : FixAt w d f st.v (.pointer (some ⟨cb, 0, none⟩)) := .inr ⟨cb, m1, m2, l2, M2, rfl, hcb, ht1, ht2, o0, o1, o2⟩
    exact hf0.step hd

set_option maxRecDepth 20000 in
set_option maxHeartbeats 1000000 in
theorem fixedHead_kept (d f base g off cap p cb m1 m2 l2 : Nat) (M2 : Tab) (B : List Nat) (st : DSt) (w : World) (h : OnD w d f base g off cap B st p) (hsm : ∃ x, st.sm = .map x) (hdm : ∃ x, st.dm = .map x)
    (hfx : st.fx = .pointer (some ⟨cb, 0, none⟩)) (hcb : w.heap[cb]? = some (.cells #[.map (some m1), .int .i64 ((dealAll fixLens).longest : Nat), .map (some m2), .int .i64 (l2 : Nat)] 94 (0, 0))) (ht1 : TabAt w m1 (dealAll fixLens).tab) (ht2 : TabAt w m2 M2) (o0 : DOff d f st.v cb) (o1 : DOff d f st.v m1) (o2 : DOff d f st.v m2) :
    Calls Tryd.prog 78 #[.pointer (some ⟨d, 0, none⟩)] w fun e w' => e = .returned (.int .i64 0) ∧ ∃ (mb : Nat) (fx dm : Value) (dl : Nat),
      OnD w' d f base g off cap B { st with sm := .map (some mb), sl := (dealAll fixLens).longest, dm := dm, dl := dl, fx := fx, place := 2 } p ∧ (∃ x, dm = .map x) ∧ TabAt w' mb (dealAll fixLens).tab ∧ DOff d f st.v mb ∧ FixAt w' d f st.v fx ∧ Dst d f w st.v w' st.v := by
  obtain ⟨x1, hx1⟩ := hsm
  obtain ⟨x2, hx2⟩ := hdm
  obtain ⟨_, _, _, k3, _, _, k6, k7, k8, k9, k10⟩ := h.dec.cell
  rw [hx1] at k6
  rw [hx2] at k8
  rw [hfx] at k10
  have f3 := h.dec.free 3
  have f6 := h.dec.free 6
  have f7 := h.dec.free 7
  have f8 := h.dec.free 8
  have f9 := h.dec.free 9
  obtain ⟨lg, hlg⟩ : ∃ lg, lg = (dealAll fixLens).longest := ⟨_, rfl⟩
  rw [← hlg] at hcb
  have b0 := (show w.cell? ⟨cb, 0, none⟩ = _ from blk_cell hcb 0 _ rfl)
  have b1 := (show w.cell? ⟨cb, 1, none⟩ = _ from blk_cell hcb 1 _ rfl)
  have b2 := (show w.cell? ⟨cb, 2, none⟩ = _ from blk_cell hcb 2 _ rfl)
  have b3 := (show w.cell? ⟨cb, 3, none⟩ = _ from blk_cell hcb 3 _ rfl)
  have hcd := o0.d
  have HH := hide h
  have HX1 := hide hx1
  have HX2 := hide hx2
  have HFX := hide hfx
  have HCB := hide hcb
  have HT1 := hide ht1
  have HT2 := hide ht2
  have HLG := hide hlg
  have O0 := hide o0
  have O1 := hide o1
  have O2 := hide o2
  clear h hx1 hx2 hfx hcb ht1 ht2 hlg o0 o1 o2
  go_enter Tryd.func78, Tryd.ntmps78
  go_wp2_with fail
  go_ret
  obtain ⟨r1, r2, r3, r4⟩ := fix_end (unhide HH) (unhide HFX) (unhide HLG) (unhide HCB) (unhide HT1) (unhide HT2) (unhide O0) (unhide O1) (unhide O2) _ rfl
  exact ⟨rfl, m1, _, _, l2, r1, ⟨_, rfl⟩, r2, unhide O1, r3, r4⟩

set_option maxRecDepth 20000 in
set_option maxHeartbeats 1000000 in
theorem fixedHead_new (d f base g off cap p : Nat) (B : List Nat) (st : DSt) (w : World) (h : OnD w d f base g off cap B st p) (hsm : ∃ x, st.sm = .map x) (hdm : ∃ x, st.dm = .map x) (hfx : st.fx = .pointer none) :
    Calls Tryd.prog 78 #[.pointer (some ⟨d, 0, none⟩)] w fun e w' => e = .returned (.int .i64 0) ∧ ∃ (mb : Nat) (fx dm : Value) (dl : Nat),
      OnD w' d f base g off cap B { st with sm := .map (some mb), sl := (dealAll fixLens).longest, dm := dm, dl := dl, fx := fx, place := 2 } p ∧ (∃ x, dm = .map x) ∧ TabAt w' mb (dealAll fixLens).tab ∧ DOff d f st.v mb ∧ FixAt w' d f st.v fx ∧ Dst d f w st.v w' st.v := by
  obtain ⟨x1, hx1⟩ := hsm
  obtain ⟨x2, hx2⟩ := hdm
  obtain ⟨_, _, _, _, _, _, _, _, _, _, k10⟩ := h.dec.cell
  rw [hfx] at k10
  have HH := hide h
  have HX1 := hide hx1
  have HX2 := hide hx2
  clear h hx1 hx2 hfx
  go_enter Tryd.func78, Tryd.ntmps78
  go_wp2_with fail
  refine (fixedCoding_ok w).mono ?_
  rintro e w1 ⟨R, mb, db, dl, rfl, hR, hcb, hmb, ht1, hdb, ht2, hst⟩
  have h1 := (unhide HH).step0 hst
  obtain ⟨_, _, _, k3, _, _, k6, k7, k8, k9, k10'⟩ := h1.dec.cell
  rw [unhide HX1] at k6
  rw [unhide HX2] at k8
  have f3 := h1.dec.free 3
  have f6 := h1.dec.free 6
  have f7 := h1.dec.free 7
  have f8 := h1.dec.free 8
  have f9 := h1.dec.free 9
  have f10 := h1.dec.free 10
  obtain ⟨lg, hlg⟩ : ∃ lg, lg = (dealAll fixLens).longest := ⟨_, rfl⟩
  rw [← hlg] at hcb
  have b0 := (show w1.cell? ⟨R, 0, none⟩ = _ from blk_cell hcb 0 _ rfl)
  have b1 := (show w1.cell? ⟨R, 1, none⟩ = _ from blk_cell hcb 1 _ rfl)
  have b2 := (show w1.cell? ⟨R, 2, none⟩ = _ from blk_cell hcb 2 _ rfl)
  have b3 := (show w1.cell? ⟨R, 3, none⟩ = _ from blk_cell hcb 3 _ rfl)
  have oo : ∀ k, w.heap.size ≤ k → DOff d f st.v k := fun k hk => by
    have z1 := (unhide HH).dec.dbase
    have z2 := (unhide HH).dec.fbase
    have z3 := (unhide HH).dec.base_le
    exact ⟨by omega, by omega, fun hx => by have z4 := ((unhide HH).dec.own.lt k hx).2; omega⟩
  have hRd := (oo R hR).d
  have hd1 : Dst d f w st.v w1 st.v := Dst.step0 hst
  have H1 := hide h1
  have HD1 := hide hd1
  have HCB := hide hcb
  have HT1 := hide ht1
  have HT2 := hide ht2
  have HLG := hide hlg
  have OO := hide oo
  clear h1 hcb ht1 ht2 hlg oo hd1 hst k10
  go_wp2_with fail
  go_ret
  have h2 : OnD (w1.setCell ⟨d, 10, none⟩ (.pointer (some ⟨R, 0, none⟩))) d f base g off cap B { st with fx := .pointer (some ⟨R, 0, none⟩) } p := (unhide H1).set 10 _ (by simp [DSt.cells]) rfl rfl
  have hd2 := Dst.setCell d f w1 st.v 10 (.pointer (some ⟨R, 0, none⟩))
  obtain ⟨r1, r2, r3, r4⟩ := fix_end (st := { st with fx := .pointer (some ⟨R, 0, none⟩) }) h2 rfl (unhide HLG) (hd2.step.at_ (unhide HCB) (unhide OO R hR).not) ((unhide HT1).step hd2.step (unhide OO mb hmb).not) ((unhide HT2).step hd2.step (unhide OO db hdb).not) (unhide OO R hR) (unhide OO mb hmb) (unhide OO db hdb) _ rfl
  exact ⟨rfl, mb, _, _, dl, r1, ⟨_, rfl⟩, r2, unhide OO mb hmb, r3, ((unhide HD1).trans hd2).trans r4⟩

theorem fixedHead_said : FixedHeadSaid := by
  intro d f base g off cap p B st w h hf hsm hdm
  rcases hf with hf | ⟨cb, m1, m2, l2, M2, e1, e2, e3, e4, e5, e6, e7⟩
  · exact fixedHead_new d f base g off cap p B st w h hsm hdm hf
  · exact fixedHead_kept d f base g off cap p cb m1 m2 l2 M2 B st w h hsm hdm e1 e2 e3 e4 e5 e6 e7
end Go.Proofs.YtnoemlailgbpoaaDoor
