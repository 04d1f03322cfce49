/- Proved here: what fixedHead does, both its tables told. -/
import Derived.Test.YtbpahojchgpdnaaGreatDoorFixCod
import Derived.Test.YtbpahojchgpdnaaGreatDoorKept
set_option maxRecDepth 20000
set_option maxHeartbeats 4000000
namespace Go.Proofs.YtbpahojchgpdnaaGreatDoor
open Go.RowKit Go.Bel Go.Maps
theorem fixLensG_eq : fixLensG = fixLens := rfl
theorem fixG_end {d f base g off cap z p cb m1 m2 lg l2 : Nat} {B : List Nat} {st : DSt} {w : World} (h : OnD w d f base g off cap z B st p)
  (hfx : st.fx = .pointer (some ⟨cb, 0, none⟩)) (hlg : lg = (dealAll fixLensG).longest) (hl2 : l2 = (dealAll fixDist).longest) (hcb : w.heap[cb]? = some (.cells #[.map (some m1), .int .i64 (lg : Nat), .map (some m2), .int .i64 (l2 : Nat)] 125 (0, 0))) (ht1 : TabAt w m1 (dealAll fixLensG).tab) (ht2 : TabAt w m2 (dealAll fixDist).tab) (o0 : DOff d f st.v cb) (o1 : DOff d f st.v m1) (o2 : DOff d f st.v m2) :
  ∀ w', w' = (((((w.setCell ⟨d, 7, none⟩ (.map (some m1))).setCell ⟨d, 8, none⟩ (.int .i64 (lg : Nat))).setCell ⟨d, 9, none⟩ (.map (some m2))).setCell ⟨d, 10, none⟩ (.int .i64 (l2 : Nat))).setCell ⟨d, 4, none⟩ (.int .i64 2)) →
   OnD w' d f base g off cap z B { st with sm := .map (some m1), sl := lg, dm := .map (some m2), dl := l2, place := 2 } p ∧ Tabs w' d f st.v { st with sm := .map (some m1), sl := lg, dm := .map (some m2), dl := l2, place := 2 } fixLensG fixDist ∧ FixG w' d f st.v st.fx ∧ Dst d f w st.v w' st.v := by
 rintro w' rfl
 have hd : Dst d f w st.v _ st.v := (((((Dst.setCell d f w st.v 7 (.map (some m1))).trans (Dst.setCell d f _ st.v 8 (.int .i64 (lg : Nat)))).trans (Dst.setCell d f _ st.v 9 (.map (some m2)))).trans (Dst.setCell d f _ st.v 10 (.int .i64 (l2 : Nat)))).trans (Dst.setCell d f _ st.v 4 (.int .i64 2)))
 refine ⟨?_, ⟨⟨m1, rfl, ht1.step hd.step o1.not, o1⟩, hlg, ⟨some m2, rfl, .inr ⟨m2, rfl, ht2.step hd.step o2.not, o2⟩⟩, hl2, by rw [fixLensG_eq, fixLens_length]; omega, by unfold fixDist; rw [List.length_replicate]; omega⟩, ?_, hd⟩
 ·have a1 := h.set (st' := { st with sm := .map (some m1) }) 7 (.map (some m1)) (by simp [DSt.cells]) rfl rfl
  have a2 := a1.set (st' := { st with sm := .map (some m1), sl := lg }) 8 (.int .i64 (lg : Nat)) (by simp [DSt.cells]) rfl rfl
  have a3 := a2.set (st' := { st with sm := .map (some m1), sl := lg, dm := .map (some m2) }) 9 (.map (some m2)) (by simp [DSt.cells]) rfl rfl
  have a4 := a3.set (st' := { st with sm := .map (some m1), sl := lg, dm := .map (some m2), dl := l2 }) 10 (.int .i64 (l2 : Nat)) (by simp [DSt.cells]) rfl rfl
  exact a4.set (st' := { st with sm := .map (some m1), sl := lg, dm := .map (some m2), dl := l2, place := 2 }) 4 (.int .i64 2) (by simp [DSt.cells]) rfl rfl
 ·rw [hlg, hl2] at hcb
  have hf0 : FixG w d f st.v (.pointer (some ⟨cb, 0, none⟩)) := .inr ⟨cb, m1, m2, rfl, hcb, ht1, ht2, o0, o1, o2⟩
  rw [hfx]
  exact hf0.step hd
def FixedP (d f base g off cap z p : Nat) (B : List Nat) (st : DSt) (w : World) (e : Ending) (w' : World) : Prop :=
 e = .returned (.int .i64 0) ∧ ∃ st', st'.v = st.v ∧ (st'.out = st.out ∧ st'.fresh = st.fresh) ∧ st'.room = st.room ∧ st'.place = 2 ∧ st'.last = st.last ∧ st'.left = st.left ∧ OnD w' d f base g off cap z B st' p ∧ Tabs w' d f st.v st' fixLensG fixDist ∧ FixG w' d f st.v st'.fx ∧ Dst d f w st.v w' st.v
theorem fixedHead_keptG (d f base g off cap z p cb m1 m2 : Nat) (B : List Nat) (st : DSt) (w : World) (h : OnD w d f base g off cap z B st p) (hsm : ∃ x, st.sm = .map x) (hdm : ∃ x, st.dm = .map x)
  (hfx : st.fx = .pointer (some ⟨cb, 0, none⟩)) (hcb : w.heap[cb]? = some (.cells #[.map (some m1), .int .i64 ((dealAll fixLensG).longest : Nat), .map (some m2), .int .i64 ((dealAll fixDist).longest : Nat)] 125 (0, 0))) (ht1 : TabAt w m1 (dealAll fixLensG).tab) (ht2 : TabAt w m2 (dealAll fixDist).tab) (o0 : DOff d f st.v cb) (o1 : DOff d f st.v m1) (o2 : DOff d f st.v m2) :
  Calls Tryz.prog 194 #[.pointer (some ⟨d, 0, none⟩)] w fun e w' => FixedP d f base g off cap z p B st w e w' := by
 obtain ⟨x1, hx1⟩ := hsm
 obtain ⟨x2, hx2⟩ := hdm
 obtain ⟨_, _, _, k3, _, _, k6, k7, k8, k9, k10, _⟩ := h.dec.cell
 rw [hx1] at k6
 rw [hx2] at k8
 rw [hfx] at k10
 have f3 := h.dec.free 4
 have f6 := h.dec.free 7
 have f7 := h.dec.free 8
 have f8 := h.dec.free 9
 have f9 := h.dec.free 10
 obtain ⟨lg, hlg⟩ : ∃ lg, lg = (dealAll fixLensG).longest := ⟨_, rfl⟩
 obtain ⟨l2, hl2⟩ : ∃ l2, l2 = (dealAll fixDist).longest := ⟨_, rfl⟩
 rw [← hlg, ← hl2] at hcb
 have b0 := (show w.cell? ⟨cb, 0, none⟩ = _ from blk_cell hcb 0 _ rfl)
 have b1 := (show w.cell? ⟨cb, 1, none⟩ = _ from blk_cell hcb 1 _ rfl)
 have b2 := (show w.cell? ⟨cb, 2, none⟩ = _ from blk_cell hcb 2 _ rfl)
 have b3 := (show w.cell? ⟨cb, 3, none⟩ = _ from blk_cell hcb 3 _ rfl)
 have hcd := o0.d
 have HFIN := hide (fixG_end h hfx hlg hl2 hcb ht1 ht2 o0 o1 o2 _ rfl)
 clear h hx1 hx2 hfx hcb ht1 ht2 hlg o0 o1 o2 hl2
 go_enter Tryz.func194, Tryz.ntmps194
 go_wp2_with fail
 go_ret
 obtain ⟨r1, r2, r3, r4⟩ := unhide HFIN
 exact ⟨rfl, { st with sm := .map (some m1), sl := lg, dm := .map (some m2), dl := l2, place := 2 }, rfl, ⟨rfl, rfl⟩, rfl, rfl, rfl, rfl, r1, r2, r3, r4⟩
theorem fixedHead_newG (d f base g off cap z p : Nat) (B : List Nat) (st : DSt) (w : World) (h : OnD w d f base g off cap z B st p) (hsm : ∃ x, st.sm = .map x) (hdm : ∃ x, st.dm = .map x) (hfx : st.fx = .pointer none) :
  Calls Tryz.prog 194 #[.pointer (some ⟨d, 0, none⟩)] w fun e w' => FixedP d f base g off cap z p B st w e w' := by
 obtain ⟨x1, hx1⟩ := hsm
 obtain ⟨x2, hx2⟩ := hdm
 obtain ⟨_, _, _, _, _, _, _, _, _, _, k10, _⟩ := h.dec.cell
 rw [hfx] at k10
 have HH := hide h
 have HX1 := hide hx1
 have HX2 := hide hx2
 clear h hx1 hx2 hfx
 go_enter Tryz.func194, Tryz.ntmps194
 go_wp2_with fail
 refine (fixedCoding_ok w).mono ?_
 rintro e w1 ⟨R, mb, db, l2, rfl, hR, hcb, hmb, ht1, hdb, ht2, hst, hl2⟩
 have h1 := (unhide HH).step0 hst
 obtain ⟨_, _, _, k3, _, _, k6, k7, k8, k9, k10', _⟩ := h1.dec.cell
 rw [unhide HX1] at k6
 rw [unhide HX2] at k8
 have f3 := h1.dec.free 4
 have f6 := h1.dec.free 7
 have f7 := h1.dec.free 8
 have f8 := h1.dec.free 9
 have f9 := h1.dec.free 10
 have f10 := h1.dec.free 11
 obtain ⟨lg, hlg⟩ : ∃ lg, lg = (dealAll fixLens).longest := ⟨_, rfl⟩
 rw [← hlg] at hcb
 have b0 := (show w1.cell? ⟨R, 0, none⟩ = _ from blk_cell hcb 0 _ rfl)
 have b1 := (show w1.cell? ⟨R, 1, none⟩ = _ from blk_cell hcb 1 _ rfl)
 have b2 := (show w1.cell? ⟨R, 2, none⟩ = _ from blk_cell hcb 2 _ rfl)
 have b3 := (show w1.cell? ⟨R, 3, none⟩ = _ from blk_cell hcb 3 _ rfl)
 have oo : ∀ k, w.heap.size ≤ k → DOff d f st.v k := fun k hk => by
  have z1 := (unhide HH).dec.dbase
  have z2 := (unhide HH).dec.fbase
  have z3 := (unhide HH).dec.base_le
  exact ⟨by omega, by omega, fun hx => by have z4 := ((unhide HH).dec.own.lt k hx).2; omega⟩
 have hRd := (oo R hR).d
 have hd1 : Dst d f w st.v w1 st.v := Dst.step0 hst
 have H1 := hide h1
 have HD1 := hide hd1
 have HCB := hide hcb
 have HT1 := hide ht1
 have HT2 := hide ht2
 have HLG := hide hlg
 have HL2 := hide hl2
 have OO := hide oo
 clear h1 hcb ht1 ht2 hlg oo hd1 hst k10 hl2
 go_wp2_with fail
 go_ret
 have h2 : OnD (w1.setCell ⟨d, 11, none⟩ (.pointer (some ⟨R, 0, none⟩))) d f base g off cap z B { st with fx := .pointer (some ⟨R, 0, none⟩) } p := (unhide H1).set 11 _ (by simp [DSt.cells]) rfl rfl
 have hd2 := Dst.setCell d f w1 st.v 11 (.pointer (some ⟨R, 0, none⟩))
 obtain ⟨r1, r2, r3, r4⟩ := fixG_end (st := { st with fx := .pointer (some ⟨R, 0, none⟩) }) h2 rfl (unhide HLG) (unhide HL2) (hd2.step.at_ (unhide HCB) (unhide OO R hR).not) ((unhide HT1).step hd2.step (unhide OO mb hmb).not) ((unhide HT2).step hd2.step (unhide OO db hdb).not) (unhide OO R hR) (unhide OO mb hmb) (unhide OO db hdb) _ rfl
 exact ⟨rfl, { st with fx := .pointer (some ⟨R, 0, none⟩), sm := .map (some mb), sl := lg, dm := .map (some db), dl := l2, place := 2 }, rfl, ⟨rfl, rfl⟩, rfl, rfl, rfl, rfl, r1, r2, r3, ((unhide HD1).trans hd2).trans r4⟩
theorem fixedHead_any (d f base g off cap z p : Nat) (B : List Nat) (st : DSt) (w : World) (h : OnD w d f base g off cap z B st p) (hf : FixG w d f st.v st.fx) (hsm : ∃ x, st.sm = .map x) (hdm : ∃ x, st.dm = .map x) :
  Calls Tryz.prog 194 #[.pointer (some ⟨d, 0, none⟩)] w fun e w' => FixedP d f base g off cap z p B st w e w' := by
 rcases hf with hf | ⟨cb, m1, m2, e1, e2, e3, e4, e5, e6, e7⟩
 ·exact fixedHead_newG d f base g off cap z p B st w h hsm hdm hf
 ·exact fixedHead_keptG d f base g off cap z p cb m1 m2 B st w h hsm hdm e1 e2 e3 e4 e5 e6 e7
end Go.Proofs.YtbpahojchgpdnaaGreatDoor
