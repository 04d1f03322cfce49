/- Proved here: what the reference's told does. -/
import Derived.Deep.DeepCutAuto
import Derived.Deep.CutBlock
import Derived.Test.YtbpahojchgpdnaaGreatDoorXTold
set_option maxRecDepth 20000
set_option maxHeartbeats 4000000
namespace Go.Proofs.YtbpahojchgpdnaaGreatDoor
open Go.RowKit Go.Bel
def orderCells : Array Value := #[.int .i64 16, .int .i64 17, .int .i64 18, .int .i64 0, .int .i64 8, .int .i64 7, .int .i64 9, .int .i64 6, .int .i64 10, .int .i64 5, .int .i64 11, .int .i64 4, .int .i64 12, .int .i64 3, .int .i64 13, .int .i64 2, .int .i64 14, .int .i64 1, .int .i64 15]
theorem sizeO : (Tryz.prog.info? 216).map (·.size) = some orderCells.size := by kernel_rfl
theorem orderOne : orderCells.all (·.oneCell') = true := by kernel_rfl
theorem orderCell (i : Nat) (h : i < 19) : orderCells[i]? = some (.int .i64 (orderList[i]?.getD 0 : Nat)) := by
 have : i = 0 ∨ i = 1 ∨ i = 2 ∨ i = 3 ∨ i = 4 ∨ i = 5 ∨ i = 6 ∨ i = 7 ∨ i = 8 ∨ i = 9 ∨ i = 10 ∨ i = 11 ∨ i = 12 ∨ i = 13 ∨ i = 14 ∨ i = 15 ∨ i = 16 ∨ i = 17 ∨ i = 18 := by omega
 rcases this with rfl | rfl | rfl | rfl | rfl | rfl | rfl | rfl | rfl | rfl | rfl | rfl | rfl | rfl | rfl | rfl | rfl | rfl | rfl <;> rfl
theorem XAt.setOff {w : World} {x base F : Nat} {b : ByteArray} {s : XS} (h : XAt w x base b s) (ho : Off x s.v F) (i : Nat) (u : Value) : XAt (w.setCell ⟨F, i, none⟩ u) x base b s :=
 h.step ((Step.refl (fun k => k = F) w).setCell (p := ⟨F, i, none⟩) rfl u) (fun e => ho.1 e.symm) (fun _ hk e => ho.2 (e ▸ hk))
structure ToldW (w wr : World) (x base : Nat) (b : ByteArray) (s s2 : XS) : Prop where
 xat : XAt wr x base b s2
 v_ : s2.v = s.v
 wrt : Wrt x w s.v wr s.v
def lensOf (G : Nat → Nat) : List Nat := (List.range 19).map G
theorem lensOf_length (G : Nat → Nat) : (lensOf G).length = 19 := by simp [lensOf]
theorem lensOf_get (G : Nat → Nat) (i : Nat) (hi : i < 19) : (lensOf G)[i]?.getD 0 = G i := by simp [lensOf, hi]
theorem lensOf_ints {w : World} {F : Nat} {G : Nat → Nat} (h : RowAt w F 3 19 (fun i => nat (G i))) (hG : ∀ i, G i ≤ 15) : Ints w F 0 (lensOf G) :=
 ⟨fun i hi => by rw [lensOf_length] at hi; rw [lensOf_get G i hi, Nat.zero_add]; exact h.cell i hi, fun i => by
  by_cases hi : i < 19
  ·rw [lensOf_get G i hi]; exact hG i
  ·rw [List.getElem?_eq_none (by rw [lensOf_length]; omega)]; simp, by rw [lensOf_length]; omega⟩
def MayX (b : ByteArray) (s : XS) (m f c : Nat) (L : List Nat) (s5 : XS) : Prop :=
 (s5 = { s with at_ := s.at_ + 14 + 3 * c } ∧ Well b s m f c ∧ s.at_ + 14 + 3 * c ≤ 8 * b.size ∧ L = firstLens (bytesOf b) (s.at_ + 14) c ∧ mayB L = true) ∨ Ill b s s5
theorem mayX_of {b : ByteArray} {s s2 : XS} {m f c : Nat} {G : Nat → Nat} (h : FirstX b s m f c c G s2) (hm : mayB (lensOf G) = true) : MayX b s m f c (lensOf G) s2 := by
 rcases h with ⟨h1, h2, h3, h4⟩ | h
 ·exact .inl ⟨h1, h2, h3, by rw [h4]; rfl, hm⟩
 ·exact .inr h
theorem mayX_no {b : ByteArray} {s s2 : XS} {m f c : Nat} {G : Nat → Nat} (h0 : s.err = 0) (h : FirstX b s m f c c G s2) (hm : ¬ mayB (lensOf G) = true) : MayX b s m f c (lensOf G) { s2 with err := if s2.err = 0 then 7 else s2.err } := by
 rcases h with ⟨rfl, h2, h3, rfl⟩ | ⟨e, a, hb, ha, rfl⟩
 ·refine .inr ⟨7, _, .inl ⟨?_, by omega⟩, h3, ?_⟩
  ·have hm' : ¬ mayB (firstLens (bytesOf b) (s.at_ + 14) c) = true := hm
   rw [h2.rC, if_pos h3, if_neg hm']
  ·dsimp only
   rw [if_pos h0]
 ·refine .inr ⟨e, a, hb, ha, ?_⟩
  dsimp only
  rw [if_neg hb.ne]
def EndX (b : ByteArray) (s : XS) (m f : Nat) (row : List Nat) (s7 : XS) : Prop :=
 (∃ q, q ≤ 8 * b.size ∧ s7 = { s with at_ := q } ∧ row.length = m + f ∧ rCoding (bytesOf b) s.at_ = rDealt row m q) ∨ Ill b s s7
theorem endX_of {b : ByteArray} {s s7 : XS} {m f c g : Nat} {row : List Nat} (h0 : s.err = 0) (hW : Well b s m f c) (hle : s.at_ + 14 + 3 * c ≤ 8 * b.size) (hm : mayB (firstLens (bytesOf b) (s.at_ + 14) c) = true)
  (h : RowX (dealAll (firstLens (bytesOf b) (s.at_ + 14) c)) b s (m + f) (s.at_ + 14 + 3 * c) g row s7) (hx : s7.err ≠ 0 ∨ m + f ≤ row.length) : EndX b s m f row s7 := by
 rcases h with ⟨p2, hp, rfl, hr, hn1, hn2⟩ | ⟨e, a, hb, ha, rfl⟩
 ·rcases hx with hx | hx
  ·exact absurd h0 hx
  ·refine .inl ⟨p2, hp, rfl, by omega, ?_⟩
   rw [rRowF_done _ _ _ _ _ _ hx] at hr
   rw [hW.rC, if_pos hle, if_pos hm, ← hr]
 ·refine .inr ⟨e, a, ?_, ha, rfl⟩
  rcases hb with ⟨hb, he⟩ | ⟨hb, he⟩
  ·exact .inl ⟨by rw [hW.rC, if_pos hle, if_pos hm, hb], he⟩
  ·exact .inr ⟨by rw [hW.rC, if_pos hle, if_pos hm, hb], he⟩
theorem rowX_next {D : Dealt} {b : ByteArray} {s s7 : XS} {n p0 g : Nat} {row : List Nat} {w w' : World} {x base C lb : Nat} {lv' : Value} {s' : XS} (h0 : s7.err = 0) (hlt : row.length < n) (h : RowX D b s n p0 g row s7)
  (hp : LensP (rowStep D (bytesOf b) n s7.at_ row) w x base C lb b s7 row lv' s' w') : ∃ row' g', g = g' + 1 ∧ RowX D b s n p0 g' row' s' ∧ LRow w' lb x C s7.v lv' row' ∧ row'.length ≤ n ∧ s'.v = s7.v := by
 rcases h with ⟨p2, hp2, rfl, hr, hn1, hn2⟩ | ⟨e, a, hb, ha, rfl⟩
 ·obtain ⟨g', rfl⟩ : ∃ j, g = j + 1 := ⟨g - 1, by omega⟩
  rw [rRowF_step _ _ _ _ _ _ hlt] at hr
  obtain ⟨hx, hst, hm⟩ := hp
  dsimp only at hm
  cases hrs : rowStep D (bytesOf b) n p2 row with
  | ok row' q =>
   have h1 := rowStep_ok hrs
   rw [hrs] at hr hm
   obtain ⟨rfl, hrow⟩ := hm
   exact ⟨row', g', rfl, .inl ⟨q, hx.there, rfl, hr, by omega, h1.2⟩, hrow, h1.2, rfl⟩
  | no e =>
   have h1 := rowStep_no hrs
   rw [hrs] at hr hm
   obtain ⟨⟨a, ha, rfl⟩, hrow⟩ := hm
   exact ⟨row, g', rfl, .inr ⟨e, a, .inl ⟨hr.symm, h1⟩, ha, rfl⟩, hrow, hn2, rfl⟩
  | miss =>
   rw [hrs] at hr hm
   obtain ⟨⟨a, ha, rfl⟩, hrow⟩ := hm
   exact ⟨row, g', rfl, .inr ⟨3, a, .inr ⟨hr.symm, rfl⟩, ha, rfl⟩, hrow, hn2, rfl⟩
 ·exact absurd h0 hb.ne
theorem toldX_any : ToldXSaid := by
 intro x base b s w h h0
 obtain ⟨i0, hi, hz0, hz1, hz2⟩ := info_parts Tryz.info3
 have hst0 := h.there
 have hn1 := number_any x base 5 b s w h (by omega)
 have hl1 := numX_lt b s 5
 have hv1 := (numX_v b s 5).1
 have HHEAD := hide (headX b s h0 hst0)
 obtain ⟨p1, hp1⟩ : ∃ p, p = numX b s 5 := ⟨_, rfl⟩
 rw [← hp1] at hn1 hl1 hv1
 have HP1 := hide hp1
 have HN1 := hide hn1
 have HX0 := hide h
 clear hp1 hn1 h
 go_enter Tryz.func144, Tryz.ntmps144
 go_wp2_with fail
 refine (unhide HN1).mono ?_
 rintro r w1 ⟨rfl, hx1, hw1⟩
 have hn2 := number_any x base 5 b p1.2 w1 hx1 (by omega)
 have hl2 := numX_lt b p1.2 5
 have hv2 := (numX_v b p1.2 5).1
 obtain ⟨p2, hp2⟩ : ∃ p, p = numX b p1.2 5 := ⟨_, rfl⟩
 rw [← hp2] at hn2 hl2 hv2
 rw [hv1] at hn2 hv2
 have HP2 := hide hp2
 have HN2 := hide hn2
 have HW1 := hide hw1
 clear hp2 hn2 hx1 hw1
 go_wp2_with fail
 refine (unhide HN2).mono ?_
 rintro r w2 ⟨rfl, hx2, hw2⟩
 have hn3 := number_any x base 4 b p2.2 w2 hx2 (by omega)
 have hl3 := numX_lt b p2.2 4
 have hv3 := (numX_v b p2.2 4).1
 obtain ⟨p3, hp3⟩ : ∃ p, p = numX b p2.2 4 := ⟨_, rfl⟩
 rw [← hp3] at hn3 hl3 hv3
 rw [hv2] at hn3 hv3
 have HP3 := hide hp3
 have HN3 := hide hn3
 have HW2 := hide ((unhide HW1).trans hw2)
 clear hp3 hn3 hx2 hw2
 go_wp2_with fail
 refine (unhide HN3).mono ?_
 rintro r w3 ⟨rfl, hx3, hw3⟩
 have hw03 := (unhide HW2).trans hw3
 have hhead := unhide HHEAD p1.1 p2.1 p3 (by rw [unhide HP1]) (by rw [unhide HP2, unhide HP1]) (by rw [unhide HP3, unhide HP2, unhide HP1])
 obtain ⟨m1, hm1⟩ : ∃ m, m = p1.1 := ⟨_, rfl⟩
 obtain ⟨f1, hf1⟩ : ∃ m, m = p2.1 := ⟨_, rfl⟩
 obtain ⟨c1, hc1⟩ : ∃ m, m = p3.1 := ⟨_, rfl⟩
 rw [← hm1, ← hf1, ← hc1] at hhead
 rw [← hm1] at hl1 ⊢
 rw [← hf1] at hl2 ⊢
 rw [← hc1] at hl3 ⊢
 have HX3 := hide hx3
 have HW3 := hide hw03
 have HHD := hide hhead
 clear hx3 hw3 hw03 hhead hm1 hf1 hc1 HHEAD HP1 HP2 HP3 HN1 HN2 HN3 HW1 HW2
 have hbr : (¬ (286 < m1 + 257 ∨ 30 < f1 + 1) ∧ FirstX b s (m1 + 257) (f1 + 1) (c1 + 4) 0 (fun _ => 0) p3.2) ∨ ((286 < m1 + 257 ∨ 30 < f1 + 1) ∧ Ill b s { p3.2 with err := if p3.2.err = 0 then 7 else p3.2.err }) := by
  rcases unhide HHD with ⟨e1, e2, e3⟩ | ⟨e1, e2⟩ | h9
  ·exact .inl ⟨e3, .inl ⟨by rw [e1], e2, by have := e2.there; omega, rfl⟩⟩
  ·exact .inl ⟨e1, .inr e2⟩
  ·exact .inr h9
 clear HHD
 have hm32 : m1 < 32 := hl1
 have hf32 : f1 < 32 := hl2
 have hc16 : c1 < 16 := hl3
 clear hl1 hl2 hl3
 go_upto_region 4 with fail
 go_cut [29] (fun bv wc => bv = .bool (decide (286 < m1 + 257 ∨ 30 < f1 + 1)) ∧ wc = w3)
 case first =>
  clear hbr
  by_cases h8 : 286 < m1 + 257
  ·have h8i : 286 < (m1 : Int) + 257 := by omega
   have hd : decide (286 < m1 + 257 ∨ 30 < f1 + 1) = true := decide_eq_true (.inl h8)
   go_wp2_with fail
   go_meet
   case rel => exact ⟨by rw [hd], rfl⟩
  ·have h8i : ¬ (286 < (m1 : Int) + 257) := by omega
   by_cases h9 : 30 < f1 + 1
   ·have h9i : 30 < (f1 : Int) + 1 := by omega
    have hd : decide (286 < m1 + 257 ∨ 30 < f1 + 1) = true := decide_eq_true (.inr h9)
    go_wp2_with fail
    go_meet
    case rel => exact ⟨by rw [hd], rfl⟩
   ·have h9i : ¬ (30 < (f1 : Int) + 1) := by omega
    have hd : decide (286 < m1 + 257 ∨ 30 < f1 + 1) = false := decide_eq_false (by omega)
    go_wp2_with fail
    go_meet
    case rel => exact ⟨by rw [hd], rfl⟩
 case rest =>
 obtain ⟨rfl, hwc3⟩ := hcut
 have hx3 := unhide HX3
 have hw3 := unhide HW3
 rw [← hwc3] at hx3 hw3
 clear HX3 HW3 hwc3
 obtain ⟨w3', hwn⟩ : ∃ W, W = wc := ⟨_, rfl⟩
 subst hwn
 have HX3 := hide hx3
 have HW3 := hide hw3
 clear hx3 hw3
 go_upto_if 29 with fail
 go_cut [31] (fun u wc => ∃ s4, ToldW w wc x base b s s4 ∧ FirstX b s (m1 + 257) (f1 + 1) (c1 + 4) 0 (fun _ => 0) s4)
 case first =>
  rcases hbr with ⟨hno, hfx⟩ | ⟨hyes, hill⟩
  ·rw [decide_eq_false hno]
   have HFX := hide hfx
   clear hfx
   go_wp2_with fail
   go_meet
   case rel => exact ⟨p3.2, ⟨unhide HX3, hv3, unhide HW3⟩, unhide HFX⟩
  ·rw [decide_eq_true hyes]
   have HIL := hide hill
   clear hill
   go_wp2_with fail
   refine (fail_any x base 7 b p3.2 w3' (unhide HX3)).mono ?_
   rintro r w4 ⟨rfl, hx4, hw4⟩
   rw [hv3] at hw4
   have HX4 := hide hx4
   have HW4 := hide ((unhide HW3).trans hw4)
   clear hx4 hw4
   go_wp2_with fail
   go_meet
   case rel => exact ⟨_, ⟨unhide HX4, hv3, unhide HW4⟩, .inr (unhide HIL)⟩
 case rest =>
  obtain ⟨s4, hat, hfx⟩ := hcut
  obtain ⟨w4, hwn⟩ : ∃ W, W = wc := ⟨_, rfl⟩
  subst hwn
  have HAT := hide hat
  have HFX := hide hfx
  clear hat hfx hbr HX3 HW3
  go_upto_region 6 with fail
  go_cut [7] (fun p wd => p = .pointer (some ⟨w4.heap.size, 0, none⟩) ∧ wd = w4.alloc (.cells orderCells 216))
  case first =>
   go_wp2_with (refine wpList_store_row rfl 216 (.tmp 7) (.tmp 32) rfl w4.heap.size orderCells rfl rfl 216 _ (heap_alloc_new _ _) sizeO rfl orderOne ?_)
   go_meet
   case rel => exact ⟨rfl, by rw [World.setRow_alloc_new]⟩
  case rest =>
   obtain ⟨rfl, hwd⟩ := hcut
   obtain ⟨wd, hwn⟩ : ∃ W, W = wc := ⟨_, rfl⟩
   subst hwn
   obtain ⟨O, hO⟩ : ∃ O, O = w4.heap.size := ⟨_, rfl⟩
   rw [← hO]
   have hsO : Step (fun _ => False) w4 wd := by rw [hwd]; exact (Step.refl _ _).alloc _
   have hrO : wd.heap[O]? = some (.cells orderCells 216 (0, 0)) := by rw [hwd, hO]; exact heap_alloc_new _ _
   have hat5 : ToldW w wd x base b s s4 := ⟨(unhide HAT).xat.step0 hsO, (unhide HAT).v_, (unhide HAT).wrt.step0 hsO⟩
   have hOw : w.heap.size ≤ O := by have := (unhide HAT).wrt.step.size; omega
   clear hwd hO hsO HAT
   have HAT5 := hide hat5
   have HRO := hide hrO
   clear hat5 hrO
   go_wp2_with (at_make; refine wpList_make_full _ rfl _ _ 57 rfl wd.heap.size 3 i0 (.int .i64 0) 1 Tryz.underlying57 hi hz0 hz1 .i64 .i64 _ _ 19 rfl rfl rfl rfl (by rw [hz2]; omega) (by unfold maxLen; omega) (Nat.le_refl _) ?_; intro w6 hown6 hgr6)
   have hrow := made_row hown6
   have hst6 : Step (fun _ => False) wd w6 := (Step.refl _ wd).grown hgr6 (fun k hk => by cases hk)
   obtain ⟨F, hF⟩ : ∃ F, F = wd.heap.size := ⟨_, rfl⟩
   rw [← hF] at hrow ⊢
   have hOF : O < F := by have := lt_of_block (unhide HRO); omega
   have hxF : Off x s.v F := by
    have hx := (unhide HAT5).xat
    have hxb := hx.xbase
    have hxl := hx.base_le
    refine ⟨by omega, fun hk => ?_⟩
    have := (hx.own.lt F (by rw [(unhide HAT5).v_]; exact hk)).2
    omega
   have hxO : Off x s.v O := by
    have hx := (unhide HX0)
    have hxb := hx.xbase
    have hxl := hx.base_le
    refine ⟨by omega, fun hk => ?_⟩
    have := (hx.own.lt O hk).2
    omega
   have hFw : w.heap.size ≤ F := by omega
   have HINV := hide (show ToldW w w6 x base b s s4 ∧ w6.heap[O]? = some (.cells orderCells 216 (0, 0)) ∧ RowAt w6 F 3 19 (fun i => nat ((fun _ => 0 : Nat → Nat) i)) from
    ⟨⟨(unhide HAT5).xat.step0 hst6, (unhide HAT5).v_, (unhide HAT5).wrt.step0 hst6⟩, hst6.at_ (unhide HRO) (fun x => x), hrow⟩)
   clear hown6 hgr6 hrow hst6 hF HAT5 HRO
   go_wp2_with fail
   go_loopw [9] (fun i wr => ∃ (k : Nat) (G : Nat → Nat) (s5 : XS), i = .int .i64 (k : Nat) ∧ k ≤ c1 + 4 ∧ (∀ j, G j ≤ 15) ∧ FirstX b s (m1 + 257) (f1 + 1) (c1 + 4) k G s5 ∧ ToldW w wr x base b s s5 ∧ wr.heap[O]? = some (.cells orderCells 216 (0, 0)) ∧ RowAt wr F 3 19 (fun i => nat (G i))) (fun i _ => c1 + 4 - (intOf i).toNat)
   case atStart => exact ⟨0, fun _ => 0, s4, rfl, by omega, fun _ => by simp, unhide HFX, (unhide HINV).1, (unhide HINV).2.1, (unhide HINV).2.2⟩
   case round =>
    clear HINV HFX
    obtain ⟨k, G, s5, rfl, hk, hG, hfx, hat, hro, hrow⟩ := hrel
    by_cases hlt : k < c1 + 4
    ·have hoc := (show wr.cell? ⟨O, k, none⟩ = some (.int .i64 (orderList[k]?.getD 0 : Nat)) from blk_cell hro k _ (orderCell k (by omega)))
     have hq := order_lt k
     obtain ⟨q, hqe⟩ : ∃ q, q = orderList[k]?.getD 0 := ⟨_, rfl⟩
     rw [← hqe] at hoc hq
     have hnum := number_any x base 3 b s5 wr.drew (hat.xat.step0 ((Step.refl (fun _ => False) wr).drew)) (by omega)
     have hnl := numX_lt b s5 3
     have hnv := (numX_v b s5 3).1
     have hnext := firstX_next h0 hlt hfx
     rw [← hqe] at hnext
     obtain ⟨pn, hpn⟩ : ∃ p, p = numX b s5 3 := ⟨_, rfl⟩
     rw [← hpn] at hnum hnl hnv hnext
     have hfc := hrow.cell q hq
     have hff := hrow.free q
     have hk0 : (0 : Int) ≤ (k : Int) := by omega
     have hk1 : (k : Int) < 19 := by omega
     have hq0 : (0 : Int) ≤ (q : Int) := by omega
     have hq1 : (q : Int) < 19 := by omega
     have hO7 : ¬ (O = x ∨ s5.v.ownBlock = some O) := by rw [hat.v_]; exact fun y => y.elim hxO.1 hxO.2
     have hF7 : ¬ (F = x ∨ s5.v.ownBlock = some F) := by rw [hat.v_]; exact fun y => y.elim hxF.1 hxF.2
     have hne1 : ¬ (F = O) := by omega
     have hne2 : ¬ (O = F) := by omega
     have HNUM := hide hnum
     have HNEXT := hide hnext
     have HAT := hide hat
     have HRO := hide hro
     have HROW := hide hrow
     have HNV := hide hnv
     have HG := hide hG
     clear hnum hnext hat hro hrow hnv hG hfx hpn hqe
     go_wp2_with fail
     refine wp_region_noPanic ?_
     go_region_held3 (fun w' => w'.cell? ⟨O, k, none⟩ = some (.int .i64 (q : Nat))) (go_keep)
      (first | (go_at_call 140; refine (unhide HNUM).mono ?_; rintro r w7 ⟨rfl, hx7, hw7⟩; have k1 := hw7.step.cell (p := ⟨O, k, none⟩) hoc hO7; have hrow7 := (unhide HROW).drew.step hw7.step hF7; have k2 := hrow7.cell q hq; have k3 := hrow7.free q))
     all_goals
      refine NoPanic.normal ?_
      have hrow8 : RowAt (w7.setCell ⟨F, q, none⟩ (.int .i64 (pn.1 : Nat))) F 3 19 (fun i => nat ((fun i => if i = q then pn.1 else G i) i)) := by
       refine (hrow7.set q (.int .i64 (pn.1 : Nat))).congr fun i _ => ?_
       by_cases hi : i = q <;> simp [hi]
      have hro8 : (w7.setCell ⟨F, q, none⟩ (.int .i64 (pn.1 : Nat))).heap[O]? = some (.cells orderCells 216 (0, 0)) :=
       (Below.heap_setCell _ _ _ _ (by show O ≠ F; omega)).trans (hw7.step.at_ (w := wr.drew) (unhide HRO) hO7)
      have hat8 : ToldW w (w7.setCell ⟨F, q, none⟩ (.int .i64 (pn.1 : Nat))) x base b s pn.2 := by
       have hv7 : pn.2.v = s.v := (unhide HNV).trans (unhide HAT).v_
       refine ⟨hx7.setOff (by rw [hv7]; exact hxF) q _, hv7, ?_⟩
       have h1 : Wrt x w s.v w7 s.v := (unhide HAT).wrt.trans (((Wrt.refl _ _ _).step0 ((Step.refl (fun _ => False) wr).drew)).trans ((unhide HAT).v_ ▸ hw7))
       exact h1.setNew (by show w.heap.size ≤ F; omega) _
      have H1 := hide hrow8
      have H2 := hide hro8
      have H3 := hide hat8
      have hpl : pn.1 ≤ 15 := by omega
      clear hrow8 hro8 hat8 hx7 hw7 k1 k2 k3 hrow7
      go_wp2_with fail
      go_roundw
      case rel => exact ⟨k + 1, _, _, by go_num, by omega, fun j => by
       by_cases hj : j = q
       ·simp only [hj, if_true]; exact hpl
       ·simp only [hj, if_false]; exact unhide HG j, unhide HNEXT, unhide H3, unhide H2, unhide H1⟩
      case measure => simp [intOf]; omega
    ·have : k = c1 + 4 := by omega
     subst this
     have hints := lensOf_ints hrow hG
     have hmb := mayBeX_any F 0 19 false (lensOf G) wr hints
     rw [lensOf_length] at hmb
     have hme : mayX (lensOf G) false = mayB (lensOf G) := rfl
     rw [hme] at hmb
     obtain ⟨mb, hmbe⟩ : ∃ mb, mb = mayB (lensOf G) := ⟨_, rfl⟩
     rw [← hmbe] at hmb
     have HMB := hide hmb
     have HMBE := hide hmbe
     have HFX := hide hfx
     have HAT := hide hat
     have HROW := hide hrow
     have HG := hide hG
     clear hmb hfx hat hro hrow hG hints hme hmbe
     go_wp2_with fail
     refine (unhide HMB).mono ?_
     rintro r w8 ⟨rfl, hw8⟩
     have hat8 := unhide HAT
     have hrow8 := unhide HROW
     rw [← hw8] at hat8 hrow8
     have HAT8 := hide hat8
     have HROW8 := hide hrow8
     clear hw8 HMB hat8 hrow8 HAT HROW
     go_upto_if 49 with fail
     go_cut [10, 51] (fun mv u wc => ∃ s6, ToldW w wc x base b s s6 ∧ MayX b s (m1 + 257) (f1 + 1) (c1 + 4) (lensOf G) s6 ∧ RowAt wc F 3 19 (fun i => nat (G i)))
     case first =>
      cases hmv : mb with
      | true =>
       have HM := hide (show mayB (lensOf G) = true by rw [← unhide HMBE]; exact hmv)
       clear hmv
       go_wp2_with fail
       go_meet
       case rel => exact ⟨s5, unhide HAT8, mayX_of (unhide HFX) (unhide HM), unhide HROW8⟩
      | false =>
       have HM := hide (show ¬ mayB (lensOf G) = true by rw [← unhide HMBE, hmv]; simp)
       clear hmv
       go_wp2_with fail
       refine (fail_any x base 7 b s5 w8 (unhide HAT8).xat).mono ?_
       rintro r w9 ⟨rfl, hx9, hw9⟩
       rw [(unhide HAT8).v_] at hw9
       have HR9 := hide ((unhide HROW8).step hw9.step (fun y => y.elim hxF.1 hxF.2))
       have HA9 := hide (show ToldW w w9 x base b s { s5 with err := if s5.err = 0 then 7 else s5.err } from ⟨hx9, (unhide HAT8).v_, (unhide HAT8).wrt.trans hw9⟩)
       clear hx9 hw9
       go_wp2_with fail
       go_meet
       case rel => exact ⟨_, unhide HA9, mayX_no h0 (unhide HFX) (unhide HM), unhide HR9⟩
     case rest =>
      obtain ⟨s6, hat6, hmay6, hrow6⟩ := hcut
      obtain ⟨w10, hwn⟩ : ∃ W, W = wc := ⟨_, rfl⟩
      subst hwn
      have hdl := dealX_any F 0 19 (lensOf G) w10 (lensOf_ints hrow6 (unhide HG))
      rw [lensOf_length] at hdl
      have HDL := hide hdl
      have HAT6 := hide hat6
      have HMAY6 := hide hmay6
      clear hdl hat6 hmay6 hrow6 HFX HAT8 HROW8 HMBE
      go_wp2_with fail
      refine (unhide HDL).mono ?_
      rintro r w11 ⟨C, rfl, hC, hcodes, hs11⟩
      obtain ⟨lb, hlb⟩ : ∃ lb, lb = w11.heap.size := ⟨_, rfl⟩
      have hat11 : ToldW w w11 x base b s s6 := ⟨(unhide HAT6).xat.step0 hs11, (unhide HAT6).v_, (unhide HAT6).wrt.step0 hs11⟩
      have hCo : Off x s.v C := by
       have hx := (unhide HAT6).xat
       have hxb := hx.xbase
       have hxl := hx.base_le
       refine ⟨by omega, fun hk => ?_⟩
       have := (hx.own.lt C (by rw [(unhide HAT6).v_]; exact hk)).2
       omega
      have hlw : w.heap.size ≤ lb := by have := hat11.wrt.step.size; omega
      have hrow0 : LRow w11 lb x C s.v (.slice none 0 0) [] := by
       have hx := hat11.xat
       have hxb := hx.xbase
       have hxl := hx.base_le
       refine ⟨World.ownsRow_nil _ _ _ _, by omega, by rw [hlb]; exact hcodes.lt, fun k hk => ?_, by omega, by simp, by simp⟩
       have := (hx.own.lt k (by rw [hat11.v_]; exact hk)).2
       omega
      have HCOD := hide hcodes
      have HAT11 := hide hat11
      have HROW0 := hide hrow0
      have HLB := hide hlb
      clear hcodes hat11 hrow0 hlb hs11 HDL HAT6 hC
      go_upto_block 2 with fail
      go_cut [12] (fun lv wc => ∃ row s7, LRow wc lb x C s.v lv row ∧ ToldW w wc x base b s s7 ∧ EndX b s (m1 + 257) (f1 + 1) row s7)
      case first =>
       rcases unhide HMAY6 with ⟨rfl, hW, hle, hLe, hmay⟩ | hill
       ·obtain ⟨n, hn⟩ : ∃ n, n = m1 + 257 + (f1 + 1) := ⟨_, rfl⟩
        have hni : (n : Int) = (m1 : Int) + 257 + ((f1 : Int) + 1) := by omega
        have hn4 : n ≤ 400 := by omega
        have HATB := hide (unhide HAT11)
        obtain ⟨p0, hp0⟩ : ∃ p0, p0 = s.at_ + 14 + 3 * (c1 + 4) := ⟨_, rfl⟩
        have HSTART := hide (show RowX (dealAll (lensOf G)) b s n p0 n [] { s with at_ := s.at_ + 14 + 3 * (c1 + 4) } from .inl ⟨p0, by omega, by rw [hp0], rfl, by simp, by simp⟩)
        have HEND := hide (show ∀ (g : Nat) (row : List Nat) (s7 : XS), RowX (dealAll (lensOf G)) b s n p0 g row s7 → (s7.err ≠ 0 ∨ n ≤ row.length) → EndX b s (m1 + 257) (f1 + 1) row s7 from fun g row s7 hr hx => by
         rw [hLe, hn, hp0] at hr
         rw [hn] at hx
         rw [hLe] at hmay
         exact endX_of h0 hW hle hmay hr hx)
        have hfar : farB (lensOf G) = true := by unfold farB; rw [hmay]; simp
        have HFAR := hide hfar
        clear hW hle hLe hmay hn hp0 hfar HMAY6
        go_wp2_with fail
        go_loopg [12] n (fun g lv wr => ∃ row s7, LRow wr lb x C s.v lv row ∧ row.length ≤ n ∧ ToldW w wr x base b s s7 ∧ CodesAt wr C (lensOf G) ∧ RowX (dealAll (lensOf G)) b s n p0 g row s7)
        case atStart => exact ⟨[], _, unhide HROW0, by simp, unhide HATB, unhide HCOD, unhide HSTART⟩
        case round =>
         obtain ⟨row, s7, hrow, hrl, hat7, hcod, hrx⟩ := hrel
         obtain ⟨la, lc, hlv⟩ := hrow.slice
         obtain ⟨_, _, ce, _⟩ := hat7.xat.cell
         have HROW := hide hrow
         have HAT7 := hide hat7
         have HCOD7 := hide hcod
         have HRX := hide hrx
         subst hlv
         obtain ⟨rn, hrn⟩ : ∃ rn, rn = row.length := ⟨_, rfl⟩
         rw [← hrn]
         have HRN := hide hrn
         by_cases hend : n ≤ rn
         ·have hci : ¬ ((rn : Int) < (m1 : Int) + 257 + ((f1 : Int) + 1)) := by omega
          clear hrow hat7 hcod hrx hrn hrl
          go_wp2_with fail
          go_meet
          case rel => exact ⟨row, s7, by rw [unhide HRN]; exact unhide HROW, unhide HAT7, unhide HEND _ _ _ (unhide HRX) (.inr (by rw [← unhide HRN]; exact hend))⟩
         ·have hci : (rn : Int) < (m1 : Int) + 257 + ((f1 : Int) + 1) := by omega
          by_cases herr : s7.err = 0
          ·have hv7 := hat7.v_
           have hle15 : ∀ i : Nat, (lensOf G)[i]?.getD 0 ≤ 15 := fun i => by
            by_cases hi : i < 19
            ·rw [lensOf_get G i hi]; exact unhide HG i
            ·rw [List.getElem?_eq_none (by rw [lensOf_length]; omega)]; simp
           have hln := lengthsX_any x base C lb n (lensOf G) row b s7 (.slice la row.length lc) wr hat7.xat hcod (by rw [hv7]; exact hCo) hle15 (lensOf_length G) (unhide HFAR) herr (by rw [hv7]; exact hrow) hn4 (by omega)
           rw [lensOf_length, ← hrn, hni] at hln
           have HLN := hide hln
           have HNX := hide (show ∀ lv' s' w', LensP (rowStep (dealAll (lensOf G)) (bytesOf b) n s7.at_ row) wr x base C lb b s7 row lv' s' w' → ∃ row' g', gk = g' + 1 ∧ LRow w' lb x C s.v lv' row' ∧ row'.length ≤ n ∧ ToldW w w' x base b s s' ∧ CodesAt w' C (lensOf G) ∧ RowX (dealAll (lensOf G)) b s n p0 g' row' s' from fun lv' s' w' hp => by
            obtain ⟨row', g', hg', hrx', hrow', hle', hv'⟩ := rowX_next herr (by omega) hrx hp
            have hlc := hrow.lc
            refine ⟨row', g', hg', by rw [hv7] at hrow'; exact hrow', hle', ⟨hp.1, hv'.trans hv7, ⟨?_, fun _ hk => .inl hk⟩⟩, hcod.step hp.2.1 (fun y => ?_), hrx'⟩
            ·have h9 := hp.2.1
             rw [hv7] at h9
             exact Step.past hat7.wrt.step hlw (h9.mono (fun k hk => hk.elim (fun y => .inl (.inl y)) (fun y => y.elim (fun y => .inl (.inr y)) .inr)))
            ·rw [hv7] at y
             rcases y with y | y | y
             ·exact hCo.1 y
             ·exact hCo.2 y
             ·omega)
           have heb : ((s7.err : Int) == 0) = true := beq_iff_eq.2 (by omega)
           clear hrow hat7 hcod hrx hrn hrl hln hv7 hle15
           go_wp2_with fail
           refine (unhide HLN).mono ?_
           rintro r w12 ⟨lv', s', rfl, hp⟩
           obtain ⟨row', g', hg', r1, r2, r3, r4, r5⟩ := unhide HNX lv' s' w12 hp
           have R1 := hide r1
           have R3 := hide r3
           have R4 := hide r4
           have R5 := hide r5
           have hgm : g' < gk := by omega
           obtain ⟨la', lc', hlv'⟩ := r1.slice
           subst hlv'
           clear hp r1 r3 r4 r5 hg'
           go_wp2_with fail
           go_roundg g'
           case measure => omega
           case rel => exact ⟨row', s', unhide R1, r2, unhide R3, unhide R4, unhide R5⟩
          ·have heb : ((s7.err : Int) == 0) = false := beq_eq_false_iff_ne.2 (by omega)
           clear hrow hat7 hcod hrx hrn hrl
           go_wp2_with fail
           go_meet
           case rel => exact ⟨row, s7, by rw [unhide HRN]; exact unhide HROW, unhide HAT7, unhide HEND _ _ _ (unhide HRX) (.inl herr)⟩
       ·obtain ⟨e, a, hbad, hale, rfl⟩ := hill
        have hne := hbad.ne
        obtain ⟨_, _, ce, _⟩ := (unhide HAT11).xat.cell
        have heb : ((e : Int) == 0) = false := beq_eq_false_iff_ne.2 (by omega)
        have HBAD := hide hbad
        clear hbad
        go_wp2_with fail
        go_loopg [12] 1 (fun g lv wr => lv = .slice none 0 0 ∧ wr = w11)
        case atStart => exact ⟨rfl, rfl⟩
        case round =>
         obtain ⟨rfl, hwr⟩ := hrel
         have hwr' := hwr.symm
         clear hwr
         subst hwr'
         go_wp2_with fail
         go_meet
         case rel => exact ⟨[], _, unhide HROW0, unhide HAT11, .inr ⟨e, a, unhide HBAD, hale, rfl⟩⟩
      case rest =>
       obtain ⟨row, s7, hrow, hat7, hend⟩ := hcut
       obtain ⟨w13, hwn⟩ : ∃ W, W = wc := ⟨_, rfl⟩
       subst hwn
       clear HROW0 HAT11 HCOD HMAY6
       obtain ⟨_, _, ce, _⟩ := hat7.xat.cell
       rcases hend with ⟨q, hq, hs7, hrl, hrc⟩ | ⟨e, a, hbad, hale, hs7⟩
       ·obtain ⟨g, lc, hlv, hlc⟩ : ∃ g lc, u12 = .slice (some ⟨g, 0, none⟩) (m1 + 257 + (f1 + 1)) lc ∧ m1 + 257 + (f1 + 1) ≤ lc := by
         obtain ⟨_, ⟨hv, hn⟩ | ⟨g, cap, cur, hv, _, _, hnc, _⟩⟩ := hrow.own
         ·omega
         ·exact ⟨g, cap, by rw [← hrl]; exact hv, by rw [← hrl]; exact hnc⟩
        have hown := hrow.own
        rw [hlv, hrl] at hown
        have hints : Ints w13 g 0 row := ⟨fun i hi => by
         have h9 := hown.cellAt i (by omega)
         rw [Nat.zero_add, h9]
         simp [i64s, List.getElem?_map, List.getElem?_eq_getElem hi], hrow.le15, by have := hrow.few; omega⟩
        have hgl : Off x s.v g := by
         have hx := hat7.xat
         have hlx := hrow.lx
         have hgb := (hown.lt g rfl).1
         exact ⟨by omega, fun hk => by have := hrow.lv_ g hk; omega⟩
        subst hlv
        obtain ⟨n, hn⟩ : ∃ n, n = m1 + 257 + (f1 + 1) := ⟨_, rfl⟩
        obtain ⟨ma, hma⟩ : ∃ ma, ma = m1 + 257 := ⟨_, rfl⟩
        rw [← hn] at hlc hrl ⊢
        rw [← hma] at hrc hn
        have hmai : (m1 : Int) + 257 = (ma : Int) := by omega
        have htl : (row.take ma).length = ma := by rw [List.length_take]; omega
        have hdl : (row.drop ma).length = n - ma := by rw [List.length_drop, hrl]
        have hit := ints_take hints ma
        have hid := ints_drop hints ma
        have hm1b := mayBeX_any g 0 lc false (row.take ma) w13 hit
        have hm2b := mayBeX_any g ma (lc - ma) true (row.drop ma) w13 hid
        rw [htl] at hm1b
        rw [hdl] at hm2b
        have e1 : mayX (row.take ma) false = mayB (row.take ma) := rfl
        have e2 : mayX (row.drop ma) true = farB (row.drop ma) := rfl
        rw [e1] at hm1b
        rw [e2] at hm2b
        have h256 := hints.cell 256 (by omega)
        have hle256 := hints.le 256
        obtain ⟨q6, hq6⟩ : ∃ q6, q6 = row[256]?.getD 0 := ⟨_, rfl⟩
        rw [← hq6, Nat.zero_add] at h256
        rw [← hq6] at hle256
        obtain ⟨ba, hba⟩ : ∃ ba, ba = mayB (row.take ma) := ⟨_, rfl⟩
        obtain ⟨bf, hbf⟩ : ∃ bf, bf = farB (row.drop ma) := ⟨_, rfl⟩
        rw [← hba] at hm1b
        rw [← hbf] at hm2b
        have hm0i : (0 : Int) ≤ (ma : Int) := by omega
        have hmci : (ma : Int) ≤ (lc : Int) := by omega
        have hmni : (ma : Int) ≤ (n : Int) := by omega
        have hnci : (n : Int) ≤ (lc : Int) := by omega
        have h25 : (256 : Int) < (n : Int) := by omega
        have hnz : ¬ lc = 0 := by omega
        have hnm : ¬ lc = ma := by omega
        rw [hmai]
        rw [hs7] at ce
        have HM1 := hide hm1b
        have HM2 := hide hm2b
        have HIT := hide hit
        have HID := hide hid
        have HTL := hide htl
        have HDL := hide hdl
        have HAT7 := hide (show ToldW w w13 x base b s { s with at_ := q } from hs7 ▸ hat7)
        have HRC := hide hrc
        have HQ6 := hide hq6
        have HBA := hide hba
        have HBF := hide hbf
        have HLE := hide hrow.le15
        have hn4 : n ≤ 400 := by omega
        clear hm1b hm2b hit hid htl hdl hat7 hs7 hrc hq6 hba hbf hints hown hrow hrl hn hma e1 e2 hmai
        go_wp2_with fail
        refine (unhide HM1).mono ?_
        rintro r w14 ⟨rfl, rfl⟩
        go_wp2_with fail
        rw [show n - ma = n - ma from rfl]
        refine (unhide HM2).mono ?_
        rintro r w15 ⟨rfl, rfl⟩
        clear HM1 HM2
        go_upto_region 23 with fail
        go_cut [13, 98] (fun av bv wc => bv = .bool (decide (q6 = 0) || !ba || !bf) ∧ ToldW w wc x base b s { s with at_ := q } ∧ Ints wc g 0 (row.take ma) ∧ Ints wc g ma (row.drop ma))
        case first =>
         by_cases hz6 : q6 = 0
         ·have hzb : ((q6 : Int) == 0) = true := beq_iff_eq.2 (by omega)
          have hdd : decide (q6 = 0) = true := decide_eq_true hz6
          go_wp2_with fail
          go_meet
          case rel => exact ⟨by rw [hdd]; rfl, unhide HAT7, unhide HIT, unhide HID⟩
         ·have hzb : ((q6 : Int) == 0) = false := beq_eq_false_iff_ne.2 (by omega)
          have hdd : decide (q6 = 0) = false := decide_eq_false hz6
          cases hva : ba with
          | false =>
           go_wp2_with fail
           go_meet
           case rel => exact ⟨by rw [hdd, hva]; rfl, unhide HAT7, unhide HIT, unhide HID⟩
          | true =>
           go_wp2_with fail
           go_meet
           case rel => exact ⟨by rw [hdd, hva]; simp, unhide HAT7, unhide HIT, unhide HID⟩
        case rest =>
         obtain ⟨rfl, hat16, hit16, hid16⟩ := hcut
         obtain ⟨w16, hwn⟩ : ∃ W, W = wc := ⟨_, rfl⟩
         subst hwn
         obtain ⟨cv, hcv⟩ : ∃ cv, cv = (decide (q6 = 0) || !ba || !bf) := ⟨_, rfl⟩
         rw [← hcv]
         have hok : cv = false → 0 < q6 ∧ ba = true ∧ bf = true := fun hx => by
          rw [hx] at hcv
          simp at hcv
          exact ⟨by omega, hcv.1.2, hcv.2⟩
         have hno : cv = true → ¬ (0 < q6 ∧ ba = true ∧ bf = true) := fun hx hy => by
          rw [hx, hy.2.1, hy.2.2] at hcv
          simp at hcv
          omega
         have HOK := hide hok
         have HNO := hide hno
         have HA16 := hide hat16
         have HI16 := hide hit16
         have HD16 := hide hid16
         clear hcv hok hno hat16 hit16 hid16 HAT7 HIT HID
         go_upto_if 98 with fail
         go_cut [98, 100] (fun cc u wc => ∃ s8, ToldW w wc x base b s s8 ∧ Ints wc g 0 (row.take ma) ∧ Ints wc g ma (row.drop ma) ∧ ((s8 = { s with at_ := q } ∧ 0 < q6 ∧ ba = true ∧ bf = true) ∨ (s8 = { s with err := 7, at_ := q } ∧ ¬ (0 < q6 ∧ ba = true ∧ bf = true))))
         case first =>
          cases hcc : cv with
          | false =>
           have HO2 := hide (unhide HOK hcc)
           go_wp2_with fail
           go_meet
           case rel => exact ⟨_, unhide HA16, unhide HI16, unhide HD16, .inl ⟨rfl, unhide HO2⟩⟩
          | true =>
           have HO2 := hide (unhide HNO hcc)
           go_wp2_with fail
           refine (fail_any x base 7 b _ w16 (unhide HA16).xat).mono ?_
           rintro r w17 ⟨rfl, hx17, hw17⟩
           have hx18 : XAt w17 x base b { s with err := 7, at_ := q } := by
            have h9 := hx17
            dsimp only at h9
            rw [if_pos h0] at h9
            exact h9
           have HX17 := hide (show ToldW w w17 x base b s { s with err := 7, at_ := q } from ⟨hx18, rfl, (unhide HA16).wrt.trans hw17⟩)
           have HI17 := hide ((unhide HI16).step hw17.step (fun y => y.elim hgl.1 hgl.2))
           have HD17 := hide ((unhide HD16).step hw17.step (fun y => y.elim hgl.1 hgl.2))
           clear hx17 hw17 hx18
           go_wp2_with fail
           go_meet
           case rel => exact ⟨_, unhide HX17, unhide HI17, unhide HD17, .inr ⟨rfl, unhide HO2⟩⟩
         case rest =>
          obtain ⟨s8, hat17, hit17, hid17, hlast⟩ := hcut
          obtain ⟨w17, hwn⟩ : ∃ W, W = wc := ⟨_, rfl⟩
          subst hwn
          have hd1 := dealX_any g 0 lc (row.take ma) w17.drew (hit17.step ((Step.refl (fun _ => False) w17).drew) (fun x => x))
          rw [unhide HTL] at hd1
          have HD1 := hide hd1
          have HA17 := hide hat17
          have HD17 := hide hid17
          have HLA := hide hlast
          clear hd1 hat17 hit17 hid17 hlast HOK HNO HA16 HI16 HD16
          have hd2 := fun w18 (h : Step (fun _ => False) w17 w18) => dealX_any g ma (lc - ma) (row.drop ma) w18 ((unhide HD17).step h (fun x => x))
          rw [unhide HDL] at hd2
          have HD2 := hide hd2
          clear hd2 HD17
          go_wp2_with fail
          go_region_held3 (fun _ => True) (exact trivial)
           (first | (go_at_call 167; refine (unhide HD1).mono ?_; clear HD1; rintro r w18 ⟨C1, rfl, hC1, hcod1, hs18⟩; have hs18' := (Step.refl (fun _ => False) w17).drew.trans hs18; have HD3 := hide (unhide HD2 w18 hs18'); clear HD2) | (go_at_call 167; refine (unhide HD3).mono ?_; clear HD3; rintro r w19 ⟨C2, rfl, hC2, hcod2, hs19⟩))
          have HFIN := hide (show ToldXP (rCoding (bytesOf b) s.at_) x base b s w (.slice (some ⟨C1, 0, none⟩) ma ma) (.slice (some ⟨C2, 0, none⟩) (n - ma) (n - ma)) s8 w19 from by
           have hat19 : ToldW w w19 x base b s s8 := ⟨((unhide HA17).xat.step0 hs18').step0 hs19, (unhide HA17).v_, ((unhide HA17).wrt.step0 hs18').step0 hs19⟩
           have hoff : ∀ k, w17.heap.size ≤ k → Off x s.v k := fun k hk => by
            have hx := (unhide HA17).xat
            have hxb := hx.xbase
            have hxl := hx.base_le
            refine ⟨by omega, fun hk2 => ?_⟩
            have := (hx.own.lt k (by rw [(unhide HA17).v_]; exact hk2)).2
            omega
           have hz18 := hs18'.size
           have hC1' : w17.heap.size ≤ C1 := hC1
           have hc1 : CodesAt w19 C1 (row.take ma) := by
            show RowAt w19 C1 _ (2 * (row.take ma).length) _
            rw [unhide HTL]
            exact hcod1.step hs19 (fun x => x)
           have hc2 : CodesAt w19 C2 (row.drop ma) := by
            show RowAt w19 C2 _ (2 * (row.drop ma).length) _
            rw [unhide HDL]
            exact hcod2
           have hl1 : ∀ i : Nat, (row.take ma)[i]?.getD 0 ≤ 15 := fun i => by
            by_cases hi : i < ma
            ·rw [List.getElem?_take_of_lt hi]; exact unhide HLE i
            ·rw [List.getElem?_eq_none (by rw [unhide HTL]; omega)]; simp
           have hl2 : ∀ i : Nat, (row.drop ma)[i]?.getD 0 ≤ 15 := fun i => by rw [List.getElem?_drop]; exact unhide HLE _
           rw [unhide HRC]
           unfold rDealt
           rcases unhide HLA with ⟨rfl, k1, k2, k3⟩ | ⟨rfl, k1⟩
           ·rw [if_pos ⟨by rw [← unhide HQ6]; exact k1, by rw [← unhide HBA]; exact k2, by rw [← unhide HBF]; exact k3⟩]
            refine ⟨hat19.xat, hat19.wrt, rfl, C1, C2, by dsimp only; rw [unhide HTL], by dsimp only; rw [unhide HDL], ⟨hc1, hc2, hoff C1 (by omega), hoff C2 (by omega), hl1, hl2, by dsimp only; rw [unhide HTL]; omega, by dsimp only; rw [unhide HDL]; omega, ?_, by dsimp only; rw [← unhide HBF]; exact k3⟩⟩
            dsimp only
            unfold farB
            rw [← unhide HBA, k2]
            simp
           ·rw [if_neg (fun hx => k1 ⟨by rw [unhide HQ6]; exact hx.1, by rw [unhide HBA]; exact hx.2.1, by rw [unhide HBF]; exact hx.2.2⟩)]
            exact ⟨hat19.xat, hat19.wrt, by omega, ⟨_, _, _, rfl⟩, ⟨_, _, _, rfl⟩, q, hq, rfl⟩)
          clear hs18 hs18' hs19 hcod1 hcod2
          go_wp2_with fail
          go_ret2
          exact ⟨_, _, s8, rfl, unhide HFIN⟩
       ·have hne := hbad.ne
        have heb : ((e : Int) != 0) = true := by rw [bne_iff_ne]; omega
        have HFIN := hide (toldX_bad hbad (c1 := .slice none 0 0) (c2 := .slice none 0 0) ⟨_, _, _, rfl⟩ ⟨_, _, _, rfl⟩ hale (hs7 ▸ hat7.xat) hat7.wrt)
        rw [hs7] at ce
        clear hbad hrow hat7 hs7
        go_wp2_with fail
        go_ret2
        exact ⟨_, _, rfl, _, unhide HFIN⟩
end Go.Proofs.YtbpahojchgpdnaaGreatDoor
