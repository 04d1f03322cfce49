/- Proved here: what the reference's lengths does. -/
import Derived.Test.YtbpahojchgpdnaaGreatDoorXSym
set_option maxRecDepth 20000
set_option maxHeartbeats 4000000
namespace Go.Proofs.YtbpahojchgpdnaaGreatDoor
open Go.RowKit Go.Bel
def rowStep (D : Dealt) (B : List Nat) (n p : Nat) (row : List Nat) : R (List Nat) :=
 match rSym D B p with
 | .no e => .no e
 | .miss => .miss
 | .ok s q =>
  if s = 16 ∧ row.length = 0 then .no 8 else
  match rLens B q s row with
  | .no e => .no e
  | .miss => .miss
  | .ok lt q' => if n < row.length + lt.2 then .no 8 else .ok (row ++ List.replicate lt.2 lt.1) q'
theorem rRowF_step (D : Dealt) (B : List Nat) (n k p : Nat) (row : List Nat) (h : row.length < n) : rRowF D B n (k + 1) p row = match rowStep D B n p row with | .no e => .no e | .miss => .miss | .ok row' q => rRowF D B n k q row' := by
 rw [rRowF, if_neg (by omega)]
 unfold rowStep
 cases rSym D B p with
 | no e => rfl
 | miss => rfl
 | ok s q =>
  dsimp only
  by_cases h1 : s = 16 ∧ row.length = 0
  ·rw [if_pos h1, if_pos h1]
  ·rw [if_neg h1, if_neg h1]
   cases rLens B q s row with
   | no e => rfl
   | miss => rfl
   | ok lt q' =>
    dsimp only
    by_cases h2 : n < row.length + lt.2
    ·rw [if_pos h2, if_pos h2]
    ·rw [if_neg h2, if_neg h2]
structure LRow (w : World) (lb x C : Nat) (v lv : Value) (row : List Nat) : Prop where
 own : w.ownsRow lb 3 1 lv row.length (i64s row)
 lx : x < lb
 lc : C < lb
 lv_ : ∀ k, v.ownBlock = some k → k < lb
 le : lb ≤ w.heap.size
 le15 : ∀ i : Nat, row[i]?.getD 0 ≤ 15
 few : row.length ≤ 400
theorem LRow.slice {w : World} {lb x C : Nat} {v lv : Value} {row : List Nat} (h : LRow w lb x C v lv row) : ∃ a c, lv = .slice a row.length c := by
 obtain ⟨_, ⟨hv, hn⟩ | ⟨g, cap, _, hv, _⟩⟩ := h.own
 ·exact ⟨none, 0, by rw [hv, hn]⟩
 ·exact ⟨_, _, hv⟩
theorem LRow.wrt {w w' : World} {lb x C : Nat} {v lv : Value} {row : List Nat} (h : LRow w lb x C v lv row) (hw : Wrt x w v w' v) : LRow w' lb x C v lv row :=
 ⟨ownsRow_of_block h.own (fun k hk => hw.step.block k (h.own.lt k hk).2 (fun e => by
  have h1 := (h.own.lt k hk).1
  rcases e with e | e
  ·have := h.lx; omega
  ·have := h.lv_ k e; omega)), h.lx, h.lc, h.lv_, Nat.le_trans h.le hw.step.size, h.le15, h.few⟩
def LensP (r : R (List Nat)) (w : World) (x base C lb : Nat) (b : ByteArray) (s : XS) (row : List Nat) (lv' : Value) (s' : XS) (w' : World) : Prop :=
 XAt w' x base b s' ∧ Step (fun k => k = x ∨ s.v.ownBlock = some k ∨ lb ≤ k) w w' ∧
 match r with
 | .ok row' q => s' = { s with at_ := q } ∧ LRow w' lb x C s.v lv' row'
 | .no e => (∃ a, a ≤ 8 * b.size ∧ s' = { s with err := e, at_ := a }) ∧ LRow w' lb x C s.v lv' row
 | .miss => (∃ a, a ≤ 8 * b.size ∧ s' = { s with err := 3, at_ := a }) ∧ LRow w' lb x C s.v lv' row
theorem lengthsX_any (x base C lb n : Nat) (L row : List Nat) (b : ByteArray) (s : XS) (lv : Value) (w : World) (h : XAt w x base b s) (hC : CodesAt w C L) (hCo : Off x s.v C) (hL : ∀ i : Nat, L[i]?.getD 0 ≤ 15) (hn : L.length = 19) (hf : farB L = true) (h0 : s.err = 0) (hrow : LRow w lb x C s.v lv row) (hn4 : n ≤ 400) (hrn : row.length < n) :
  Calls Tryz.prog 172 #[.pointer (some ⟨x, 0, none⟩), .slice (some ⟨C, 0, none⟩) L.length L.length, lv, .int .i64 (n : Nat)] w fun r w' => ∃ lv' s', r = .returned lv' ∧ LensP (rowStep (dealAll L) (bytesOf b) n s.at_ row) w x base C lb b s row lv' s' w' := by
 obtain ⟨la, lc, hlv⟩ := hrow.slice
 obtain ⟨i0, hi, hz0, hz1, hz2⟩ := info_parts Tryz.info3
 have hsym := symbolX_any x base C L b s w h hC hCo hL (by omega) hf h0
 obtain ⟨res, hre⟩ : ∃ r, r = rowStep (dealAll L) (bytesOf b) n s.at_ row := ⟨_, rfl⟩
 rw [← hre]
 have HSYM := hide hsym
 have HLV := hide hlv
 have HROW := hide hrow
 have HRE := hide hre
 rw [hlv]
 have hrl4 := hrow.few
 have hsy : ∀ k t, (dealAll L).tab k = some t → t < 19 := fun k t ht => by have := ((dealTo_tab L 15 k t).1 ht).1; omega
 have HSY := hide hsy
 clear hsym hlv hrow hre h hC hn hsy
 go_enter Tryz.func172, Tryz.ntmps172
 go_wp2_with fail
 refine (unhide HSYM).mono ?_
 rintro r w1 ⟨y, s1, rfl, hxr, hx1, hw1, hy0⟩
 have hrow1 := (unhide HROW).wrt hw1
 have hst1 : Step (fun k => k = x ∨ s.v.ownBlock = some k ∨ lb ≤ k) w w1 := hw1.step.mono (fun k hk => hk.elim .inl (fun e => .inr (.inl e)))
 have hll : (row.length : Int) ≤ 400 := by omega
 obtain ⟨len, hlen⟩ : ∃ l, l = row.length := ⟨_, rfl⟩
 rw [← hlen] at hrn hrl4 hll ⊢
 have HLEN := hide hlen
 clear hlen
 cases hrs : rSym (dealAll L) (bytesOf b) s.at_ with
 | no e1 =>
  have he9 := rSym_no hrs
  subst he9
  rw [hrs] at hxr
  obtain ⟨_, a, ha, hs1⟩ := hxr
  have hy := hy0 (by rw [hs1]; simp)
  subst hy
  subst hs1
  have hres : res = .no 9 := by rw [unhide HRE]; unfold rowStep; rw [hrs]
  obtain ⟨_, _, c2, _⟩ := hx1.cell
  dsimp only at c2
  have HFIN := hide (show LensP res w x base C lb b s row (.slice la len lc) { s with err := 9, at_ := a } w1 from by
   rw [hres]
   refine ⟨hx1, hst1, ⟨a, ha, rfl⟩, ?_⟩
   have := unhide HLV
   rw [← unhide HLEN] at this
   rw [← this]
   exact hrow1)
  clear hx1 hw1 hst1 hrow1 hrs hres
  go_wp2_with fail
  go_loopw [2, 15] (fun l i wr => l = .slice la len lc ∧ i = .int .i64 0 ∧ wr = w1) (fun _ _ _ => 0)
  case atStart => exact ⟨rfl, rfl, rfl⟩
  case round =>
   obtain ⟨rfl, rfl, hwe⟩ := hrel
   have hwe' := hwe.symm
   clear hwe
   subst hwe'
   go_wp2_with fail
   go_ret
   exact ⟨_, { s with err := 9, at_ := a }, rfl, unhide HFIN⟩
 | miss =>
  rw [hrs] at hxr
  obtain ⟨_, a, ha, hs1⟩ := hxr
  have hy := hy0 (by rw [hs1]; simp)
  subst hy
  subst hs1
  have hres : res = .miss := by rw [unhide HRE]; unfold rowStep; rw [hrs]
  obtain ⟨_, _, c2, _⟩ := hx1.cell
  dsimp only at c2
  have HFIN := hide (show LensP res w x base C lb b s row (.slice la len lc) { s with err := 3, at_ := a } w1 from by
   rw [hres]
   refine ⟨hx1, hst1, ⟨a, ha, rfl⟩, ?_⟩
   have := unhide HLV
   rw [← unhide HLEN] at this
   rw [← this]
   exact hrow1)
  clear hx1 hw1 hst1 hrow1 hrs hres
  go_wp2_with fail
  go_loopw [2, 15] (fun l i wr => l = .slice la len lc ∧ i = .int .i64 0 ∧ wr = w1) (fun _ _ _ => 0)
  case atStart => exact ⟨rfl, rfl, rfl⟩
  case round =>
   obtain ⟨rfl, rfl, hwe⟩ := hrel
   have hwe' := hwe.symm
   clear hwe
   subst hwe'
   go_wp2_with fail
   go_ret
   exact ⟨_, { s with err := 3, at_ := a }, rfl, unhide HFIN⟩
 | ok t q1 =>
  have hso := rSym_ok hrs
  have ht19 := unhide HSY _ _ hso.2.2.2
  have hq1 : q1 ≤ 8 * b.size := by have := hso.2.1; rw [bytesOf_length] at this; exact this
  rw [hrs] at hxr
  obtain ⟨hyt, hs1⟩ := hxr
  subst hs1
  subst hyt
  have hres : res = (if y = 16 ∧ row.length = 0 then .no 8 else match rLens (bytesOf b) q1 y row with | .no e => .no e | .miss => .miss | .ok lt q' => if n < row.length + lt.2 then .no 8 else .ok (row ++ List.replicate lt.2 lt.1) q') := by rw [unhide HRE]; unfold rowStep; rw [hrs]
  have hlvs : lv = .slice la len lc := by have := unhide HLV; rw [← unhide HLEN] at this; exact this
  rw [hlvs] at hrow1
  obtain ⟨_, _, c2, _⟩ := hx1.cell
  dsimp only at c2
  rw [h0] at c2
  have HX1 := hide hx1
  have HST1 := hide hst1
  have HROW1 := hide hrow1
  clear hx1 hw1 hst1 hrow1 hrs hso hlvs HSYM HROW HLV HRE hy0
  by_cases hlt : y < 16
  ·have e16 : ((y : Int) == 16) = false := beq_eq_false_iff_ne.2 (by omega)
   have e17 : ((y : Int) == 17) = false := beq_eq_false_iff_ne.2 (by omega)
   have e18 : ((y : Int) == 18) = false := beq_eq_false_iff_ne.2 (by omega)
   have hres2 : res = if n < row.length + 1 then .no 8 else .ok (row ++ List.replicate 1 y) q1 := by
    rw [hres, if_neg (by omega)]
    unfold rLens
    rw [if_pos hlt]
   have HRES2 := hide hres2
   have HX2 := HX1
   have HROW2 := HROW1
   have HST2 := HST1
   clear hres hres2 HX1 HROW1 HST1
   have hbig : ¬ n < len + 1 := by omega
   have hbi : ¬ (n : Int) < (len : Int) + ((1 : Nat) : Int) := by omega
   go_wp2_with fail
   go_loopw [2, 15] (fun l i wr => ∃ j : Nat, j ≤ 1 ∧ i = .int .i64 (j : Nat) ∧ LRow wr lb x C s.v l (row ++ List.replicate j (y)) ∧ XAt wr x base b { s with at_ := q1 } ∧ Step (fun k => k = x ∨ s.v.ownBlock = some k ∨ lb ≤ k) w wr) (fun _ i _ => 1 - (intOf i).toNat)
   case atStart => exact ⟨0, by omega, rfl, by simpa using unhide HROW2, unhide HX2, unhide HST2⟩
   case round =>
    clear HROW2 HX2 HST2
    obtain ⟨j, hj, rfl, hrw, hxw, hsw⟩ := hrel
    obtain ⟨ja, jc, hjv⟩ := hrw.slice
    obtain ⟨_, _, c9, _⟩ := hxw.cell
    dsimp only at c9
    rw [h0] at c9
    have ejl : (row ++ List.replicate j (y)).length = len + j := by rw [List.length_append, List.length_replicate, ← unhide HLEN]
    rw [ejl] at hjv
    subst hjv
    by_cases hjt : j < 1
    ·have hown := hrw.own
     rw [ejl] at hown
     have HOW := hide hown
     have HRW := hide hrw
     have HXW := hide hxw
     have HSW := hide hsw
     have HEJ := hide ejl
     have hlb := hrw.le
     have h15 : ∀ i : Nat, row[i]?.getD 0 ≤ 15 := fun i => by
      by_cases hi9 : i < row.length
      ·have h9 := hrw.le15 i
       rw [List.getElem?_append_left hi9] at h9
       exact h9
      ·rw [List.getElem?_eq_none (by omega)]; simp
     clear hown hrw hxw hsw ejl
     go_wp2_with (at_builtin; refine wpList_append_row _ rfl _ _ 57 rfl lb 3 i0 (.int .i64 0) 1 8 Tryz.underlying57 hi hz0 hz1 hz2 rfl (by decide) _ (len + j) (i64s (row ++ List.replicate j (y))) rfl (by exact (unhide HOW).alloc _) ⟨wr.heap.size, 0, none⟩ 1 1 [nat (y)] rfl rfl ?c1 ?c2 (by decide) ?c3 ?c4 ?c5 ?_)
     case c2 => first | rfl | (intro u hu; simp at hu; subst hu; rfl)
     case c3 => unfold maxLen; omega
     case c4 => omega
     case c5 => exact Nat.le_trans hlb (by simp)
     intro g9 cap9 w9 hown9 hgr9 hg9
     have hs9 : Step (fun k => k = x ∨ s.v.ownBlock = some k ∨ lb ≤ k) wr w9 := ((Step.refl _ wr).alloc _).grown hgr9 (fun k hk => .inl (.inr (.inr ((unhide HOW).lt k hk).1)))
     have hs9' : Step (fun k => lb ≤ k) wr w9 := ((Step.refl _ wr).alloc _).grown hgr9 (fun k hk => .inl ((unhide HOW).lt k hk).1)
     have er : row ++ List.replicate (j + 1) (y) = (row ++ List.replicate j (y)) ++ [y] := by rw [List.append_assoc, ← List.replicate_succ']
     have hrw9 : LRow w9 lb x C s.v (.slice (some ⟨g9, 0, none⟩) (len + j + 1) cap9) (row ++ List.replicate (j + 1) (y)) := by
      refine ⟨?_, (unhide HRW).lx, (unhide HRW).lc, (unhide HRW).lv_, Nat.le_trans (unhide HRW).le hs9.size, ?_, ?_⟩
      ·have e3 : (row ++ List.replicate (j + 1) (y)).length = len + j + 1 := by rw [er, List.length_append, unhide HEJ]; rfl
       have e4 : i64s (row ++ List.replicate (j + 1) (y)) = List.map (fun c => Value.int IntKind.i64 (c : Nat)) row ++ (List.replicate j (Value.int .i64 ((y : Nat) : Int)) ++ [nat (y)]) := by simp [i64s, nat, List.replicate_succ']
       rw [e3, e4]
       exact hown9
      ·exact getD_append_rep row (j + 1) (y) h15 (by omega)
      ·rw [er, List.length_append, unhide HEJ, List.length_singleton]; omega
     have hxw9 : XAt w9 x base b { s with at_ := q1 } := (unhide HXW).step hs9' (by have := (unhide HRW).lx; omega) (fun k hk => by have := (unhide HRW).lv_ k hk; omega)
     have HF := hide (show LRow w9 lb x C s.v (.slice (some ⟨g9, 0, none⟩) (len + j + 1) cap9) (row ++ List.replicate (j + 1) (y)) ∧ XAt w9 x base b { s with at_ := q1 } ∧ Step (fun k => k = x ∨ s.v.ownBlock = some k ∨ lb ≤ k) w w9 from ⟨hrw9, hxw9, (unhide HSW).trans hs9⟩)
     clear hown9 hgr9 hg9 hs9 hs9' er hrw9 hxw9
     go_wp2_with fail
     exact ⟨⟨j + 1, by omega, by go_num, unhide HF⟩, by simp [intOf]; omega⟩
    ·have hjT : j = 1 := by omega
     subst hjT
     have HFIN := hide (show LensP res w x base C lb b s row (.slice ja (len + 1) jc) { s with at_ := q1 } wr from by
      rw [unhide HRES2, if_neg (by rw [← unhide HLEN]; exact hbig)]
      exact ⟨hxw, hsw, rfl, hrw⟩)
     clear hrw hxw hsw
     go_wp2_with fail
     go_ret
     exact ⟨_, rfl, { s with at_ := q1 }, unhide HFIN⟩
  have hlz : row.length = len := (unhide HLEN).symm
  rw [hlz] at hres
  rw [← hlz] at hres
  by_cases h16 : y = 16
  ·subst h16
   by_cases hl0 : len = 0
   ·subst hl0
    have hres2 : res = .no 8 := by rw [hres, if_pos ⟨rfl, hlz⟩]
    have HRES2 := hide hres2
    clear hres hres2 hlz
    go_wp2_with fail
    refine (fail_any x base 8 b { s with at_ := q1 } w1 (unhide HX1)).mono ?_
    rintro r w9 ⟨rfl, hx9, hw9⟩
    replace hw9 : Wrt x w1 s.v w9 s.v := hw9
    replace hx9 : XAt w9 x base b { s with at_ := q1, err := if s.err = 0 then 8 else s.err } := hx9
    rw [if_pos h0] at hx9
    have HFIN := hide (show LensP res w x base C lb b s row (.slice la 0 lc) { s with at_ := q1, err := 8 } w9 from by
     rw [unhide HRES2]
     exact ⟨hx9, (unhide HST1).trans (hw9.step.mono (fun k hk => hk.elim .inl (fun e => .inr (.inl e)))), ⟨q1, hq1, rfl⟩, (unhide HROW1).wrt hw9⟩)
    clear hx9 hw9
    go_wp2_with fail
    go_ret
    exact ⟨_, { s with at_ := q1, err := 8 }, rfl, unhide HFIN⟩
   ·have hlen1 : 1 ≤ len := by omega
    obtain ⟨g9, hla, hcell⟩ : ∃ g9, la = some ⟨g9, 0, none⟩ ∧ w1.cell? ⟨g9, len - 1, none⟩ = some (nat (row[row.length - 1]?.getD 0)) := by
     obtain ⟨_, ⟨hv, hz⟩ | ⟨g', cap', cur, hv, _⟩⟩ := (unhide HROW1).own
     ·omega
     ·have hown := (unhide HROW1).own
      simp only [Value.slice.injEq] at hv
      obtain ⟨hla9, _, _⟩ := hv
      refine ⟨g', hla9, ?_⟩
      rw [hla9, ← hlz] at hown
      have h9 := hown.cellAt (row.length - 1) (by omega)
      rw [← hlz, h9]
      simp [List.getElem?_eq_getElem (show row.length - 1 < row.length by omega)]
    subst hla
    have hw15 := (unhide HROW1).le15 (row.length - 1)
    obtain ⟨wh, hwh⟩ : ∃ wh, wh = row[row.length - 1]?.getD 0 := ⟨_, rfl⟩
    rw [← hwh] at hcell hw15
    have HWH := hide hwh
    obtain ⟨t9, ht9⟩ : ∃ t9, t9 = len - 1 := ⟨_, rfl⟩
    rw [← ht9] at hcell
    have hti : IntKind.i64.wrap ((len : Int) - 1) = (t9 : Int) := by rw [IntKind.wrap_i64]; omega
    have ht0 : (0 : Int) ≤ (t9 : Int) := by omega
    have htl : (t9 : Int) < (len : Int) := by omega
    have hlb0 : ((len : Int) == 0) = false := beq_eq_false_iff_ne.2 (by omega)
    clear hwh ht9
    have e1 := number_any x base 2 b { s with at_ := q1 } w1 (unhide HX1) (by omega)
    by_cases hth : q1 + 2 ≤ 8 * b.size
    ·rw [numX_ok b { s with at_ := q1 } h0 2 hth] at e1
     have hres2 : res = if n < row.length + (numAt (bytesOf b) q1 2 + 3) then .no 8 else .ok (row ++ List.replicate (numAt (bytesOf b) q1 2 + 3) (wh)) (q1 + 2) := by
      rw [hres, if_neg (by omega)]
      have : rLens (bytesOf b) q1 16 row = .ok (wh, numAt (bytesOf b) q1 2 + 3) (q1 + 2) := by
       unfold rLens
       rw [bytesOf_length]
       rw [if_neg (by omega), if_pos rfl, if_pos hth, ← unhide HWH]
      rw [this]
     have hvl := numAt_lt (bytesOf b) q1 2
     obtain ⟨v, hv⟩ : ∃ v, v = numAt (bytesOf b) q1 2 := ⟨_, rfl⟩
     rw [← hv] at hres2 e1 hvl
     have HRES2 := hide hres2
     have HE1 := hide e1
     clear hres hres2 e1 hv
     go_wp2_with fail
     refine (unhide HE1).mono ?_
     rintro r w2 ⟨rfl, hx2, hw2⟩
     replace hw2 : Wrt x w1 s.v w2 s.v := hw2
     replace hx2 : XAt w2 x base b { s with at_ := q1 + 2 } := hx2
     obtain ⟨_, _, c3, _⟩ := hx2.cell
     dsimp only at c3
     rw [h0] at c3
     have HX2 := hide hx2
     have HROW2 := hide ((unhide HROW1).wrt hw2)
     have HST2 := hide ((unhide HST1).trans (hw2.step.mono (fun k hk => hk.elim .inl (fun e => .inr (.inl e)))))
     clear hx2 hw2 HE1 HX1 HROW1 HST1
     by_cases hbig : n < len + (v + 3)
     ·have hbi : (n : Int) < (len : Int) + (((v + 3) : Nat) : Int) := by omega
      go_wp2_with fail
      refine (fail_any x base 8 b { s with at_ := q1 + 2 } w2 (unhide HX2)).mono ?_
      rintro r w9 ⟨rfl, hx9, hw9⟩
      replace hw9 : Wrt x w2 s.v w9 s.v := hw9
      replace hx9 : XAt w9 x base b { s with at_ := q1 + 2, err := if s.err = 0 then 8 else s.err } := hx9
      rw [if_pos h0] at hx9
      obtain ⟨_, _, c9, _⟩ := hx9.cell
      dsimp only at c9
      have HFIN := hide (show LensP res w x base C lb b s row (.slice (some ⟨g9, 0, none⟩) len lc) { s with at_ := q1 + 2, err := 8 } w9 from by
       rw [unhide HRES2, if_pos (by rw [← unhide HLEN]; exact hbig)]
       exact ⟨hx9, (unhide HST2).trans (hw9.step.mono (fun k hk => hk.elim .inl (fun e => .inr (.inl e)))), ⟨q1 + 2, (unhide HX2).there, rfl⟩, (unhide HROW2).wrt hw9⟩)
      clear hx9 hw9
      go_wp2_with fail
      go_loopw [2, 15] (fun l i wr => l = .slice (some ⟨g9, 0, none⟩) len lc ∧ i = .int .i64 0 ∧ wr = w9) (fun _ _ _ => 0)
      case atStart => exact ⟨rfl, rfl, rfl⟩
      case round =>
       obtain ⟨rfl, rfl, hwe⟩ := hrel
       have hwe' := hwe.symm
       clear hwe
       subst hwe'
       go_wp2_with fail
       go_ret
       exact ⟨_, { s with at_ := q1 + 2, err := 8 }, rfl, unhide HFIN⟩
     ·have hbi : ¬ (n : Int) < (len : Int) + (((v + 3) : Nat) : Int) := by omega
      go_wp2_with fail
      go_loopw [2, 15] (fun l i wr => ∃ j : Nat, j ≤ (v + 3) ∧ i = .int .i64 (j : Nat) ∧ LRow wr lb x C s.v l (row ++ List.replicate j (wh)) ∧ XAt wr x base b { s with at_ := q1 + 2 } ∧ Step (fun k => k = x ∨ s.v.ownBlock = some k ∨ lb ≤ k) w wr) (fun _ i _ => (v + 3) - (intOf i).toNat)
      case atStart => exact ⟨0, by omega, rfl, by simpa using unhide HROW2, unhide HX2, unhide HST2⟩
      case round =>
       clear HROW2 HX2 HST2
       obtain ⟨j, hj, rfl, hrw, hxw, hsw⟩ := hrel
       obtain ⟨ja, jc, hjv⟩ := hrw.slice
       obtain ⟨_, _, c9, _⟩ := hxw.cell
       dsimp only at c9
       rw [h0] at c9
       have ejl : (row ++ List.replicate j (wh)).length = len + j := by rw [List.length_append, List.length_replicate, ← unhide HLEN]
       rw [ejl] at hjv
       subst hjv
       by_cases hjt : j < (v + 3)
       ·have hown := hrw.own
        rw [ejl] at hown
        have HOW := hide hown
        have HRW := hide hrw
        have HXW := hide hxw
        have HSW := hide hsw
        have HEJ := hide ejl
        have hlb := hrw.le
        have h15 : ∀ i : Nat, row[i]?.getD 0 ≤ 15 := fun i => by
         by_cases hi9 : i < row.length
         ·have h9 := hrw.le15 i
          rw [List.getElem?_append_left hi9] at h9
          exact h9
         ·rw [List.getElem?_eq_none (by omega)]; simp
        clear hown hrw hxw hsw ejl
        go_wp2_with (at_builtin; refine wpList_append_row _ rfl _ _ 57 rfl lb 3 i0 (.int .i64 0) 1 8 Tryz.underlying57 hi hz0 hz1 hz2 rfl (by decide) _ (len + j) (i64s (row ++ List.replicate j (wh))) rfl (by exact (unhide HOW).alloc _) ⟨wr.heap.size, 0, none⟩ 1 1 [nat (wh)] rfl rfl ?c1k3 ?c2k3 (by decide) ?c3k3 ?c4k3 ?c5k3 ?_)
        case c2k3 => first | rfl | (intro u hu; simp at hu; subst hu; rfl)
        case c3k3 => unfold maxLen; omega
        case c4k3 => omega
        case c5k3 => exact Nat.le_trans hlb (by simp)
        intro g9 cap9 w9 hown9 hgr9 hg9
        have hs9 : Step (fun k => k = x ∨ s.v.ownBlock = some k ∨ lb ≤ k) wr w9 := ((Step.refl _ wr).alloc _).grown hgr9 (fun k hk => .inl (.inr (.inr ((unhide HOW).lt k hk).1)))
        have hs9' : Step (fun k => lb ≤ k) wr w9 := ((Step.refl _ wr).alloc _).grown hgr9 (fun k hk => .inl ((unhide HOW).lt k hk).1)
        have er : row ++ List.replicate (j + 1) (wh) = (row ++ List.replicate j (wh)) ++ [wh] := by rw [List.append_assoc, ← List.replicate_succ']
        have hrw9 : LRow w9 lb x C s.v (.slice (some ⟨g9, 0, none⟩) (len + j + 1) cap9) (row ++ List.replicate (j + 1) (wh)) := by
         refine ⟨?_, (unhide HRW).lx, (unhide HRW).lc, (unhide HRW).lv_, Nat.le_trans (unhide HRW).le hs9.size, ?_, ?_⟩
         ·have e3 : (row ++ List.replicate (j + 1) (wh)).length = len + j + 1 := by rw [er, List.length_append, unhide HEJ]; rfl
          have e4 : i64s (row ++ List.replicate (j + 1) (wh)) = List.map (fun c => Value.int IntKind.i64 (c : Nat)) row ++ (List.replicate j (Value.int .i64 ((wh : Nat) : Int)) ++ [nat (wh)]) := by simp [i64s, nat, List.replicate_succ']
          rw [e3, e4]
          exact hown9
         ·exact getD_append_rep row (j + 1) (wh) h15 hw15
         ·rw [er, List.length_append, unhide HEJ, List.length_singleton]; omega
        have hxw9 : XAt w9 x base b { s with at_ := q1 + 2 } := (unhide HXW).step hs9' (by have := (unhide HRW).lx; omega) (fun k hk => by have := (unhide HRW).lv_ k hk; omega)
        have HF := hide (show LRow w9 lb x C s.v (.slice (some ⟨g9, 0, none⟩) (len + j + 1) cap9) (row ++ List.replicate (j + 1) (wh)) ∧ XAt w9 x base b { s with at_ := q1 + 2 } ∧ Step (fun k => k = x ∨ s.v.ownBlock = some k ∨ lb ≤ k) w w9 from ⟨hrw9, hxw9, (unhide HSW).trans hs9⟩)
        clear hown9 hgr9 hg9 hs9 hs9' er hrw9 hxw9
        go_wp2_with fail
        exact ⟨⟨j + 1, by omega, by go_num, unhide HF⟩, by simp [intOf]; omega⟩
       ·have hjT : j = (v + 3) := by omega
        subst hjT
        have HFIN := hide (show LensP res w x base C lb b s row (.slice ja (len + (v + 3)) jc) { s with at_ := q1 + 2 } wr from by
         rw [unhide HRES2, if_neg (by rw [← unhide HLEN]; exact hbig)]
         exact ⟨hxw, hsw, rfl, hrw⟩)
        clear hrw hxw hsw
        go_wp2_with fail
        go_ret
        exact ⟨_, rfl, { s with at_ := q1 + 2 }, unhide HFIN⟩
    ·have hms := numX_miss b { s with at_ := q1 } h0 hq1 2 (by dsimp only; omega)
     have hnl := numX_lt b { s with at_ := q1 } 2
     rw [hms] at e1
     have hres2 : res = .miss := by
      rw [hres, if_neg (by omega)]
      have : rLens (bytesOf b) q1 16 row = .miss := by
       unfold rLens
       rw [bytesOf_length]
       rw [if_neg (by omega), if_pos rfl, if_neg hth]
      rw [this]
     obtain ⟨v, hv⟩ : ∃ v, v = (numX b { s with at_ := q1 } 2).1 := ⟨_, rfl⟩
     rw [← hv] at e1 hnl
     have HRES2 := hide hres2
     have HE1 := hide e1
     clear hres hres2 e1 hv hms
     go_wp2_with fail
     refine (unhide HE1).mono ?_
     rintro r w2 ⟨rfl, hx2, hw2⟩
     replace hw2 : Wrt x w1 s.v w2 s.v := hw2
     replace hx2 : XAt w2 x base b { s with at_ := 8 * b.size, err := 3 } := hx2
     obtain ⟨_, _, c3, _⟩ := hx2.cell
     dsimp only at c3
     have HFIN := hide (show LensP res w x base C lb b s row (.slice (some ⟨g9, 0, none⟩) len lc) { s with at_ := 8 * b.size, err := 3 } w2 from by
      rw [unhide HRES2]
      exact ⟨hx2, (unhide HST1).trans (hw2.step.mono (fun k hk => hk.elim .inl (fun e => .inr (.inl e)))), ⟨8 * b.size, Nat.le_refl _, rfl⟩, (unhide HROW1).wrt hw2⟩)
     have hv0 : (0 : Int) < (v : Int) + 3 := by omega
     clear hx2 hw2 HE1
     go_wp2_with fail
     go_loopw [2, 15] (fun l i wr => l = .slice (some ⟨g9, 0, none⟩) len lc ∧ i = .int .i64 0 ∧ wr = w2) (fun _ _ _ => 0)
     case atStart => exact ⟨rfl, rfl, rfl⟩
     case round =>
      obtain ⟨rfl, rfl, hwe⟩ := hrel
      have hwe' := hwe.symm
      clear hwe
      subst hwe'
      go_wp2_with fail
      go_ret
      exact ⟨_, { s with at_ := 8 * b.size, err := 3 }, rfl, unhide HFIN⟩
  by_cases h17 : y = 17
  ·subst h17
   have e1 := number_any x base 3 b { s with at_ := q1 } w1 (unhide HX1) (by omega)
   by_cases hth : q1 + 3 ≤ 8 * b.size
   ·rw [numX_ok b { s with at_ := q1 } h0 3 hth] at e1
    have hres2 : res = if n < row.length + (numAt (bytesOf b) q1 3 + 3) then .no 8 else .ok (row ++ List.replicate (numAt (bytesOf b) q1 3 + 3) (0)) (q1 + 3) := by
     rw [hres, if_neg (by omega)]
     have : rLens (bytesOf b) q1 17 row = .ok (0, numAt (bytesOf b) q1 3 + 3) (q1 + 3) := by
      unfold rLens
      rw [bytesOf_length]
      rw [if_neg (by omega), if_neg (by omega), if_pos rfl, if_pos hth]
     rw [this]
    have hvl := numAt_lt (bytesOf b) q1 3
    obtain ⟨v, hv⟩ : ∃ v, v = numAt (bytesOf b) q1 3 := ⟨_, rfl⟩
    rw [← hv] at hres2 e1 hvl
    have HRES2 := hide hres2
    have HE1 := hide e1
    clear hres hres2 e1 hv
    go_wp2_with fail
    refine (unhide HE1).mono ?_
    rintro r w2 ⟨rfl, hx2, hw2⟩
    replace hw2 : Wrt x w1 s.v w2 s.v := hw2
    replace hx2 : XAt w2 x base b { s with at_ := q1 + 3 } := hx2
    obtain ⟨_, _, c3, _⟩ := hx2.cell
    dsimp only at c3
    rw [h0] at c3
    have HX2 := hide hx2
    have HROW2 := hide ((unhide HROW1).wrt hw2)
    have HST2 := hide ((unhide HST1).trans (hw2.step.mono (fun k hk => hk.elim .inl (fun e => .inr (.inl e)))))
    clear hx2 hw2 HE1 HX1 HROW1 HST1
    by_cases hbig : n < len + (v + 3)
    ·have hbi : (n : Int) < (len : Int) + (((v + 3) : Nat) : Int) := by omega
     go_wp2_with fail
     refine (fail_any x base 8 b { s with at_ := q1 + 3 } w2 (unhide HX2)).mono ?_
     rintro r w9 ⟨rfl, hx9, hw9⟩
     replace hw9 : Wrt x w2 s.v w9 s.v := hw9
     replace hx9 : XAt w9 x base b { s with at_ := q1 + 3, err := if s.err = 0 then 8 else s.err } := hx9
     rw [if_pos h0] at hx9
     obtain ⟨_, _, c9, _⟩ := hx9.cell
     dsimp only at c9
     have HFIN := hide (show LensP res w x base C lb b s row (.slice la len lc) { s with at_ := q1 + 3, err := 8 } w9 from by
      rw [unhide HRES2, if_pos (by rw [← unhide HLEN]; exact hbig)]
      exact ⟨hx9, (unhide HST2).trans (hw9.step.mono (fun k hk => hk.elim .inl (fun e => .inr (.inl e)))), ⟨q1 + 3, (unhide HX2).there, rfl⟩, (unhide HROW2).wrt hw9⟩)
     clear hx9 hw9
     go_wp2_with fail
     go_loopw [2, 15] (fun l i wr => l = .slice la len lc ∧ i = .int .i64 0 ∧ wr = w9) (fun _ _ _ => 0)
     case atStart => exact ⟨rfl, rfl, rfl⟩
     case round =>
      obtain ⟨rfl, rfl, hwe⟩ := hrel
      have hwe' := hwe.symm
      clear hwe
      subst hwe'
      go_wp2_with fail
      go_ret
      exact ⟨_, { s with at_ := q1 + 3, err := 8 }, rfl, unhide HFIN⟩
    ·have hbi : ¬ (n : Int) < (len : Int) + (((v + 3) : Nat) : Int) := by omega
     go_wp2_with fail
     go_loopw [2, 15] (fun l i wr => ∃ j : Nat, j ≤ (v + 3) ∧ i = .int .i64 (j : Nat) ∧ LRow wr lb x C s.v l (row ++ List.replicate j (0)) ∧ XAt wr x base b { s with at_ := q1 + 3 } ∧ Step (fun k => k = x ∨ s.v.ownBlock = some k ∨ lb ≤ k) w wr) (fun _ i _ => (v + 3) - (intOf i).toNat)
     case atStart => exact ⟨0, by omega, rfl, by simpa using unhide HROW2, unhide HX2, unhide HST2⟩
     case round =>
      clear HROW2 HX2 HST2
      obtain ⟨j, hj, rfl, hrw, hxw, hsw⟩ := hrel
      obtain ⟨ja, jc, hjv⟩ := hrw.slice
      obtain ⟨_, _, c9, _⟩ := hxw.cell
      dsimp only at c9
      rw [h0] at c9
      have ejl : (row ++ List.replicate j (0)).length = len + j := by rw [List.length_append, List.length_replicate, ← unhide HLEN]
      rw [ejl] at hjv
      subst hjv
      by_cases hjt : j < (v + 3)
      ·have hown := hrw.own
       rw [ejl] at hown
       have HOW := hide hown
       have HRW := hide hrw
       have HXW := hide hxw
       have HSW := hide hsw
       have HEJ := hide ejl
       have hlb := hrw.le
       have h15 : ∀ i : Nat, row[i]?.getD 0 ≤ 15 := fun i => by
        by_cases hi9 : i < row.length
        ·have h9 := hrw.le15 i
         rw [List.getElem?_append_left hi9] at h9
         exact h9
        ·rw [List.getElem?_eq_none (by omega)]; simp
       clear hown hrw hxw hsw ejl
       go_wp2_with (at_builtin; refine wpList_append_row _ rfl _ _ 57 rfl lb 3 i0 (.int .i64 0) 1 8 Tryz.underlying57 hi hz0 hz1 hz2 rfl (by decide) _ (len + j) (i64s (row ++ List.replicate j (0))) rfl (by exact (unhide HOW).alloc _) ⟨wr.heap.size, 0, none⟩ 1 1 [.int .i64 0] rfl rfl ?c1k1 ?c2k1 (by decide) ?c3k1 ?c4k1 ?c5k1 ?_)
       case c2k1 => first | rfl | (intro u hu; simp at hu; subst hu; rfl)
       case c3k1 => unfold maxLen; omega
       case c4k1 => omega
       case c5k1 => exact Nat.le_trans hlb (by simp)
       intro g9 cap9 w9 hown9 hgr9 hg9
       have hs9 : Step (fun k => k = x ∨ s.v.ownBlock = some k ∨ lb ≤ k) wr w9 := ((Step.refl _ wr).alloc _).grown hgr9 (fun k hk => .inl (.inr (.inr ((unhide HOW).lt k hk).1)))
       have hs9' : Step (fun k => lb ≤ k) wr w9 := ((Step.refl _ wr).alloc _).grown hgr9 (fun k hk => .inl ((unhide HOW).lt k hk).1)
       have er : row ++ List.replicate (j + 1) (0) = (row ++ List.replicate j (0)) ++ [0] := by rw [List.append_assoc, ← List.replicate_succ']
       have hrw9 : LRow w9 lb x C s.v (.slice (some ⟨g9, 0, none⟩) (len + j + 1) cap9) (row ++ List.replicate (j + 1) (0)) := by
        refine ⟨?_, (unhide HRW).lx, (unhide HRW).lc, (unhide HRW).lv_, Nat.le_trans (unhide HRW).le hs9.size, ?_, ?_⟩
        ·have e3 : (row ++ List.replicate (j + 1) (0)).length = len + j + 1 := by rw [er, List.length_append, unhide HEJ]; rfl
         have e4 : i64s (row ++ List.replicate (j + 1) (0)) = List.map (fun c => Value.int IntKind.i64 (c : Nat)) row ++ (List.replicate j (Value.int .i64 0) ++ [.int .i64 0]) := by simp [i64s, List.replicate_succ']
         rw [e3, e4]
         exact hown9
        ·exact getD_append_rep row (j + 1) (0) h15 (by omega)
        ·rw [er, List.length_append, unhide HEJ, List.length_singleton]; omega
       have hxw9 : XAt w9 x base b { s with at_ := q1 + 3 } := (unhide HXW).step hs9' (by have := (unhide HRW).lx; omega) (fun k hk => by have := (unhide HRW).lv_ k hk; omega)
       have HF := hide (show LRow w9 lb x C s.v (.slice (some ⟨g9, 0, none⟩) (len + j + 1) cap9) (row ++ List.replicate (j + 1) (0)) ∧ XAt w9 x base b { s with at_ := q1 + 3 } ∧ Step (fun k => k = x ∨ s.v.ownBlock = some k ∨ lb ≤ k) w w9 from ⟨hrw9, hxw9, (unhide HSW).trans hs9⟩)
       clear hown9 hgr9 hg9 hs9 hs9' er hrw9 hxw9
       go_wp2_with fail
       exact ⟨⟨j + 1, by omega, by go_num, unhide HF⟩, by simp [intOf]; omega⟩
      ·have hjT : j = (v + 3) := by omega
       subst hjT
       have HFIN := hide (show LensP res w x base C lb b s row (.slice ja (len + (v + 3)) jc) { s with at_ := q1 + 3 } wr from by
        rw [unhide HRES2, if_neg (by rw [← unhide HLEN]; exact hbig)]
        exact ⟨hxw, hsw, rfl, hrw⟩)
       clear hrw hxw hsw
       go_wp2_with fail
       go_ret
       exact ⟨_, rfl, { s with at_ := q1 + 3 }, unhide HFIN⟩
   ·have hms := numX_miss b { s with at_ := q1 } h0 hq1 3 (by dsimp only; omega)
    have hnl := numX_lt b { s with at_ := q1 } 3
    rw [hms] at e1
    have hres2 : res = .miss := by
     rw [hres, if_neg (by omega)]
     have : rLens (bytesOf b) q1 17 row = .miss := by
      unfold rLens
      rw [bytesOf_length]
      rw [if_neg (by omega), if_neg (by omega), if_pos rfl, if_neg hth]
     rw [this]
    obtain ⟨v, hv⟩ : ∃ v, v = (numX b { s with at_ := q1 } 3).1 := ⟨_, rfl⟩
    rw [← hv] at e1 hnl
    have HRES2 := hide hres2
    have HE1 := hide e1
    clear hres hres2 e1 hv hms
    go_wp2_with fail
    refine (unhide HE1).mono ?_
    rintro r w2 ⟨rfl, hx2, hw2⟩
    replace hw2 : Wrt x w1 s.v w2 s.v := hw2
    replace hx2 : XAt w2 x base b { s with at_ := 8 * b.size, err := 3 } := hx2
    obtain ⟨_, _, c3, _⟩ := hx2.cell
    dsimp only at c3
    have HFIN := hide (show LensP res w x base C lb b s row (.slice la len lc) { s with at_ := 8 * b.size, err := 3 } w2 from by
     rw [unhide HRES2]
     exact ⟨hx2, (unhide HST1).trans (hw2.step.mono (fun k hk => hk.elim .inl (fun e => .inr (.inl e)))), ⟨8 * b.size, Nat.le_refl _, rfl⟩, (unhide HROW1).wrt hw2⟩)
    have hv0 : (0 : Int) < (v : Int) + 3 := by omega
    clear hx2 hw2 HE1
    go_wp2_with fail
    go_loopw [2, 15] (fun l i wr => l = .slice la len lc ∧ i = .int .i64 0 ∧ wr = w2) (fun _ _ _ => 0)
    case atStart => exact ⟨rfl, rfl, rfl⟩
    case round =>
     obtain ⟨rfl, rfl, hwe⟩ := hrel
     have hwe' := hwe.symm
     clear hwe
     subst hwe'
     go_wp2_with fail
     go_ret
     exact ⟨_, { s with at_ := 8 * b.size, err := 3 }, rfl, unhide HFIN⟩
  ·have h18 : y = 18 := by omega
   subst h18
   have e1 := number_any x base 7 b { s with at_ := q1 } w1 (unhide HX1) (by omega)
   by_cases hth : q1 + 7 ≤ 8 * b.size
   ·rw [numX_ok b { s with at_ := q1 } h0 7 hth] at e1
    have hres2 : res = if n < row.length + (numAt (bytesOf b) q1 7 + 11) then .no 8 else .ok (row ++ List.replicate (numAt (bytesOf b) q1 7 + 11) (0)) (q1 + 7) := by
     rw [hres, if_neg (by omega)]
     have : rLens (bytesOf b) q1 18 row = .ok (0, numAt (bytesOf b) q1 7 + 11) (q1 + 7) := by
      unfold rLens
      rw [bytesOf_length]
      rw [if_neg (by omega), if_neg (by omega), if_neg (by omega), if_pos hth]
     rw [this]
    have hvl := numAt_lt (bytesOf b) q1 7
    obtain ⟨v, hv⟩ : ∃ v, v = numAt (bytesOf b) q1 7 := ⟨_, rfl⟩
    rw [← hv] at hres2 e1 hvl
    have HRES2 := hide hres2
    have HE1 := hide e1
    clear hres hres2 e1 hv
    go_wp2_with fail
    refine (unhide HE1).mono ?_
    rintro r w2 ⟨rfl, hx2, hw2⟩
    replace hw2 : Wrt x w1 s.v w2 s.v := hw2
    replace hx2 : XAt w2 x base b { s with at_ := q1 + 7 } := hx2
    obtain ⟨_, _, c3, _⟩ := hx2.cell
    dsimp only at c3
    rw [h0] at c3
    have HX2 := hide hx2
    have HROW2 := hide ((unhide HROW1).wrt hw2)
    have HST2 := hide ((unhide HST1).trans (hw2.step.mono (fun k hk => hk.elim .inl (fun e => .inr (.inl e)))))
    clear hx2 hw2 HE1 HX1 HROW1 HST1
    by_cases hbig : n < len + (v + 11)
    ·have hbi : (n : Int) < (len : Int) + (((v + 11) : Nat) : Int) := by omega
     go_wp2_with fail
     refine (fail_any x base 8 b { s with at_ := q1 + 7 } w2 (unhide HX2)).mono ?_
     rintro r w9 ⟨rfl, hx9, hw9⟩
     replace hw9 : Wrt x w2 s.v w9 s.v := hw9
     replace hx9 : XAt w9 x base b { s with at_ := q1 + 7, err := if s.err = 0 then 8 else s.err } := hx9
     rw [if_pos h0] at hx9
     obtain ⟨_, _, c9, _⟩ := hx9.cell
     dsimp only at c9
     have HFIN := hide (show LensP res w x base C lb b s row (.slice la len lc) { s with at_ := q1 + 7, err := 8 } w9 from by
      rw [unhide HRES2, if_pos (by rw [← unhide HLEN]; exact hbig)]
      exact ⟨hx9, (unhide HST2).trans (hw9.step.mono (fun k hk => hk.elim .inl (fun e => .inr (.inl e)))), ⟨q1 + 7, (unhide HX2).there, rfl⟩, (unhide HROW2).wrt hw9⟩)
     clear hx9 hw9
     go_wp2_with fail
     go_loopw [2, 15] (fun l i wr => l = .slice la len lc ∧ i = .int .i64 0 ∧ wr = w9) (fun _ _ _ => 0)
     case atStart => exact ⟨rfl, rfl, rfl⟩
     case round =>
      obtain ⟨rfl, rfl, hwe⟩ := hrel
      have hwe' := hwe.symm
      clear hwe
      subst hwe'
      go_wp2_with fail
      go_ret
      exact ⟨_, { s with at_ := q1 + 7, err := 8 }, rfl, unhide HFIN⟩
    ·have hbi : ¬ (n : Int) < (len : Int) + (((v + 11) : Nat) : Int) := by omega
     go_wp2_with fail
     go_loopw [2, 15] (fun l i wr => ∃ j : Nat, j ≤ (v + 11) ∧ i = .int .i64 (j : Nat) ∧ LRow wr lb x C s.v l (row ++ List.replicate j (0)) ∧ XAt wr x base b { s with at_ := q1 + 7 } ∧ Step (fun k => k = x ∨ s.v.ownBlock = some k ∨ lb ≤ k) w wr) (fun _ i _ => (v + 11) - (intOf i).toNat)
     case atStart => exact ⟨0, by omega, rfl, by simpa using unhide HROW2, unhide HX2, unhide HST2⟩
     case round =>
      clear HROW2 HX2 HST2
      obtain ⟨j, hj, rfl, hrw, hxw, hsw⟩ := hrel
      obtain ⟨ja, jc, hjv⟩ := hrw.slice
      obtain ⟨_, _, c9, _⟩ := hxw.cell
      dsimp only at c9
      rw [h0] at c9
      have ejl : (row ++ List.replicate j (0)).length = len + j := by rw [List.length_append, List.length_replicate, ← unhide HLEN]
      rw [ejl] at hjv
      subst hjv
      by_cases hjt : j < (v + 11)
      ·have hown := hrw.own
       rw [ejl] at hown
       have HOW := hide hown
       have HRW := hide hrw
       have HXW := hide hxw
       have HSW := hide hsw
       have HEJ := hide ejl
       have hlb := hrw.le
       have h15 : ∀ i : Nat, row[i]?.getD 0 ≤ 15 := fun i => by
        by_cases hi9 : i < row.length
        ·have h9 := hrw.le15 i
         rw [List.getElem?_append_left hi9] at h9
         exact h9
        ·rw [List.getElem?_eq_none (by omega)]; simp
       clear hown hrw hxw hsw ejl
       go_wp2_with (at_builtin; refine wpList_append_row _ rfl _ _ 57 rfl lb 3 i0 (.int .i64 0) 1 8 Tryz.underlying57 hi hz0 hz1 hz2 rfl (by decide) _ (len + j) (i64s (row ++ List.replicate j (0))) rfl (by exact (unhide HOW).alloc _) ⟨wr.heap.size, 0, none⟩ 1 1 [.int .i64 0] rfl rfl ?c1k2 ?c2k2 (by decide) ?c3k2 ?c4k2 ?c5k2 ?_)
       case c2k2 => first | rfl | (intro u hu; simp at hu; subst hu; rfl)
       case c3k2 => unfold maxLen; omega
       case c4k2 => omega
       case c5k2 => exact Nat.le_trans hlb (by simp)
       intro g9 cap9 w9 hown9 hgr9 hg9
       have hs9 : Step (fun k => k = x ∨ s.v.ownBlock = some k ∨ lb ≤ k) wr w9 := ((Step.refl _ wr).alloc _).grown hgr9 (fun k hk => .inl (.inr (.inr ((unhide HOW).lt k hk).1)))
       have hs9' : Step (fun k => lb ≤ k) wr w9 := ((Step.refl _ wr).alloc _).grown hgr9 (fun k hk => .inl ((unhide HOW).lt k hk).1)
       have er : row ++ List.replicate (j + 1) (0) = (row ++ List.replicate j (0)) ++ [0] := by rw [List.append_assoc, ← List.replicate_succ']
       have hrw9 : LRow w9 lb x C s.v (.slice (some ⟨g9, 0, none⟩) (len + j + 1) cap9) (row ++ List.replicate (j + 1) (0)) := by
        refine ⟨?_, (unhide HRW).lx, (unhide HRW).lc, (unhide HRW).lv_, Nat.le_trans (unhide HRW).le hs9.size, ?_, ?_⟩
        ·have e3 : (row ++ List.replicate (j + 1) (0)).length = len + j + 1 := by rw [er, List.length_append, unhide HEJ]; rfl
         have e4 : i64s (row ++ List.replicate (j + 1) (0)) = List.map (fun c => Value.int IntKind.i64 (c : Nat)) row ++ (List.replicate j (Value.int .i64 0) ++ [.int .i64 0]) := by simp [i64s, List.replicate_succ']
         rw [e3, e4]
         exact hown9
        ·exact getD_append_rep row (j + 1) (0) h15 (by omega)
        ·rw [er, List.length_append, unhide HEJ, List.length_singleton]; omega
       have hxw9 : XAt w9 x base b { s with at_ := q1 + 7 } := (unhide HXW).step hs9' (by have := (unhide HRW).lx; omega) (fun k hk => by have := (unhide HRW).lv_ k hk; omega)
       have HF := hide (show LRow w9 lb x C s.v (.slice (some ⟨g9, 0, none⟩) (len + j + 1) cap9) (row ++ List.replicate (j + 1) (0)) ∧ XAt w9 x base b { s with at_ := q1 + 7 } ∧ Step (fun k => k = x ∨ s.v.ownBlock = some k ∨ lb ≤ k) w w9 from ⟨hrw9, hxw9, (unhide HSW).trans hs9⟩)
       clear hown9 hgr9 hg9 hs9 hs9' er hrw9 hxw9
       go_wp2_with fail
       exact ⟨⟨j + 1, by omega, by go_num, unhide HF⟩, by simp [intOf]; omega⟩
      ·have hjT : j = (v + 11) := by omega
       subst hjT
       have HFIN := hide (show LensP res w x base C lb b s row (.slice ja (len + (v + 11)) jc) { s with at_ := q1 + 7 } wr from by
        rw [unhide HRES2, if_neg (by rw [← unhide HLEN]; exact hbig)]
        exact ⟨hxw, hsw, rfl, hrw⟩)
       clear hrw hxw hsw
       go_wp2_with fail
       go_ret
       exact ⟨_, rfl, { s with at_ := q1 + 7 }, unhide HFIN⟩
   ·have hms := numX_miss b { s with at_ := q1 } h0 hq1 7 (by dsimp only; omega)
    have hnl := numX_lt b { s with at_ := q1 } 7
    rw [hms] at e1
    have hres2 : res = .miss := by
     rw [hres, if_neg (by omega)]
     have : rLens (bytesOf b) q1 18 row = .miss := by
      unfold rLens
      rw [bytesOf_length]
      rw [if_neg (by omega), if_neg (by omega), if_neg (by omega), if_neg hth]
     rw [this]
    obtain ⟨v, hv⟩ : ∃ v, v = (numX b { s with at_ := q1 } 7).1 := ⟨_, rfl⟩
    rw [← hv] at e1 hnl
    have HRES2 := hide hres2
    have HE1 := hide e1
    clear hres hres2 e1 hv hms
    go_wp2_with fail
    refine (unhide HE1).mono ?_
    rintro r w2 ⟨rfl, hx2, hw2⟩
    replace hw2 : Wrt x w1 s.v w2 s.v := hw2
    replace hx2 : XAt w2 x base b { s with at_ := 8 * b.size, err := 3 } := hx2
    obtain ⟨_, _, c3, _⟩ := hx2.cell
    dsimp only at c3
    have HFIN := hide (show LensP res w x base C lb b s row (.slice la len lc) { s with at_ := 8 * b.size, err := 3 } w2 from by
     rw [unhide HRES2]
     exact ⟨hx2, (unhide HST1).trans (hw2.step.mono (fun k hk => hk.elim .inl (fun e => .inr (.inl e)))), ⟨8 * b.size, Nat.le_refl _, rfl⟩, (unhide HROW1).wrt hw2⟩)
    have hv0 : (0 : Int) < (v : Int) + 11 := by omega
    clear hx2 hw2 HE1
    go_wp2_with fail
    go_loopw [2, 15] (fun l i wr => l = .slice la len lc ∧ i = .int .i64 0 ∧ wr = w2) (fun _ _ _ => 0)
    case atStart => exact ⟨rfl, rfl, rfl⟩
    case round =>
     obtain ⟨rfl, rfl, hwe⟩ := hrel
     have hwe' := hwe.symm
     clear hwe
     subst hwe'
     go_wp2_with fail
     go_ret
     exact ⟨_, { s with at_ := 8 * b.size, err := 3 }, rfl, unhide HFIN⟩
end Go.Proofs.YtbpahojchgpdnaaGreatDoor
