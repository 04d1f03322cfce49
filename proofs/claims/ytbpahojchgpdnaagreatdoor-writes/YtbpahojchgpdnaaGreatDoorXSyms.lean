/- Proved here: what the reference's symbols does. -/
import Derived.Test.YtbpahojchgpdnaaGreatDoorBlocksx
import Derived.Test.YtbpahojchgpdnaaGreatDoorSteps
set_option maxRecDepth 20000
set_option maxHeartbeats 4000000
namespace Go.Proofs.YtbpahojchgpdnaaGreatDoor
open Go.RowKit Go.Bel
theorem symbolX_err (x base : Nat) (cv : Value) (hcv : ∃ a n c, cv = .slice a n c) (b : ByteArray) (s : XS) (w : World) (h : XAt w x base b s) (h0 : s.err ≠ 0) :
  Calls Tryz.prog 168 #[.pointer (some ⟨x, 0, none⟩), cv] w fun r w' => r = .returned (nat 0) ∧ XAt w' x base b s ∧ Wrt x w s.v w' s.v := by
 obtain ⟨a, n, c, rfl⟩ := hcv
 have hs1 : Step (fun _ => False) w (w.alloc (.cells #[.int .i64 0, .int .i64 0] 234)) := (Step.refl _ _).alloc _
 have hx1 := h.step0 hs1
 have hw1 := (Wrt.refl x w s.v).step0 hs1
 obtain ⟨_, _, c2, _⟩ := hx1.cell
 have heb : ((s.err : Int) == 0) = false := beq_eq_false_iff_ne.2 (by omega)
 have HX := hide hx1
 have HW := hide hw1
 clear h hx1 hw1 hs1
 go_enter Tryz.func168, Tryz.ntmps168
 go_wp2_with fail
 go_loopg [6] 1 (fun k u wr => wr = w.alloc (.cells #[.int .i64 0, .int .i64 0] 234))
 case atStart => rfl
 case round =>
  subst hrel
  go_wp2_with fail
  go_ret
  exact ⟨rfl, unhide HX, unhide HW⟩
def symsG (G : GS) (s : XS) : GS := { G with place := 2, out := s.out, p := s.at_ }
def SymsRel (B : List Nat) (k e : Nat) (out : List Nat) (q : Nat) (G : GS) (m : Nat) (s2 : XS) : Prop := m < k ∧ s2.err = 0 ∧ s2.most = G.most ∧ GRun B m (symsG G s2) e out q
structure SymsAt (w wr : World) (x base : Nat) (b : ByteArray) (s s2 : XS) : Prop where
 most : s2.most = s.most
 name : s2.name = s.name
 room : s2.out.length ≤ s2.most
 xat : XAt wr x base b s2
 wrt : Wrt x w s.v wr s2.v
theorem copiedX_next (out : List Nat) (dist n i : Nat) (hd : 1 ≤ dist) (hd2 : dist ≤ out.length) (hi : i < n) : (out ++ (copied out dist n).take i)[out.length + i - dist]?.getD 0 = (copied out dist n)[i]?.getD 0 := by
 have hl := copied_length out dist n
 have hc : ∀ j, j < n → (copied out dist n)[j]?.getD 0 = out[out.length - dist + j % dist]?.getD 0 := fun j hj => by simp [copied, hj]
 rw [hc i hi]
 by_cases h1 : i < dist
 ·rw [List.getElem?_append_left (by omega), Nat.mod_eq_of_lt h1, show out.length + i - dist = out.length - dist + i by omega]
 ·rw [List.getElem?_append_right (by omega), show out.length + i - dist - out.length = i - dist by omega, List.getElem?_take_of_lt (by omega), hc (i - dist) (by omega)]
  have : (i - dist) % dist = i % dist := by
   conv => rhs; rw [show i = (i - dist) + dist * 1 by omega]
   rw [Nat.add_mul_mod_self_left]
  rw [this]
def CpRel (e : Nat) (out : List Nat) (s2 : XS) (q6 dist n j : Nat) (s7 : XS) : Prop :=
 (s7.err = 0 ∧ s7.at_ = q6 ∧ s7.out = s2.out ++ (copied s2.out dist n).take j) ∨ (s7.err ≠ 0 ∧ s7.err = e ∧ s7.out = out)
theorem cp_step {e m q : Nat} {out : List Nat} {B : List Nat} {G : GS} {s2 s7 : XS} {q6 dist n j c : Nat} (v' : Value) (h : CpRel e out s2 q6 dist n j s7) (h0 : s7.err = 0) (hd : 1 ≤ dist) (hd2 : dist ≤ s2.out.length) (hj : j < n) (hm2 : s2.most = G.most) (hm : s7.most = s2.most) (hro : s7.out.length ≤ s7.most)
  (hc : c = s7.out[s7.out.length - dist]?.getD 0) (hrun : GRun B m (symsG G s2) e out q) (hg : gStep B (symsG G s2) = gPut (symsG G s2) (copied s2.out dist n) q6) :
  CpRel e out s2 q6 dist n (j + 1) (putX c s7 v') ∧ (putX c s7 v').out.length ≤ (putX c s7 v').most := by
 have hl := copied_length s2.out dist n
 rcases h with ⟨_, ha, ho⟩ | ⟨h9, _⟩
 case inr => exact absurd h0 h9
 have hlen : s7.out.length = s2.out.length + j := by rw [ho, List.length_append, List.length_take, hl]; omega
 have hcv : c = (copied s2.out dist n)[j]?.getD 0 := by
  rw [hc, hlen, ho]
  exact copiedX_next s2.out dist n j hd hd2 hj
 unfold putX
 rw [if_neg (by omega)]
 by_cases hlt : s7.out.length < s7.most
 ·rw [if_pos hlt]
  refine ⟨.inl ⟨h0, ha, ?_⟩, by dsimp only; rw [List.length_append, List.length_singleton]; omega⟩
  dsimp only
  rw [ho, List.append_assoc, hcv, List.take_succ_eq_append_getElem (by omega), List.getElem?_eq_getElem (by omega)]
  rfl
 ·rw [if_neg hlt]
  have h3 : (symsG G s2).place ≠ 3 := by unfold symsG; simp
  unfold gPut at hg
  have eo : (symsG G s2).out = s2.out := rfl
  have em : (symsG G s2).most = G.most := rfl
  rw [eo, em, if_neg (by omega)] at hg
  obtain ⟨he, hoo⟩ := hrun.err_pos _ _ hg h3
  refine ⟨.inr ⟨by simp, he.symm, ?_⟩, hro⟩
  dsimp only
  rw [hoo, ho, show G.most - s2.out.length = j by omega]
structure Ready (w : World) (x C1 C2 : Nat) (v : Value) (ls ld : List Nat) : Prop where
 c1 : CodesAt w C1 ls
 c2 : CodesAt w C2 ld
 o1 : Off x v C1
 o2 : Off x v C2
 l1 : ∀ i : Nat, ls[i]?.getD 0 ≤ 15
 l2 : ∀ i : Nat, ld[i]?.getD 0 ≤ 15
 n1 : ls.length ≤ 1000
 n2 : ld.length ≤ 1000
 f1 : farB ls = true
 f2 : farB ld = true
theorem Ready.wrt {w w' : World} {x C1 C2 : Nat} {v v' : Value} {ls ld : List Nat} (h : Ready w x C1 C2 v ls ld) (hw : Wrt x w v w' v') : Ready w' x C1 C2 v' ls ld :=
 ⟨h.c1.wrt h.o1 hw, h.c2.wrt h.o2 hw, h.o1.wrt h.c1.lt hw, h.o2.wrt h.c2.lt hw, h.l1, h.l2, h.n1, h.n2, h.f1, h.f2⟩
theorem symbolsX_any (x base k e C1 C2 : Nat) (b : ByteArray) (s : XS) (G : GS) (out : List Nat) (q : Nat) (w : World) (h : XAt w x base b s) (hS : Same b s G) (hR : Ready w x C1 C2 s.v G.ls G.ld) (k1 : Nat) (hk1 : k1 < k) (hr : GRun (bytesOf b) k1 (symsG G s) e out q) (hro : s.out.length ≤ s.most) :
  Calls Tryz.prog 143 #[.pointer (some ⟨x, 0, none⟩), .slice (some ⟨C1, 0, none⟩) G.ls.length G.ls.length, .slice (some ⟨C2, 0, none⟩) G.ld.length G.ld.length] w fun r w' => r = .returned (.tuple #[]) ∧ ∃ s', BlockEnd (bytesOf b) k e out q G.last s' ∧ SymsAt w w' x base b s s' := by
 have hbl := bytesOf_length b
 have hmost := hS.lim
 have HAT := hide (show SymsAt w w x base b s s from ⟨rfl, rfl, hro, h, Wrt.refl _ _ _⟩)
 have HREL := hide (show SymsRel (bytesOf b) k e out q G k1 s from ⟨hk1, hS.err, hS.most, hr⟩)
 have HRDY := hide hR
 clear h hS hr hR
 go_enter Tryz.func143, Tryz.ntmps143
 go_wp2_with fail
 go_loopg [6] (k1 + 1) (fun g u wr => ∃ s2, SymsAt w wr x base b s s2 ∧ ((s2.err = 0 ∧ ∃ m, m + 1 = g ∧ SymsRel (bytesOf b) k e out q G m s2) ∨ (g = 0 ∧ s2.err ≠ 0 ∧ s2.err = e ∧ s2.out = out)))
 case atStart => exact ⟨s, unhide HAT, .inl ⟨(unhide HREL).2.1, k1, rfl, unhide HREL⟩⟩
 case round =>
  clear HAT HREL
  obtain ⟨s2, hat, hcase⟩ := hrel
  obtain ⟨_, _, c2, _⟩ := hat.xat.cell
  rcases hcase with ⟨he0, m, hmg, hmk, _, hmost2, hrun⟩ | ⟨hg0, he0, hee, hoo⟩
  case inr =>
   have heb : ((s2.err : Int) == 0) = false := beq_eq_false_iff_ne.2 (by omega)
   have HA := hide hat
   have HE := hide (show BlockEnd (bytesOf b) k e out q G.last s2 from .inl ⟨he0, hee, hoo⟩)
   clear hat hee hoo
   go_wp2_with fail
   go_end0
   exact ⟨rfl, s2, unhide HE, unhide HA⟩
  rw [he0] at c2
  have hrdy := (unhide HRDY).wrt hat.wrt
  have hg : gStep (bytesOf b) (symsG G s2) = gSym (bytesOf b) (symsG G s2) := by
   unfold gStep
   rw [if_neg (show ¬ (symsG G s2).place = 1 by unfold symsG; simp), if_pos (show (symsG G s2).place = 2 from rfl)]
  have h3 : (symsG G s2).place ≠ 3 := by unfold symsG; simp
  have hsym := symbolX_any x base C1 G.ls b s2 wr hat.xat hrdy.c1 hrdy.o1 hrdy.l1 hrdy.n1 hrdy.f1 he0
  unfold gSym at hg
  have els : (symsG G s2).ls = G.ls := rfl
  have ep : (symsG G s2).p = s2.at_ := rfl
  have eo : (symsG G s2).out = s2.out := rfl
  rw [els, ep, eo] at hg
  have HA := hide hat
  have HSYM := hide hsym
  have HRUN := hide hrun
  have HRD2 := hide hrdy
  clear hat hsym hrun hrdy els ep eo
  go_wp2_with fail
  refine (unhide HSYM).mono ?_
  rintro r w3 ⟨y, s3, rfl, hxr, hx3, hw3, _⟩
  cases hrs : rSym (dealAll G.ls) (bytesOf b) s2.at_ with
  | no e1 =>
   rw [hrs] at hxr hg
   obtain ⟨_, a, ha, hs3⟩ := hxr
   have he9 := rSym_no hrs
   obtain ⟨he, ho⟩ := (unhide HRUN).err_pos _ _ hg h3
   subst hs3
   obtain ⟨_, _, d2, _⟩ := hx3.cell
   dsimp only at d2
   subst he9
   have HFIN := hide (show BlockEnd (bytesOf b) k e out q G.last { s2 with err := 9, at_ := a } ∧ SymsAt w w3 x base b s { s2 with err := 9, at_ := a } from ⟨.inl ⟨by simp, he.symm, ho.symm⟩, ⟨(unhide HA).most, (unhide HA).name, (unhide HA).room, hx3, (unhide HA).wrt.trans hw3⟩⟩)
   clear hx3 hw3 hg he ho hrs ha
   go_wp2_with fail
   refine bodyPost_ret (results_none rfl _ _ _) rfl ?_
   exact ⟨rfl, _, (unhide HFIN).1, (unhide HFIN).2⟩
  | miss =>
   rw [hrs] at hxr hg
   obtain ⟨_, a, ha, hs3⟩ := hxr
   obtain ⟨he, ho⟩ := (unhide HRUN).miss_is hg h3
   subst hs3
   obtain ⟨_, _, d2, _⟩ := hx3.cell
   dsimp only at d2
   have HFIN := hide (show BlockEnd (bytesOf b) k e out q G.last { s2 with err := 3, at_ := a } ∧ SymsAt w w3 x base b s { s2 with err := 3, at_ := a } from ⟨.inl ⟨by simp, he.symm, ho.symm⟩, ⟨(unhide HA).most, (unhide HA).name, (unhide HA).room, hx3, (unhide HA).wrt.trans hw3⟩⟩)
   clear hx3 hw3 hg he ho hrs ha
   go_wp2_with fail
   refine bodyPost_ret (results_none rfl _ _ _) rfl ?_
   exact ⟨rfl, _, (unhide HFIN).1, (unhide HFIN).2⟩
  | ok c q3 =>
   have hso := rSym_ok hrs
   have hc6 := tab_lt (unhide HRD2).n1 _ _ hso.2.2.2
   rw [hrs] at hxr hg
   obtain ⟨hyc, hs3⟩ := hxr
   rw [hyc]
   rw [hyc] at *
   replace hg : gStep (bytesOf b) (symsG G s2) = if c < 256 then gPut (symsG G s2) [c] q3 else if c = 256 then .go ((symsG G s2).ended q3) else gCopy (bytesOf b) (symsG G s2) c q3 := hg
   subst hs3
   obtain ⟨_, _, d2, _⟩ := hx3.cell
   dsimp only at d2
   rw [he0] at d2
   have HX3 := hide hx3
   have HW3 := hide ((unhide HA).wrt.trans hw3)
   have hq3 : q3 ≤ 8 * b.size := by have := hso.2.1; omega
   have hmu : s2.most ≤ 1048576 := by rw [(unhide HA).most]; exact hmost
   have hroom := (unhide HA).room
   clear hx3 hrs hso hyc
   by_cases h256 : c < 256
   ·rw [if_pos h256] at hg
    have hput := putX_any x base c b { s2 with at_ := q3 } w3 (unhide HX3) hmu
    have HPUT := hide hput
    have HG := hide hg
    have hce : ((c : Int) == 256) = false := beq_eq_false_iff_ne.2 (by omega)
    clear hput hg hw3
    go_wp2_with fail
    refine (unhide HPUT).mono ?_
    rintro r w4 ⟨rfl, v', hx4, hw4⟩
    have hg := unhide HG
    unfold gPut at hg
    have hfin : ∃ s4, SymsAt w w4 x base b s s4 ∧ ((s4.err = 0 ∧ ∃ m', m' + 1 = m ∧ SymsRel (bytesOf b) k e out q G m' s4) ∨ (s4.err ≠ 0 ∧ s4.err = e ∧ s4.out = out)) := by
     refine ⟨putX c { s2 with at_ := q3 } v', ⟨(putX_keeps _ _ _).1.trans (unhide HA).most, (putX_keeps _ _ _).2.trans (unhide HA).name, ?_, hx4, (unhide HW3).trans hw4⟩, ?_⟩
     ·unfold putX
      rw [if_neg (by dsimp only; omega)]
      split
      ·rename_i hlt
       dsimp only at hlt ⊢
       rw [List.length_append, List.length_singleton]
       omega
      ·exact hroom
     ·unfold putX
      rw [if_neg (by dsimp only; omega)]
      by_cases hlt : s2.out.length < s2.most
      ·rw [if_pos (by dsimp only; exact hlt)]
       rw [if_pos (by unfold symsG; simp; omega)] at hg
       obtain ⟨m', hm', hr'⟩ := (unhide HRUN).go_is hg h3
       exact .inl ⟨he0, m', by omega, by omega, he0, hmost2, hr'⟩
      ·rw [if_neg (by dsimp only; exact hlt)]
       rw [if_neg (by unfold symsG; simp; omega)] at hg
       obtain ⟨he, ho⟩ := (unhide HRUN).err_pos _ _ hg h3
       refine .inr ⟨by simp, he.symm, ?_⟩
       rw [ho]
       unfold symsG
       dsimp only
       have : G.most - s2.out.length = 0 := by omega
       rw [this]
       simp
    have HFIN := hide hfin
    clear hfin hx4 hw4 hg HPUT
    go_wp2_with fail
    obtain ⟨s4, ha4, hc4⟩ := unhide HFIN
    rcases hc4 with ⟨h40, m', hm', hr4⟩ | h4
    ·go_roundg m
     case measure => omega
     case rel => exact ⟨s4, ha4, .inl ⟨h40, m', hm', hr4⟩⟩
    ·go_roundg 0
     case measure => omega
     case rel => exact ⟨s4, ha4, .inr ⟨rfl, h4⟩⟩
   by_cases h6 : c = 256
   ·subst h6
    rw [if_neg h256, if_pos rfl] at hg
    obtain ⟨m', hm', hr'⟩ := (unhide HRUN).go_is hg h3
    have HFIN := hide (show BlockEnd (bytesOf b) k e out q G.last { s2 with at_ := q3 } from block_done hr' k (by omega) he0 rfl hmost2.symm rfl)
    clear hg hw3 hr'
    go_wp2_with fail
    refine bodyPost_ret (results_none rfl _ _ _) rfl ?_
    exact ⟨rfl, { s2 with at_ := q3 }, unhide HFIN, ⟨(unhide HA).most, (unhide HA).name, hroom, unhide HX3, unhide HW3⟩⟩
   rw [if_neg h256, if_neg h6] at hg
   have hce : ((c : Int) == 256) = false := beq_eq_false_iff_ne.2 (by omega)
   by_cases h285 : 285 < c
   ·have hgc : gCopy (bytesOf b) (symsG G s2) c q3 = .no 9 s2.out := by
     unfold gCopy rLength
     rw [if_pos h285]
     rfl
    rw [hgc] at hg
    obtain ⟨he, ho⟩ := (unhide HRUN).err_pos _ _ hg h3
    have HE := hide he
    have HO := hide ho
    clear hg hgc hw3 he ho
    go_wp2_with fail
    refine (fail_any x base 9 b { s2 with at_ := q3 } w3 (unhide HX3)).mono ?_
    rintro r w4 ⟨rfl, hx4, hw4⟩
    dsimp only at hx4 hw4
    rw [if_pos he0] at hx4
    have HX4 := hide hx4
    have HW4 := hide ((unhide HW3).trans hw4)
    clear hx4 hw4
    go_wp2_with fail
    refine bodyPost_ret (results_none rfl _ _ _) rfl ?_
    exact ⟨rfl, { s2 with at_ := q3, err := 9 }, .inl ⟨by simp, (unhide HE).symm, (unhide HO).symm⟩, ⟨(unhide HA).most, (unhide HA).name, hroom, unhide HX4, unhide HW4⟩⟩
   have hlen := lengthX_any x base c b { s2 with at_ := q3 } w3 (unhide HX3) he0 (by omega) (by omega)
   have HLEN := hide hlen
   have HG := hide hg
   have hc9 : ¬ (285 : Int) < (c : Int) := by omega
   have hrd3 := (unhide HRD2).wrt hw3
   have HRD3 := hide hrd3
   clear hlen hg hrd3 hw3
   go_wp2_with fail
   refine (unhide HLEN).mono ?_
   rintro r w4 ⟨n, s4, rfl, hxr4, hx4, hw4⟩
   replace hw4 : Wrt x w3 s2.v w4 s2.v := hw4
   have hrd4 := (unhide HRD3).wrt hw4
   have hw04 := (unhide HW3).trans hw4
   cases hrl : rLength (bytesOf b) q3 c with
   | no e1 =>
    exfalso
    unfold rLength at hrl
    rw [if_neg h285] at hrl
    split at hrl
    ·cases hrl
    ·split at hrl
     ·cases hrl
     ·split at hrl <;> cases hrl
   | miss =>
    rw [hrl] at hxr4
    obtain ⟨_, a, ha, hs4⟩ := hxr4
    subst hs4
    have hgc : gCopy (bytesOf b) (symsG G s2) c q3 = .miss := by unfold gCopy; rw [hrl]
    have hg := unhide HG
    rw [hgc] at hg
    obtain ⟨he, ho⟩ := (unhide HRUN).miss_is hg h3
    have HE := hide he
    have HO := hide ho
    have HX4 := hide hx4
    have HW4 := hide hw04
    clear hx4 hw4 hw04 hg hgc he ho hrd4 HLEN
    go_wp2_with fail
    refine (symbolX_err x base _ ⟨_, _, _, rfl⟩ b _ w4 (unhide HX4) (by simp)).mono ?_
    rintro r w5 ⟨rfl, hx5, hw5⟩
    obtain ⟨_, _, d5, _⟩ := hx5.cell
    dsimp only at d5
    have HX5 := hide hx5
    have HW5 := hide ((unhide HW4).trans hw5)
    clear hx5 hw5
    go_wp2_with fail
    refine bodyPost_ret (results_none rfl _ _ _) rfl ?_
    exact ⟨rfl, { s2 with err := 3, at_ := a }, .inl ⟨by simp, (unhide HE).symm, (unhide HO).symm⟩, ⟨(unhide HA).most, (unhide HA).name, hroom, unhide HX5, unhide HW5⟩⟩
   | ok n' q4 =>
    rw [hrl] at hxr4
    obtain ⟨hnn, hs4⟩ := hxr4
    subst hs4
    rw [hnn]
    have hnle := rLength_le hrl (by omega)
    have hq4 : q4 ≤ 8 * b.size := by have := (rLength_ok hrl (by rw [hbl]; exact hq3)).2; omega
    have hsym2 := symbolX_any x base C2 G.ld b { s2 with at_ := q4 } w4 hx4 hrd4.c2 hrd4.o2 hrd4.l2 hrd4.n2 hrd4.f2 he0
    have HSYM2 := hide hsym2
    have HX4 := hide hx4
    have HW4 := hide hw04
    have HRD4 := hide hrd4
    have HRL := hide hrl
    clear hx4 hw4 hw04 hrd4 hsym2 HLEN hnn hrl
    go_wp2_with fail
    refine (unhide HSYM2).mono ?_
    rintro r w5 ⟨dd, s5, rfl, hxr5, hx5, hw5, _⟩
    replace hw5 : Wrt x w4 s2.v w5 s2.v := hw5
    replace hxr5 : XR (rSym (dealAll G.ld) (bytesOf b) q4) b { s2 with at_ := q4 } dd s5 := hxr5
    have hrd5 := (unhide HRD4).wrt hw5
    have hw05 := (unhide HW4).trans hw5
    cases hrs5 : rSym (dealAll G.ld) (bytesOf b) q4 with
    | no e1 =>
     have he9 := rSym_no hrs5
     subst he9
     rw [hrs5] at hxr5
     obtain ⟨_, a, ha, hs5⟩ := hxr5
     subst hs5
     have hgc : gCopy (bytesOf b) (symsG G s2) c q3 = .no 9 s2.out := by
      unfold gCopy
      rw [unhide HRL]
      show (match rDist (dealAll G.ld) (bytesOf b) q4 with | .no e => _ | .miss => _ | .ok dist q2 => _) = _
      unfold rDist
      rw [hrs5]
      rfl
     have hg := unhide HG
     rw [hgc] at hg
     obtain ⟨he, ho⟩ := (unhide HRUN).err_pos _ _ hg h3
     obtain ⟨_, _, d5, _⟩ := hx5.cell
     dsimp only at d5
     have HX5 := hide hx5
     have HW5 := hide hw05
     have HE := hide he
     have HO := hide ho
     clear hx5 hw5 hw05 hg hgc he ho hrd5 hrs5 ha
     go_wp2_with fail
     refine bodyPost_ret (results_none rfl _ _ _) rfl ?_
     exact ⟨rfl, { s2 with err := 9, at_ := a }, .inl ⟨by simp, (unhide HE).symm, (unhide HO).symm⟩, ⟨(unhide HA).most, (unhide HA).name, hroom, unhide HX5, unhide HW5⟩⟩
    | miss =>
     rw [hrs5] at hxr5
     obtain ⟨_, a, ha, hs5⟩ := hxr5
     subst hs5
     have hgc : gCopy (bytesOf b) (symsG G s2) c q3 = .miss := by
      unfold gCopy
      rw [unhide HRL]
      show (match rDist (dealAll G.ld) (bytesOf b) q4 with | .no e => _ | .miss => _ | .ok dist q2 => _) = _
      unfold rDist
      rw [hrs5]
     have hg := unhide HG
     rw [hgc] at hg
     obtain ⟨he, ho⟩ := (unhide HRUN).miss_is hg h3
     obtain ⟨_, _, d5, _⟩ := hx5.cell
     dsimp only at d5
     have HX5 := hide hx5
     have HW5 := hide hw05
     have HE := hide he
     have HO := hide ho
     clear hx5 hw5 hw05 hg hgc he ho hrd5 hrs5 ha
     go_wp2_with fail
     refine bodyPost_ret (results_none rfl _ _ _) rfl ?_
     exact ⟨rfl, { s2 with err := 3, at_ := a }, .inl ⟨by simp, (unhide HE).symm, (unhide HO).symm⟩, ⟨(unhide HA).most, (unhide HA).name, hroom, unhide HX5, unhide HW5⟩⟩
    | ok d q5 =>
     rw [hrs5] at hxr5
     obtain ⟨hdd, hs5⟩ := hxr5
     subst hs5
     rw [hdd]
     have hso5 := rSym_ok hrs5
     have hd6 := tab_lt hrd5.n2 _ _ hso5.2.2.2
     have hq5 : q5 ≤ 8 * b.size := by have := hso5.2.1; omega
     obtain ⟨_, _, d5, _⟩ := hx5.cell
     dsimp only at d5
     rw [he0] at d5
     by_cases h30 : 30 ≤ d
     ·have hgc : gCopy (bytesOf b) (symsG G s2) c q3 = .no 9 s2.out := by
       unfold gCopy
       rw [unhide HRL]
       show (match rDist (dealAll G.ld) (bytesOf b) q4 with | .no e => _ | .miss => _ | .ok dist q2 => _) = _
       unfold rDist
       rw [hrs5]
       dsimp only
       rw [if_pos h30]
       rfl
      have hg := unhide HG
      rw [hgc] at hg
      obtain ⟨he, ho⟩ := (unhide HRUN).err_pos _ _ hg h3
      have HX5 := hide hx5
      have HW5 := hide hw05
      have HE := hide he
      have HO := hide ho
      clear hx5 hw5 hw05 hg hgc he ho hrd5 hrs5 hso5 hdd
      go_wp2_with fail
      refine (fail_any x base 9 b { s2 with at_ := q5 } w5 (unhide HX5)).mono ?_
      rintro r w6 ⟨rfl, hx6, hw6⟩
      replace hw6 : Wrt x w5 s2.v w6 s2.v := hw6
      replace hx6 : XAt w6 x base b { s2 with at_ := q5, err := if s2.err = 0 then 9 else s2.err } := hx6
      rw [if_pos he0] at hx6
      obtain ⟨_, _, d6, _⟩ := hx6.cell
      dsimp only at d6
      have HX6 := hide hx6
      have HW6 := hide ((unhide HW5).trans hw6)
      clear hx6 hw6
      go_wp2_with fail
      refine bodyPost_ret (results_none rfl _ _ _) rfl ?_
      exact ⟨rfl, { s2 with at_ := q5, err := 9 }, .inl ⟨by simp, (unhide HE).symm, (unhide HO).symm⟩, ⟨(unhide HA).most, (unhide HA).name, hroom, unhide HX6, unhide HW6⟩⟩
     ·have hrdt : rDist (dealAll G.ld) (bytesOf b) q4 = distTail (bytesOf b) q5 d := by
       unfold rDist distTail moreX
       rw [hrs5]
       dsimp only
       rw [if_neg h30]
      have hdist := distanceX_any x base d b { s2 with at_ := q5 } w5 hx5 he0 (by omega)
      have HDIST := hide hdist
      have HX5 := hide hx5
      have HW5 := hide hw05
      have HRDT := hide hrdt
      have hdi : ¬ (30 : Int) ≤ (d : Int) := by omega
      clear hx5 hw5 hw05 hrd5 hrs5 hso5 hdd hdist hrdt
      go_wp2_with fail
      refine (unhide HDIST).mono ?_
      rintro r w6 ⟨back, s6, rfl, hxr6, hx6, hw6⟩
      replace hw6 : Wrt x w5 s2.v w6 s2.v := hw6
      replace hxr6 : XR (distTail (bytesOf b) q5 d) b { s2 with at_ := q5 } back s6 := hxr6
      have hw06 := (unhide HW5).trans hw6
      cases hdt : distTail (bytesOf b) q5 d with
      | no e1 =>
       exfalso
       unfold distTail moreX at hdt
       split at hdt
       ·cases hdt
       ·split at hdt <;> cases hdt
      | miss =>
       rw [hdt] at hxr6
       obtain ⟨hb32, a, ha, hs6⟩ := hxr6
       subst hs6
       have hgc : gCopy (bytesOf b) (symsG G s2) c q3 = .miss := by
        unfold gCopy
        rw [unhide HRL]
        show (match rDist (dealAll G.ld) (bytesOf b) q4 with | .no e => _ | .miss => _ | .ok dist q2 => _) = _
        rw [(unhide HRDT).trans hdt]
       have hg := unhide HG
       rw [hgc] at hg
       obtain ⟨he, ho⟩ := (unhide HRUN).miss_is hg h3
       obtain ⟨_, _, d6, _⟩ := hx6.cell
       dsimp only at d6
       have HST := hide (show SymsAt w w6 x base b s { s2 with err := 3, at_ := a } ∧ ({ s2 with err := 3, at_ := a } : XS).err ≠ 0 ∧ ({ s2 with err := 3, at_ := a } : XS).err = e ∧ ({ s2 with err := 3, at_ := a } : XS).out = out from ⟨⟨(unhide HA).most, (unhide HA).name, hroom, hx6, hw06⟩, by simp, he.symm, ho.symm⟩)
       clear hx6 hw6 hw06 hgc hdt hg he ho
       go_wp2_with fail
       go_loopw [10] (fun i wr => i = .int .i64 0 ∧ wr = w6) (fun _ _ => 0)
       case atStart => exact ⟨rfl, rfl⟩
       case round =>
        obtain ⟨rfl, hwe⟩ := hrel
        have hwe' := hwe.symm
        clear hwe
        subst hwe'
        have hn0 : (0 : Int) < (n' : Int) := by omega
        go_wp2_with fail
        go_roundg 0
        case measure => omega
        case rel => exact ⟨_, (unhide HST).1, .inr ⟨rfl, (unhide HST).2⟩⟩
      | ok dist q6 =>
       rw [hdt] at hxr6
       obtain ⟨hbd, hs6⟩ := hxr6
       subst hs6
       rw [hbd]
       have hdl := rDist_le ((unhide HRDT).trans hdt)
       have hq6 : q6 ≤ 8 * b.size := by have := (rDist_ok ((unhide HRDT).trans hdt)).2; omega
       have hgc : gCopy (bytesOf b) (symsG G s2) c q3 = if s2.out.length < dist then .no 10 s2.out else gPut (symsG G s2) (copied s2.out dist n') q6 := by
        unfold gCopy
        rw [unhide HRL]
        show (match rDist (dealAll G.ld) (bytesOf b) q4 with | .no e => _ | .miss => _ | .ok dist q2 => _) = _
        rw [(unhide HRDT).trans hdt]
        rfl
       have hg := unhide HG
       rw [hgc] at hg
       obtain ⟨_, _, d6, v6, _⟩ := hx6.cell
       dsimp only at d6 v6
       rw [he0] at d6
       obtain ⟨va, vc, hv6⟩ := hx6.vslice
       replace hv6 : s2.v = .slice va s2.out.length vc := hv6
       rw [hv6] at v6
       have HX6 := hide hx6
       have HW6 := hide hw06
       have HV6 := hide hv6
       have hlm : s2.out.length ≤ 1048576 := by omega
       clear hx6 hw6 hw06 hgc hdt hbd hv6
       by_cases hfar : s2.out.length < dist
       ·rw [if_pos hfar] at hg
        obtain ⟨he, ho⟩ := (unhide HRUN).err_pos _ _ hg h3
        have hfi : (s2.out.length : Int) < (dist : Int) := by omega
        have HE := hide he
        have HO := hide ho
        clear hg he ho
        go_wp2_with fail
        refine (fail_any x base 10 b { s2 with at_ := q6 } _ (unhide HX6)).mono ?_
        rintro r w7 ⟨rfl, hx7, hw7⟩
        replace hw7 : Wrt x w6 s2.v w7 s2.v := hw7
        replace hx7 : XAt w7 x base b { s2 with at_ := q6, err := if s2.err = 0 then 10 else s2.err } := hx7
        rw [if_pos he0] at hx7
        obtain ⟨_, _, d7, _⟩ := hx7.cell
        dsimp only at d7
        have HST := hide (show SymsAt w w7 x base b s { s2 with at_ := q6, err := 10 } ∧ ({ s2 with at_ := q6, err := 10 } : XS).err ≠ 0 ∧ ({ s2 with at_ := q6, err := 10 } : XS).err = e ∧ ({ s2 with at_ := q6, err := 10 } : XS).out = out from ⟨⟨(unhide HA).most, (unhide HA).name, hroom, hx7, (unhide HW6).trans hw7⟩, by simp, (unhide HE).symm, (unhide HO).symm⟩)
        clear hx7 hw7
        go_wp2_with fail
        go_loopw [10] (fun i wr => i = .int .i64 0 ∧ wr = w7) (fun _ _ => 0)
        case atStart => exact ⟨rfl, rfl⟩
        case round =>
         obtain ⟨rfl, hwe⟩ := hrel
         have hwe' := hwe.symm
         clear hwe
         subst hwe'
         have hn0 : (0 : Int) < (n' : Int) := by omega
         go_wp2_with fail
         go_roundg 0
         case measure => omega
         case rel => exact ⟨_, (unhide HST).1, .inr ⟨rfl, (unhide HST).2⟩⟩
       ·rw [if_neg hfar] at hg
        have HGG := hide hg
        have HST := hide (show SymsAt w w6 x base b s { s2 with at_ := q6 } ∧ CpRel e out s2 q6 dist n' 0 { s2 with at_ := q6 } from ⟨⟨(unhide HA).most, (unhide HA).name, hroom, unhide HX6, unhide HW6⟩, .inl ⟨he0, rfl, by simp⟩⟩)
        have hfi : ¬ (s2.out.length : Int) < (dist : Int) := by omega
        clear hg
        go_wp2_with fail
        go_loopw [10] (fun i wr => ∃ (j : Nat) (s7 : XS), j ≤ n' ∧ i = .int .i64 (j : Nat) ∧ SymsAt w wr x base b s s7 ∧ CpRel e out s2 q6 dist n' j s7) (fun i _ => n' - (intOf i).toNat)
        case atStart => exact ⟨0, _, by omega, rfl, (unhide HST).1, (unhide HST).2⟩
        case round =>
         clear HST
         obtain ⟨j, s7, hj, rfl, hat7, hcp⟩ := hrel
         obtain ⟨_, _, e7, v7, _⟩ := hat7.xat.cell
         have hm7 : s7.most = s2.most := hat7.most.trans (unhide HA).most.symm
         by_cases he7 : s7.err = 0
         ·rw [he7] at e7
          by_cases hlt : j < n'
          ·have hlo : s7.out.length = s2.out.length + j := by
            rcases hcp with ⟨_, _, ho⟩ | ⟨h9, _⟩
            ·rw [ho, List.length_append, List.length_take, copied_length]; omega
            ·exact absurd he7 h9
           have hl7 : dist ≤ s7.out.length := by omega
           have hlm7 : s7.out.length ≤ 1048576 := by have := hat7.room; omega
           obtain ⟨g7, vc7, hv7, hcell⟩ : ∃ g7 vc7, s7.v = .slice (some ⟨g7, 0, none⟩) s7.out.length vc7 ∧ wr.cell? ⟨g7, s7.out.length - dist, none⟩ = some (.int .u8 (s7.out[s7.out.length - dist]?.getD 0 : Nat)) := by
            have hown := hat7.xat.own
            obtain ⟨_, ⟨hv, hz⟩ | ⟨g', cap', cur, hv, _⟩⟩ := hat7.xat.own
            ·omega
            ·refine ⟨g', cap', hv, ?_⟩
             rw [hv] at hown
             have h9 := hown.cellAt (s7.out.length - dist) (by omega)
             rw [h9]
             exact u8s_get _ _ (by omega)
           rw [hv7] at v7
           obtain ⟨t, htt⟩ : ∃ t, t = s7.out.length - dist := ⟨_, rfl⟩
           obtain ⟨cc, hcc⟩ : ∃ cc, cc = s7.out[s7.out.length - dist]?.getD 0 := ⟨_, rfl⟩
           rw [← hcc, ← htt] at hcell
           have hnext := fun v' => cp_step (G := G) (q := q) (B := bytesOf b) (m := m) v' hcp he7 hdl.1 (by omega) hlt hmost2 hm7 hat7.room hcc (unhide HRUN) (unhide HGG)
           have hput := fun W (hW : XAt W x base b s7) => putX_any x base cc b s7 W hW (by rw [hat7.most]; exact hmost)
           obtain ⟨len7, hlen7⟩ : ∃ l, l = s7.out.length := ⟨_, rfl⟩
           rw [← hlen7] at v7 htt hl7 hlm7
           have hwi : IntKind.i64.wrap ((len7 : Int) - (dist : Int)) = (t : Int) := by rw [IntKind.wrap_i64]; omega
           have ht0 : (0 : Int) ≤ (t : Int) := by omega
           have htl : (t : Int) < (len7 : Int) := by omega
           have HNEXT := hide hnext
           have HPUT := hide hput
           have HA7 := hide hat7
           clear hnext hput hat7 hcp hv7 hcc htt hlo hlen7
           go_wp2_with fail
           go_region_with (first | (go_at_call 166; refine (unhide HPUT _ (by first | exact (unhide HA7).xat | exact (unhide HA7).xat.drew)).mono ?_; rintro e w8 ⟨rfl, v', hx8, hw8⟩))
           all_goals
            have hfin : SymsAt w w8 x base b s (putX cc s7 v') ∧ CpRel e out s2 q6 dist n' (j + 1) (putX cc s7 v') := ⟨⟨(putX_keeps cc s7 v').1.trans (unhide HA7).most, (putX_keeps cc s7 v').2.trans (unhide HA7).name, (unhide HNEXT v').2, hx8, (unhide HA7).wrt.drew.trans hw8⟩, (unhide HNEXT v').1⟩
            have HFIN := hide hfin
            clear hfin hx8 hw8 HNEXT HPUT v7 hcell
            go_wp2_with fail
            exact ⟨⟨j + 1, _, by omega, by go_num, (unhide HFIN).1, (unhide HFIN).2⟩, by simp [intOf]; omega⟩
          ·have hjn : j = n' := by omega
           subst hjn
           rcases hcp with ⟨_, ha7, ho7⟩ | ⟨h9, _⟩
           case inr => exact absurd he7 h9
           rw [List.take_of_length_le (by rw [copied_length]; exact Nat.le_refl _)] at ho7
           have hg := unhide HGG
           unfold gPut at hg
           have hrm := hat7.room
           have hlen7 : s7.out.length = s2.out.length + j := by rw [ho7, List.length_append, copied_length]
           have eo : (symsG G s2).out = s2.out := rfl
           have em : (symsG G s2).most = G.most := rfl
           rw [eo, em, if_pos (by rw [copied_length]; omega)] at hg
           obtain ⟨m', hm', hr'⟩ := (unhide HRUN).go_is hg h3
           have hsr : SymsRel (bytesOf b) k e out q G m' s7 := by
            refine ⟨by omega, he7, hm7.trans hmost2, ?_⟩
            unfold symsG
            rw [ho7, ha7]
            exact hr'
           have HSR := hide hsr
           have HA7 := hide hat7
           clear hsr hat7 hr' hg eo em
           go_wp2_with fail
           go_roundg m
           case measure => omega
           case rel => exact ⟨s7, unhide HA7, .inl ⟨he7, m', by omega, unhide HSR⟩⟩
         ·have heb : ((s7.err : Int) == 0) = false := beq_eq_false_iff_ne.2 (by omega)
          have hend : s7.err ≠ 0 ∧ s7.err = e ∧ s7.out = out := by
           rcases hcp with ⟨h9, _⟩ | h9
           ·exact absurd h9 he7
           ·exact h9
          have HEND := hide hend
          have HA7 := hide hat7
          clear hend hat7 hcp
          by_cases hlt : j < n'
          all_goals
           go_wp2_with fail
           go_roundg 0
           case measure => omega
           case rel => exact ⟨s7, unhide HA7, .inr ⟨rfl, unhide HEND⟩⟩
end Go.Proofs.YtbpahojchgpdnaaGreatDoor
