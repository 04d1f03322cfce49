/- Proved here: what the reference's Blocks does, by what its told does (stated here, to be shown apart). -/
import Derived.Test.YtbpahojchgpdnaaGreatDoorXSyms
import Derived.Test.YtbpahojchgpdnaaGreatDoorXLens
import Derived.Test.YtbpahojchgpdnaaGreatDoorMade
set_option maxRecDepth 20000
set_option maxHeartbeats 4000000
namespace Go.Proofs.YtbpahojchgpdnaaGreatDoor
open Go.RowKit Go.Bel
def isSlice (v : Value) : Prop := ∃ a n c, v = .slice a n c
def ToldXP (r : R (List Nat × List Nat)) (x base : Nat) (b : ByteArray) (s : XS) (w : World) (c1 c2 : Value) (s' : XS) (w' : World) : Prop :=
 XAt w' x base b s' ∧ Wrt x w s.v w' s.v ∧
 match r with
 | .ok ab q => s' = { s with at_ := q } ∧ ∃ C1 C2, c1 = .slice (some ⟨C1, 0, none⟩) ab.1.length ab.1.length ∧ c2 = .slice (some ⟨C2, 0, none⟩) ab.2.length ab.2.length ∧ Ready w' x C1 C2 s.v ab.1 ab.2
 | .no e => e ≠ 0 ∧ isSlice c1 ∧ isSlice c2 ∧ ∃ a, a ≤ 8 * b.size ∧ s' = { s with err := e, at_ := a }
 | .miss => isSlice c1 ∧ isSlice c2 ∧ ∃ a, a ≤ 8 * b.size ∧ s' = { s with err := 3, at_ := a }
def ToldXSaid : Prop :=
 ∀ (x base : Nat) (b : ByteArray) (s : XS) (w : World), XAt w x base b s → s.err = 0 →
  Calls Tryz.prog 144 #[.pointer (some ⟨x, 0, none⟩)] w fun r w' => ∃ c1 c2 s', r = .returned (.tuple #[c1, c2]) ∧ ToldXP (rCoding (bytesOf b) s.at_) x base b s w c1 c2 s' w'
theorem symbolsX_err (x base : Nat) (c1 c2 : Value) (h1 : isSlice c1) (h2 : isSlice c2) (b : ByteArray) (s : XS) (w : World) (h : XAt w x base b s) (h0 : s.err ≠ 0) :
  Calls Tryz.prog 143 #[.pointer (some ⟨x, 0, none⟩), c1, c2] w fun r w' => r = .returned (.tuple #[]) ∧ w' = w := by
 obtain ⟨a1, n1, k1, rfl⟩ := h1
 obtain ⟨a2, n2, k2, rfl⟩ := h2
 obtain ⟨_, _, e2, _⟩ := h.cell
 have heb : ((s.err : Int) == 0) = false := beq_eq_false_iff_ne.2 (by omega)
 clear h
 go_enter Tryz.func143, Tryz.ntmps143
 go_wp2_with fail
 go_loopg [6] 1 (fun g u wr => wr = w)
 case atStart => rfl
 case round =>
  have hw' := hrel.symm
  clear hrel
  subst hw'
  go_wp2_with fail
  go_end0
  exact ⟨rfl, rfl⟩
theorem _root_.Go.Bel.GRun.pos {B : List Nat} {k e : Nat} {s : GS} {out : List Nat} {q : Nat} (h : GRun B k s e out q) (h3 : s.place ≠ 3) : 1 ≤ k := by
 cases h
 ·exact absurd ‹_› h3
 ·omega
 ·omega
 ·omega
structure BlkAt (w wr : World) (x base : Nat) (b : ByteArray) (s s2 : XS) : Prop where
 most : s2.most = s.most
 name : s2.name = s.name
 room : s2.out.length ≤ s2.most
 xat : XAt wr x base b s2
 wrt : Wrt x w s.v wr s2.v
def BlkRel (b : ByteArray) (e : Nat) (out : List Nat) (q : Nat) (g : Nat) (last : Nat) (s2 : XS) : Prop :=
 (s2.err ≠ 0 ∧ s2.err = e ∧ s2.out = out) ∨ (s2.err = 0 ∧ ∃ G, GRun (bytesOf b) g G e out q ∧ G.out = s2.out ∧ G.most = s2.most ∧ ((last = 0 ∧ G.place = 0 ∧ G.p = s2.at_) ∨ (last = 1 ∧ G.place = 3 ∧ G.p = (s2.at_ + 7) / 8 * 8)))
theorem blk_of_end {b : ByteArray} {k e : Nat} {out : List Nat} {q : Nat} {last : Bool} {s' : XS} (h : BlockEnd (bytesOf b) k e out q last s') : ∃ g, (s'.err = 0 → g < k) ∧ BlkRel b e out q g (if last then 1 else 0) s' := by
 rcases h with h | ⟨h0, k', G', hk, hr, ho, hm, hc⟩
 ·exact ⟨0, fun h9 => absurd h9 h.1, .inl h⟩
 ·refine ⟨k', fun _ => hk, .inr ⟨h0, G', hr, ho, hm, ?_⟩⟩
  rcases hc with ⟨hl, h1, h2⟩ | ⟨hl, h1, h2⟩
  ·rw [hl]; exact .inl ⟨rfl, h1, h2⟩
  ·rw [hl]; exact .inr ⟨rfl, h1, h2⟩
theorem off_new {w : World} {x base : Nat} {b : ByteArray} {s : XS} (h : XAt w x base b s) {k : Nat} (hk : w.heap.size ≤ k) : Off x s.v k :=
 ⟨by have := lt_of_block h.blk; omega, fun y => by have := (h.own.lt k y).2; omega⟩
theorem fixed_ready {w w3 : World} {x base C1 C2 : Nat} {b : ByteArray} {s : XS} (h : XAt w x base b s) (h1 : w.heap.size ≤ C1) (h2 : w.heap.size ≤ C2) (r1 : RowAt w3 C1 234 (2 * 288) (codeCell (codeX fixLensG))) (r2 : RowAt w3 C2 234 (2 * 32) (codeCell (codeX fixDist))) : Ready w3 x C1 C2 s.v fixLensG fixDist := by
 have e1 : fixLensG.length = 288 := by rw [fixLensG_eq, fixLens_length]
 have e2 : fixDist.length = 32 := by unfold fixDist; rw [List.length_replicate]
 refine ⟨by rw [CodesAt, e1]; exact r1, by rw [CodesAt, e2]; exact r2, off_new h h1, off_new h h2, fun i => by rw [fixLensG_eq]; exact fix_le i, fun i => ?_, by omega, by omega, ?_, ?_⟩
 ·unfold fixDist
  rw [List.getElem?_replicate]
  split <;> simp
 ·unfold farB; rw [fixLensG_eq, fix_may, Bool.or_true]
 ·unfold farB fixDist; rw [far_may, Bool.or_true]
theorem last_is {B : List Nat} {p lb : Nat} (h : lb = bitAt B p) (hb : lb < 2) : (if (bitAt B p == 1) = true then 1 else 0) = lb := by
 rw [← h]
 have h9 : lb = 0 ∨ lb = 1 := by omega
 rcases h9 with h9 | h9 <;> rw [h9] <;> rfl
theorem blocksX_any (x base k e : Nat) (b : ByteArray) (s : XS) (G : GS) (out : List Nat) (q : Nat) (w : World) (hT : ToldXSaid) (h : XAt w x base b s) (h0 : s.err = 0) (hm : s.most ≤ 1048576) (hro : s.out.length ≤ s.most) (hG : G.out = s.out ∧ G.most = s.most ∧ G.place = 0 ∧ G.p = s.at_) (hr : GRun (bytesOf b) k G e out q) :
  Calls Tryz.prog 111 #[.pointer (some ⟨x, 0, none⟩)] w fun r w' => r = .returned (.tuple #[]) ∧ ∃ s', s'.err = e ∧ s'.out = out ∧ (e = 0 → s'.at_ = q ∧ q % 8 = 0) ∧ s'.name = s.name ∧ XAt w' x base b s' ∧ Wrt x w s.v w' s'.v := by
 have HT := hide hT
 have HAT := hide (show BlkAt w w x base b s s from ⟨rfl, rfl, hro, h, Wrt.refl _ _ _⟩)
 have HREL := hide (show BlkRel b e out q k 0 s from .inr ⟨h0, G, hr, hG.1, hG.2.1, .inl ⟨rfl, hG.2.2.1, hG.2.2.2⟩⟩)
 clear hT h hr hG h0
 go_enter Tryz.func111, Tryz.ntmps111
 go_wp2_with fail
 go_loopg [2] k (fun g l wr => ∃ (la : Nat) (s2 : XS), l = .int .i64 (la : Nat) ∧ la ≤ 1 ∧ BlkAt w wr x base b s s2 ∧ BlkRel b e out q g la s2)
 case atStart => exact ⟨0, s, rfl, by omega, unhide HAT, unhide HREL⟩
 case round =>
  clear HAT HREL
  obtain ⟨la, s2, rfl, hla, hat, hrel⟩ := hrel
  obtain ⟨_, _, c2, _⟩ := hat.xat.cell
  rcases hrel with hend | ⟨he0, G2, hrun, hGo, hGm, hcase⟩
  case inl =>
   have heb : ((s2.err : Int) == 0) = false := beq_eq_false_iff_ne.2 (by have := hend.1; omega)
   have HA := hide hat
   have HE := hide hend
   clear hat hend
   have hl2 : la = 0 ∨ la = 1 := by omega
   rcases hl2 with rfl | rfl
   all_goals
    go_wp2_with fail
    go_end0
    exact ⟨rfl, s2, (unhide HE).2.1, (unhide HE).2.2, fun h9 => absurd ((unhide HE).2.1.trans h9) (unhide HE).1, (unhide HA).name, (unhide HA).xat, (unhide HA).wrt⟩
  rw [he0] at c2
  rcases hcase with ⟨rfl, hpl, hGp⟩ | ⟨rfl, hpl, hGp⟩
  case inr =>
   have hd : e = 0 ∧ out = s2.out ∧ q = (s2.at_ + 7) / 8 * 8 := by
    rcases hrun.inv with ⟨_, h1, h2, h3⟩ | ⟨h1, _⟩ | ⟨h1, _⟩ | ⟨_, _, _, h1, _⟩
    ·exact ⟨h1, by rw [h2, hGo], by rw [h3, hGp]⟩
    ·exact absurd hpl h1
    ·exact absurd hpl h1
    ·exact absurd hpl h1
   have HA := hide hat
   have HD := hide hd
   clear hat hd hrun
   go_wp2_with fail
   refine (fill_any x base b s2 wr (unhide HA).xat).mono ?_
   rintro r w1 ⟨rfl, hx1, hw1⟩
   have HX1 := hide hx1
   have HW1 := hide ((unhide HA).wrt.trans hw1)
   clear hx1 hw1
   go_wp2_with fail
   go_end0
   exact ⟨rfl, { s2 with at_ := (s2.at_ + 7) / 8 * 8 }, he0.trans (unhide HD).1.symm, (unhide HD).2.1.symm, fun _ => ⟨(unhide HD).2.2.symm, by have := (unhide HD).2.2; omega⟩, (unhide HA).name, unhide HX1, unhide HW1⟩
  have h1 : G2.place ≠ 1 := by omega
  have h2 : G2.place ≠ 2 := by omega
  have h3 : G2.place ≠ 3 := by omega
  have hgk := hrun.pos h3
  have hbit := bit_any x base b s2 wr hat.xat
  have HBIT := hide hbit
  have HA := hide hat
  have HRUN := hide hrun
  clear hat hbit hrun
  go_wp2_with fail
  refine (unhide HBIT).mono ?_
  rintro r w1 ⟨rfl, hx1, hw1⟩
  have hnum := number_any x base 2 b (bitX b s2).2 w1 hx1 (by omega)
  rw [(bitX_v b s2).1] at hnum
  have HNUM := hide hnum
  have HW1 := hide ((unhide HA).wrt.trans hw1)
  clear hx1 hw1 hnum
  go_wp2_with fail
  refine (unhide HNUM).mono ?_
  rintro r w2 ⟨rfl, hx2, hw2⟩
  have hw02 := (unhide HW1).trans hw2
  have hbl := bytesOf_length b
  have hsame : Same b s2 G2 := ⟨he0, hGo.symm, hGm.symm, by rw [(unhide HA).most]; exact hm, (unhide HA).xat.there⟩
  have hgh : gStep (bytesOf b) G2 = gHead (bytesOf b) G2 := by unfold gStep; rw [if_neg h1, if_neg h2]
  by_cases hth : s2.at_ + 3 ≤ 8 * b.size
  case neg =>
   have e3 : (numX b (bitX b s2).2 2).2 = { s2 with at_ := 8 * b.size, err := 3 } := numX_two_miss b s2 he0 hsame.bits 1 2 (by omega)
   rw [e3] at hx2
   unfold gHead at hgh
   rw [if_neg (by rw [hGp, hbl]; exact hth)] at hgh
   obtain ⟨he, ho⟩ := (unhide HRUN).miss_is hgh h3
   obtain ⟨_, _, d2, _⟩ := hx2.cell
   dsimp only at d2
   have HE := hide he
   have HO := hide ho
   have HX2 := hide hx2
   have HW2 := hide hw02
   have hvv := (numX_v b (bitX b s2).2 2).1
   clear hx2 hw2 hw02 he ho hgh e3
   generalize (numX b (bitX b s2).2 2).1 = y2 at *
   generalize (bitX b s2).1 = y1 at *
   go_wp2_with fail
   refine bodyPost_ret (results_none rfl _ _ _) rfl ?_
   exact ⟨rfl, { s2 with at_ := 8 * b.size, err := 3 }, (unhide HE).symm, by rw [unhide HO]; exact hGo.symm, fun h9 => by rw [unhide HE] at h9; omega, (unhide HA).name, unhide HX2, unhide HW2⟩
  have e1 : bitX b s2 = (bitAt (bytesOf b) s2.at_, { s2 with at_ := s2.at_ + 1 }) := by unfold bitX; rw [if_neg (by omega), if_pos (by omega)]
  rw [e1] at hx2 ⊢
  dsimp only at hx2 ⊢
  rw [numX_ok b { s2 with at_ := s2.at_ + 1 } he0 2 (by dsimp only; omega)] at hx2 ⊢
  replace hx2 : XAt w2 x base b { s2 with at_ := s2.at_ + 3 } := hx2
  dsimp only
  have hb1 := bitAt_lt (bytesOf b) s2.at_
  have hk4 := numAt_lt (bytesOf b) (s2.at_ + 1) 2
  obtain ⟨_, _, d2, _⟩ := hx2.cell
  dsimp only at d2
  rw [he0] at d2
  have HX2 := hide hx2
  have HW2 := hide hw02
  have HGH := hide hgh
  have HSM := hide hsame
  obtain ⟨kd, hkd⟩ : ∃ kd, kd = numAt (bytesOf b) (s2.at_ + 1) 2 := ⟨_, rfl⟩
  obtain ⟨lb, hlb⟩ : ∃ lb, lb = bitAt (bytesOf b) s2.at_ := ⟨_, rfl⟩
  rw [← hkd] at hk4 ⊢
  rw [← hlb] at hb1 ⊢
  have HKD := hide hkd
  have HLB := hide hlb
  clear hx2 hw2 hw02 hgh hsame hkd hlb e1
  have hkc : kd = 0 ∨ kd = 1 ∨ kd = 2 ∨ kd = 3 := by omega
  rcases hkc with rfl | rfl | rfl | rfl
  ·have hsto := storedX_any x base gk e b { s2 with at_ := s2.at_ + 3 } G2 out q w2 (unhide HX2) ⟨he0, hGo.symm, hGm.symm, by dsimp only; rw [(unhide HA).most]; exact hm, hth⟩ (by dsimp only; rw [hGp]) h1 h2 h3 (by rw [hGp]; exact (unhide HKD).symm) (unhide HRUN) (unhide HA).room
   have HSTO := hide hsto
   clear hsto
   go_wp2_with fail
   refine (unhide HSTO).mono ?_
   rintro r w3 ⟨rfl, s3, hend, hnm, hmo, hrm, hx3, hw3⟩
   obtain ⟨g', hg', hrel'⟩ := blk_of_end hend
   have hla' : (if (bitAt (bytesOf b) G2.p == 1) = true then 1 else 0) = lb := by
    rw [hGp, ← unhide HLB]
    have h9 : lb = 0 ∨ lb = 1 := by omega
    rcases h9 with h9 | h9 <;> rw [h9] <;> rfl
   rw [hla'] at hrel'
   have HF := hide (show BlkAt w w3 x base b s s3 ∧ BlkRel b e out q g' lb s3 from ⟨⟨hmo.trans (unhide HA).most, hnm.trans (unhide HA).name, hrm, hx3, (unhide HW2).trans hw3⟩, hrel'⟩)
   clear hx3 hw3 hend hrel' hnm hmo hrm
   go_wp2_with fail
   by_cases h30 : s3.err = 0
   ·go_roundg g'
    case measure => exact hg' h30
    case rel => exact ⟨lb, s3, rfl, by omega, (unhide HF).1, (unhide HF).2⟩
   ·go_roundg 0
    case measure => omega
    case rel => exact ⟨lb, s3, rfl, by omega, (unhide HF).1, by
     rcases (unhide HF).2 with h9 | ⟨h9, _⟩
     ·exact .inl h9
     ·exact absurd h9 h30⟩
  ·have hg := unhide HGH
   unfold gHead at hg
   rw [if_pos (by rw [hGp, hbl]; exact hth), hGp, ← unhide HKD, if_neg (by omega), if_pos rfl] at hg
   obtain ⟨m, hm1, hrm⟩ := (unhide HRUN).go_is hg h3
   have HM := hide hrm
   clear hg hrm
   go_wp2_with fail
   refine (fixedX_any w2).mono ?_
   rintro r w3 ⟨C1, C2, rfl, hC1, hC2, hr1, hr2, hst⟩
   have hsy := symbolsX_any x base gk e C1 C2 b { s2 with at_ := s2.at_ + 3 } { G2 with last := bitAt (bytesOf b) s2.at_ == 1, place := 2, ls := fixLensG, ld := fixDist, p := s2.at_ + 3 } out q w3 ((unhide HX2).step0 hst) ⟨he0, hGo.symm, hGm.symm, by dsimp only; rw [(unhide HA).most]; exact hm, hth⟩ (fixed_ready (unhide HX2) hC1 hC2 hr1 hr2) m (by omega) (by unfold symsG; dsimp only; rw [← hGo]; exact unhide HM) (unhide HA).room
   dsimp only at hsy
   rw [show fixLensG.length = 288 by rw [fixLensG_eq, fixLens_length], show fixDist.length = 32 by unfold fixDist; rw [List.length_replicate]] at hsy
   have HSY := hide hsy
   have HW3 := hide ((unhide HW2).step0 hst)
   clear hsy hr1 hr2 hst
   go_wp2_with fail
   refine (unhide HSY).mono ?_
   rintro r w4 ⟨rfl, s3, hend, hsat⟩
   obtain ⟨g', hg', hrel'⟩ := blk_of_end hend
   rw [last_is (unhide HLB) hb1] at hrel'
   have HF := hide (show BlkAt w w4 x base b s s3 ∧ BlkRel b e out q g' lb s3 from ⟨⟨hsat.most.trans (unhide HA).most, hsat.name.trans (unhide HA).name, hsat.room, hsat.xat, (unhide HW3).trans hsat.wrt⟩, hrel'⟩)
   clear hend hsat hrel'
   go_wp2_with fail
   by_cases h30 : s3.err = 0
   ·go_roundg g'
    case measure => exact hg' h30
    case rel => exact ⟨lb, s3, rfl, by omega, (unhide HF).1, (unhide HF).2⟩
   ·go_roundg 0
    case measure => omega
    case rel => exact ⟨lb, s3, rfl, by omega, (unhide HF).1, by
     rcases (unhide HF).2 with h9 | ⟨h9, _⟩
     ·exact .inl h9
     ·exact absurd h9 h30⟩
  ·have hg := unhide HGH
   unfold gHead at hg
   rw [if_pos (by rw [hGp, hbl]; exact hth), hGp, ← unhide HKD, if_neg (by omega), if_neg (by omega), if_pos rfl] at hg
   have htold := unhide HT x base b { s2 with at_ := s2.at_ + 3 } w2 (unhide HX2) he0
   dsimp only at htold
   have HG := hide hg
   have HTO := hide htold
   clear hg htold
   go_wp2_with fail
   refine (unhide HTO).mono ?_
   rintro r w3 ⟨c1, c2, s3, rfl, hx3, hw3, hres⟩
   clear HTO
   have hg := unhide HG
   generalize rCoding (bytesOf b) (s2.at_ + 3) = rc at hres hg
   clear HG
   rcases rc with ⟨ab, p3⟩ | e3 | _
   ·obtain ⟨rfl, C1, C2, rfl, rfl, hrdy⟩ := hres
    dsimp only at hg hw3 hrdy
    obtain ⟨m, hm1, hrm⟩ := (unhide HRUN).go_is hg h3
    have hsy := symbolsX_any x base gk e C1 C2 b { s2 with at_ := p3 } { G2 with last := bitAt (bytesOf b) s2.at_ == 1, place := 2, ls := ab.1, ld := ab.2, p := p3 } out q w3 hx3 ⟨he0, hGo.symm, hGm.symm, by dsimp only; rw [(unhide HA).most]; exact hm, hx3.there⟩ hrdy m (by omega) (by unfold symsG; dsimp only; rw [← hGo]; exact hrm) (unhide HA).room
    dsimp only at hsy
    have HSY := hide hsy
    have HW3 := hide ((unhide HW2).trans hw3)
    clear hsy hw3 hx3 hrdy hrm hg
    go_wp2_with fail
    refine (unhide HSY).mono ?_
    rintro r w4 ⟨rfl, s3, hend, hsat⟩
    obtain ⟨g', hg', hrel'⟩ := blk_of_end hend
    rw [last_is (unhide HLB) hb1] at hrel'
    have HF := hide (show BlkAt w w4 x base b s s3 ∧ BlkRel b e out q g' lb s3 from ⟨⟨hsat.most.trans (unhide HA).most, hsat.name.trans (unhide HA).name, hsat.room, hsat.xat, (unhide HW3).trans hsat.wrt⟩, hrel'⟩)
    clear hend hsat hrel'
    go_wp2_with fail
    by_cases h30 : s3.err = 0
    ·go_roundg g'
     case measure => exact hg' h30
     case rel => exact ⟨lb, s3, rfl, by omega, (unhide HF).1, (unhide HF).2⟩
    ·go_roundg 0
     case measure => omega
     case rel => exact ⟨lb, s3, rfl, by omega, (unhide HF).1, by
      rcases (unhide HF).2 with h9 | ⟨h9, _⟩
      ·exact .inl h9
      ·exact absurd h9 h30⟩
   ·obtain ⟨hne, hc1, hc2, a, ha, rfl⟩ := hres
    dsimp only at hg hw3
    obtain ⟨he, ho⟩ := (unhide HRUN).err_pos _ _ hg h3
    have hsy := symbolsX_err x base c1 c2 hc1 hc2 b _ w3 hx3 hne
    obtain ⟨a1, n1, k1, rfl⟩ := hc1
    obtain ⟨a2, n2, k2, rfl⟩ := hc2
    have HSY := hide hsy
    have HF := hide (show BlkAt w w3 x base b s { s2 with at_ := a, err := e3 } ∧ BlkRel b e out q 0 lb { s2 with at_ := a, err := e3 } from ⟨⟨(unhide HA).most, (unhide HA).name, (unhide HA).room, hx3, (unhide HW2).trans hw3⟩, .inl ⟨hne, he.symm, by rw [ho]; exact hGo.symm⟩⟩)
    clear hsy hx3 hw3 hg he ho
    go_wp2_with fail
    refine (unhide HSY).mono ?_
    rintro r w4 ⟨rfl, rfl⟩
    go_wp2_with fail
    go_roundg 0
    case measure => omega
    case rel => exact ⟨lb, _, rfl, by omega, (unhide HF).1, (unhide HF).2⟩
   ·obtain ⟨hc1, hc2, a, ha, rfl⟩ := hres
    dsimp only at hg hw3
    obtain ⟨he, ho⟩ := (unhide HRUN).miss_is hg h3
    have hsy := symbolsX_err x base c1 c2 hc1 hc2 b _ w3 hx3 (by dsimp only; omega)
    obtain ⟨a1, n1, k1, rfl⟩ := hc1
    obtain ⟨a2, n2, k2, rfl⟩ := hc2
    have HSY := hide hsy
    have HF := hide (show BlkAt w w3 x base b s { s2 with at_ := a, err := 3 } ∧ BlkRel b e out q 0 lb { s2 with at_ := a, err := 3 } from ⟨⟨(unhide HA).most, (unhide HA).name, (unhide HA).room, hx3, (unhide HW2).trans hw3⟩, .inl ⟨by dsimp only; omega, he.symm, by rw [ho]; exact hGo.symm⟩⟩)
    clear hsy hx3 hw3 hg he ho
    go_wp2_with fail
    refine (unhide HSY).mono ?_
    rintro r w4 ⟨rfl, rfl⟩
    go_wp2_with fail
    go_roundg 0
    case measure => omega
    case rel => exact ⟨lb, _, rfl, by omega, (unhide HF).1, (unhide HF).2⟩
  ·have hg := unhide HGH
   unfold gHead at hg
   rw [if_pos (by rw [hGp, hbl]; exact hth), hGp, ← unhide HKD, if_neg (by omega), if_neg (by omega), if_neg (by omega)] at hg
   obtain ⟨he, ho⟩ := (unhide HRUN).err_pos _ _ hg h3
   have HE := hide he
   have HO := hide ho
   clear hg he ho
   go_wp2_with fail
   refine (fail_any x base 5 b { s2 with at_ := s2.at_ + 3 } w2 (unhide HX2)).mono ?_
   rintro r w3 ⟨rfl, hx3, hw3⟩
   replace hw3 : Wrt x w2 s2.v w3 s2.v := hw3
   replace hx3 : XAt w3 x base b { s2 with at_ := s2.at_ + 3, err := if s2.err = 0 then 5 else s2.err } := hx3
   rw [if_pos he0] at hx3
   have HF := hide (show BlkAt w w3 x base b s { s2 with at_ := s2.at_ + 3, err := 5 } ∧ BlkRel b e out q 0 lb { s2 with at_ := s2.at_ + 3, err := 5 } from ⟨⟨(unhide HA).most, (unhide HA).name, (unhide HA).room, hx3, (unhide HW2).trans hw3⟩, .inl ⟨by simp, (unhide HE).symm, by rw [unhide HO]; exact hGo.symm⟩⟩)
   clear hx3 hw3
   go_wp2_with fail
   go_roundg 0
   case measure => omega
   case rel => exact ⟨lb, _, rfl, by omega, (unhide HF).1, (unhide HF).2⟩
end Go.Proofs.YtbpahojchgpdnaaGreatDoor
namespace Go.Proofs.YtbpahojchgpdnaaGreatDoor
open Go.RowKit Go.Bel
structure BlkDone (w w' : World) (b : ByteArray) (e : Nat) (out : List Nat) (q : Nat) (s' : XS) : Prop where
 err : s'.err = e
 out : s'.out = out
 used : e = 0 → s'.at_ = q ∧ q % 8 = 0
 name : s'.name = ⟨#[]⟩
 xat : XAt w' (w.heap.size + 1) (w.heap.size + 1 + 1) b s'
 res : w'.heap[w.heap.size]? = some (.cells #[.int .i64 0, .slice none 0 0, .int .i64 0, .string ⟨#[]⟩] 45 (0, 0))
 step : Step (fun _ => False) w w'
theorem blkStart (n e : Nat) (most M : Int) (b : ByteArray) (out : List Nat) (q : Nat) (w : World) (hT : ToldXSaid) (hb : b.size ≤ 140737488351232) (hr : GRun (bytesOf b) n (gInit (asked most)) e out q) (hM : M = (asked most : Nat)) :
  Calls Tryz.prog 111 #[.pointer (some ⟨w.heap.size + 1, 0, none⟩)] ((w.alloc (.cells #[.int .i64 0, .slice none 0 0, .int .i64 0, .string ⟨#[]⟩] 45)).alloc (.cells #[.string b, .int .i64 0, .int .i64 0, .slice none 0 0, .int .i64 M, .string ⟨#[]⟩] 167))
   fun r w' => r = .returned (.tuple #[]) ∧ ∃ s', BlkDone w w' b e out q s' := by
 obtain ⟨w1, hw1⟩ : ∃ w1, w1 = w.alloc (.cells #[.int .i64 0, .slice none 0 0, .int .i64 0, .string ⟨#[]⟩] 45) := ⟨_, rfl⟩
 have hz1 : w1.heap.size = w.heap.size + 1 := by rw [hw1]; simp
 have hr1 : w1.heap[w.heap.size]? = some (.cells #[.int .i64 0, .slice none 0 0, .int .i64 0, .string ⟨#[]⟩] 45 (0, 0)) := by rw [hw1]; exact heap_alloc_new _ _
 have hs1 : Step (fun _ => False) w w1 := by rw [hw1]; exact (Step.refl _ _).alloc _
 rw [← hw1]
 obtain ⟨w2, hw2⟩ : ∃ w2, w2 = w1.alloc (.cells #[.string b, .int .i64 0, .int .i64 0, .slice none 0 0, .int .i64 M, .string ⟨#[]⟩] 167) := ⟨_, rfl⟩
 have hz2 : w2.heap.size = w.heap.size + 1 + 1 := by rw [hw2]; simp [hz1]
 have hs2 : Step (fun _ => False) w1 w2 := by rw [hw2]; exact (Step.refl _ _).alloc _
 have hx2 : w2.heap[w.heap.size + 1]? = some (.cells #[.string b, .int .i64 0, .int .i64 0, .slice none 0 0, .int .i64 M, .string ⟨#[]⟩] 167 (0, 0)) := by rw [hw2, ← hz1]; exact heap_alloc_new _ _
 rw [← hw2]
 have hX : XAt w2 (w.heap.size + 1) (w.heap.size + 1 + 1) b ⟨0, 0, .slice none 0 0, [], asked most, ⟨#[]⟩⟩ :=
  ⟨by rw [hx2, hM]; rfl, World.ownsRow_nil _ _ _ _, by omega, by omega, Nat.zero_le _, hb⟩
 refine (blocksX_any _ _ n e b _ (gInit (asked most)) out q w2 hT hX rfl (asked_le most) (Nat.zero_le _) ⟨rfl, rfl, rfl, rfl⟩ hr).mono ?_
 rintro r w3 ⟨rfl, s', h1, h2, h3, h4, h5, h6⟩
 have hne : ∀ k, k < w.heap.size + 1 → ¬ (k = w.heap.size + 1 ∨ (Value.slice none 0 0).ownBlock = some k) := fun k hk hx => by
  rcases hx with hx | hx
  ·omega
  ·simp [Value.ownBlock] at hx
 exact ⟨rfl, s', h1, h2, h3, h4, h5, h6.step.at_ (hs2.at_ hr1 (fun x => x)) (hne _ (by omega)), (hs1.trans hs2).trans' h6.step (fun i hi hx => (hne i (by omega) hx).elim)⟩
theorem BlkDone.row {w w1 : World} {b : ByteArray} {e : Nat} {out : List Nat} {q : Nat} {s' : XS} (h : BlkDone w w1 b e out q s') {va : Option Addr} {vc len : Nat} (hv : s'.v = .slice va len vc) (u0 u1 u2 u3 : Value) (o : Obj) :
  ((((((w1.setCell ⟨w.heap.size, 0, none⟩ u0).setCell ⟨w.heap.size, 1, none⟩ u1).setCell ⟨w.heap.size, 2, none⟩ u2).setCell ⟨w.heap.size, 3, none⟩ u3).alloc o).drew).ownsRow w.heap.size 5 1 (.slice va len vc) out.length (u8s out) := by
 have h1 := h.xat.own
 rw [hv, h.out] at h1
 have hne : (Value.slice va len vc).ownBlock ≠ some w.heap.size := fun hk => by
  have := (h1.lt _ hk).1
  omega
 have h2 := ownsRow_mono h1 (show w.heap.size ≤ w.heap.size + 1 + 1 by omega)
 exact (((ownsRow_setCell_other (ownsRow_setCell_other (ownsRow_setCell_other (ownsRow_setCell_other h2 (a := ⟨w.heap.size, 0, none⟩) hne u0) (a := ⟨w.heap.size, 1, none⟩) hne u1) (a := ⟨w.heap.size, 2, none⟩) hne u2) (a := ⟨w.heap.size, 3, none⟩) hne u3))).alloc o
theorem BlkDone.far {w w1 : World} {b : ByteArray} {e : Nat} {out : List Nat} {q : Nat} {s' : XS} (h : BlkDone w w1 b e out q s') (u0 u1 u2 u3 : Value) (o : Obj) :
  Step (fun _ => False) w (((((w1.setCell ⟨w.heap.size, 0, none⟩ u0).setCell ⟨w.heap.size, 1, none⟩ u1).setCell ⟨w.heap.size, 2, none⟩ u2).setCell ⟨w.heap.size, 3, none⟩ u3).alloc o).drew :=
 (((((h.step.setNew (Nat.le_refl _) _).setNew (Nat.le_refl _) _).setNew (Nat.le_refl _) _).setNew (Nat.le_refl _) _).alloc _).drew
theorem unpackX (n e : Nat) (most : Int) (b : ByteArray) (out : List Nat) (q : Nat) (w : World) (hT : ToldXSaid) (hb : b.size ≤ 140737488351232) (hr : GRun (bytesOf b) n (gInit (asked most)) e out q) :
  Calls Tryz.prog 67 #[.int .i64 0, .string b, .int .i64 most] w
   fun r w' => ∃ v', r = .returned (.agg #[.int .i64 (e : Nat), v', .int .i64 (usedG 0 e q : Nat), .string ⟨#[]⟩]) ∧ w'.ownsRow w.heap.size 5 1 v' out.length (u8s out) ∧ Step (fun _ => False) w w' := by
 have HB := hide (fun M hM => blkStart n e most M b out q w hT hb hr hM)
 clear hr hT
 have hmost : (most < 0 ∧ (0 : Int) = (asked most : Nat)) ∨ (¬ most < 0 ∧ 1048576 < most ∧ (1048576 : Int) = (asked most : Nat)) ∨ (¬ most < 0 ∧ ¬ 1048576 < most ∧ most = (asked most : Nat)) := by
  by_cases h0 : most < 0
  ·exact .inl ⟨h0, by unfold asked; rw [if_pos h0]; rfl⟩
  ·by_cases h2 : 1048576 < most
   ·exact .inr (.inl ⟨h0, h2, by unfold asked; rw [if_neg h0, if_pos h2]; rfl⟩)
   ·exact .inr (.inr ⟨h0, h2, by unfold asked; rw [if_neg h0, if_neg h2]; omega⟩)
 go_enter Tryz.func67, Tryz.ntmps67
 rcases hmost with ⟨h0, ha⟩ | ⟨h0, h2, ha⟩ | ⟨h0, h2, ha⟩
 all_goals
  have HC := hide (unhide HB _ ha)
  clear HB ha
  go_wp2_with fail
  refine (unhide HC).mono ?_
  rintro r w1 ⟨rfl, s', hd⟩
  clear HC
  obtain ⟨c0, c1, c2, c3, c4, c5⟩ := hd.xat.cell
  obtain ⟨va, vc, hv⟩ := hd.xat.vslice
  rw [hv] at c3
  rw [hd.name] at c5
  rw [hd.err] at c2
  have hrl := lt_of_block hd.res
  have hxl := lt_of_block hd.xat.blk
  have q0 : w1.cell? ⟨w.heap.size, 0, none⟩ = some (.int .i64 0) := blk_cell hd.res 0 _ rfl
  have q1 : w1.cell? ⟨w.heap.size, 1, none⟩ = some (.slice none 0 0) := blk_cell hd.res 1 _ rfl
  have q2 : w1.cell? ⟨w.heap.size, 2, none⟩ = some (.int .i64 0) := blk_cell hd.res 2 _ rfl
  have q3 : w1.cell? ⟨w.heap.size, 3, none⟩ = some (.string ⟨#[]⟩) := blk_cell hd.res 3 _ rfl
  have g0 := blk_free hd.res 0
  have g1 := blk_free hd.res 1
  have g2 := blk_free hd.res 2
  have g3 := blk_free hd.res 3
  obtain ⟨len, hlen⟩ : ∃ len, len = s'.out.length := ⟨_, rfl⟩
  rw [← hlen] at c3 hv
  have HLEN := hide hlen
  have HV := hide hv
  have HD := hide hd
  have hth := hd.xat.there
  clear hd hlen hv
  by_cases he : e = 0
  ·have he' : ((e : Int) == 0) = true := beq_iff_eq.2 (by omega)
   go_wp2_with fail
   go_region
   go_wp2_with fail
   refine bodyPost_ret (v := .agg #[.int .i64 0, .slice va len vc, .int .i64 ((s'.at_ : Int) / 8), .string ⟨#[]⟩]) (by simp [results, Tryz.results67, go_sem, q0, q1, q2, q3, hrl]) rfl ⟨.slice va len vc, ?_, (unhide HD).row (unhide HV) _ _ _ _ _, (unhide HD).far _ _ _ _ _⟩
   have h9 := (unhide HD).used he
   have h8 : usedG 0 e q = q / 8 := by unfold usedG; rw [if_pos he]; omega
   rw [h8, he, show ((s'.at_ : Int) / 8) = ((q / 8 : Nat) : Int) by rw [h9.1]; omega]
   rfl
  ·have he' : ((e : Int) == 0) = false := beq_eq_false_iff_ne.2 (by omega)
   go_wp2_with fail
   go_region
   go_wp2_with fail
   refine bodyPost_ret (v := .agg #[.int .i64 (e : Nat), .slice va len vc, .int .i64 0, .string ⟨#[]⟩]) (by simp [results, Tryz.results67, go_sem, q0, q1, q2, q3, hrl]) rfl ⟨.slice va len vc, ?_, (unhide HD).row (unhide HV) _ _ _ _ _, (unhide HD).far _ _ _ _ _⟩
   have h8 : usedG 0 e q = 0 := by unfold usedG; rw [if_neg he]
   rw [h8]
   rfl
end Go.Proofs.YtbpahojchgpdnaaGreatDoor
