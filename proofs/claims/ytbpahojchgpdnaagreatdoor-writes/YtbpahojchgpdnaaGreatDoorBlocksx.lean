/- Proved here: what the reference's stored does. -/
import Derived.Test.YtbpahojchgpdnaaGreatDoorXLen
import Derived.Test.YtbpahojchgpdnaaGreatDoorGFix
set_option maxRecDepth 20000
set_option maxHeartbeats 4000000
namespace Go.Proofs.YtbpahojchgpdnaaGreatDoor
open Go.RowKit Go.Bel
structure Same (b : ByteArray) (s : XS) (G : GS) : Prop where
 err : s.err = 0
 out : s.out = G.out
 most : s.most = G.most
 lim : s.most ≤ 1048576
 bits : s.at_ ≤ 8 * b.size
def BlockEnd (B : List Nat) (k e : Nat) (out : List Nat) (q : Nat) (last : Bool) (s' : XS) : Prop :=
 (s'.err ≠ 0 ∧ s'.err = e ∧ s'.out = out) ∨ (s'.err = 0 ∧ ∃ k' G', k' < k ∧ GRun B k' G' e out q ∧ G'.out = s'.out ∧ G'.most = s'.most ∧ ((last = false ∧ G'.place = 0 ∧ G'.p = s'.at_) ∨ (last = true ∧ G'.place = 3 ∧ G'.p = (s'.at_ + 7) / 8 * 8)))
theorem _root_.Go.Bel.GRun.err_pos {B : List Nat} {k e : Nat} {s : GS} {out : List Nat} {q : Nat} (h : GRun B k s e out q) (e' : Nat) (out' : List Nat) (hs : gStep B s = .no e' out') (h3 : s.place ≠ 3) : e = e' ∧ out = out' := by
 rcases h.inv with ⟨a, _⟩ | ⟨_, a, _⟩ | ⟨_, a, _⟩ | ⟨_, _, _, _, a, _⟩
 ·exact absurd a h3
 ·rw [hs] at a; cases a; exact ⟨rfl, rfl⟩
 ·rw [hs] at a; cases a
 ·rw [hs] at a; cases a
theorem _root_.Go.Bel.GRun.miss_is {B : List Nat} {k e : Nat} {s : GS} {out : List Nat} {q : Nat} (h : GRun B k s e out q) (hs : gStep B s = .miss) (h3 : s.place ≠ 3) : e = 3 ∧ out = s.out := by
 rcases h.inv with ⟨a, _⟩ | ⟨_, a, _⟩ | ⟨_, _, a, c, _⟩ | ⟨_, _, _, _, a, _⟩
 ·exact absurd a h3
 ·rw [hs] at a; cases a
 ·exact ⟨a, c⟩
 ·rw [hs] at a; cases a
theorem _root_.Go.Bel.GRun.go_is {B : List Nat} {k e : Nat} {s s1 : GS} {out : List Nat} {q : Nat} (h : GRun B k s e out q) (hs : gStep B s = .go s1) (h3 : s.place ≠ 3) : ∃ m, k = m + 1 ∧ GRun B m s1 e out q := by
 rcases h.inv with ⟨a, _⟩ | ⟨_, a, _⟩ | ⟨_, a, _⟩ | ⟨m, s2, hk, _, a, hr⟩
 ·exact absurd a h3
 ·rw [hs] at a; cases a
 ·rw [hs] at a; cases a
 ·rw [hs] at a; cases a; exact ⟨m, hk, hr⟩
theorem block_done {B : List Nat} {k e : Nat} {G : GS} {out : List Nat} {q p : Nat} {s' : XS} (hr : GRun B k (G.ended p) e out q) (k0 : Nat) (hk : k < k0) (h0 : s'.err = 0) (ho : G.out = s'.out) (hm : G.most = s'.most) (hp : p = s'.at_) : BlockEnd B k0 e out q G.last s' := by
 refine .inr ⟨h0, k, G.ended p, hk, hr, ho, hm, ?_⟩
 unfold GS.ended
 cases hl : G.last with
 | false => exact .inl ⟨rfl, by simp, by simp [hp]⟩
 | true => exact .inr ⟨rfl, by simp, by simp [hp]⟩
theorem numX_two_miss (b : ByteArray) (s : XS) (h0 : s.err = 0) (ht : s.at_ ≤ 8 * b.size) (n m : Nat) (h : 8 * b.size < s.at_ + n + m) : (numX b (numX b s n).2 m).2 = { s with at_ := 8 * b.size, err := 3 } := by
 by_cases h1 : s.at_ + n ≤ 8 * b.size
 ·rw [numX_ok b s h0 n h1]
  exact numX_miss b { s with at_ := s.at_ + n } h0 h1 m (by dsimp only; omega)
 ·rw [numX_miss b s h0 ht n (by omega), numX_err b _ (by dsimp only; omega) m]
def bytesG (G : GS) (last : Bool) (left : Nat) (s : XS) : GS := { G with last := last, left := left, place := 1, out := s.out, p := s.at_ }
def StoRel (B : List Nat) (k e : Nat) (out : List Nat) (q : Nat) (G : GS) (last : Bool) (left : Nat) (s2 : XS) : Prop :=
 (s2.err = 0 ∧ s2.most = G.most ∧ ∃ m, m < k ∧ GRun B m (bytesG G last left s2) e out q) ∨ (s2.err ≠ 0 ∧ s2.err = e ∧ s2.out = out)
theorem sto_step {b : ByteArray} {k e : Nat} {out : List Nat} {q : Nat} {G : GS} {last : Bool} {left : Nat} {s2 : XS} (h : StoRel (bytesOf b) k e out q G last (left + 1) s2) (h0 : s2.err = 0) (ht : s2.at_ ≤ 8 * b.size) (v' : Value) (hro : s2.out.length ≤ s2.most) :
  StoRel (bytesOf b) k e out q G last left (putX (numX b s2 8).1 (numX b s2 8).2 v') ∧ (putX (numX b s2 8).1 (numX b s2 8).2 v').out.length ≤ (putX (numX b s2 8).1 (numX b s2 8).2 v').most := by
 rcases h with ⟨_, hm, m, hmk, hr⟩ | ⟨h9, _⟩
 case inr => exact absurd h0 h9
 have hbl := bytesOf_length b
 have hg : gStep (bytesOf b) (bytesG G last (left + 1) s2) = gByte (bytesOf b) (bytesG G last (left + 1) s2) := by unfold gStep bytesG; rw [if_pos rfl]
 unfold gByte at hg
 rw [if_neg (by unfold bytesG; simp)] at hg
 have h3 : (bytesG G last (left + 1) s2).place ≠ 3 := by unfold bytesG; simp
 by_cases hth : s2.at_ + 8 ≤ 8 * b.size
 ·rw [if_pos (by unfold bytesG; rw [hbl]; exact hth)] at hg
  rw [numX_ok b s2 h0 8 hth]
  unfold putX
  dsimp only
  rw [if_neg (by omega)]
  unfold gPut bytesG at hg
  dsimp only at hg
  by_cases hlt : s2.out.length < s2.most
  ·rw [if_pos (by simp; omega)] at hg
   rw [if_pos hlt]
   obtain ⟨m', hk', hr'⟩ := hr.go_is (by unfold bytesG; exact hg) h3
   refine ⟨.inl ⟨h0, hm, m', by omega, ?_⟩, by simp; omega⟩
   unfold bytesG
   exact hr'
  ·rw [if_neg (by simp; omega)] at hg
   rw [if_neg hlt]
   obtain ⟨he, ho⟩ := hr.err_pos _ _ (by unfold bytesG; exact hg) h3
   refine ⟨.inr ⟨by simp, he.symm, ?_⟩, hro⟩
   rw [ho]
   have : G.most - s2.out.length = 0 := by omega
   rw [this]
   simp
 ·rw [if_neg (by unfold bytesG; rw [hbl]; exact hth)] at hg
  rw [numX_miss b s2 h0 ht 8 (by omega)]
  obtain ⟨he, ho⟩ := hr.miss_is hg h3
  unfold putX
  dsimp only
  rw [if_pos (by omega)]
  exact ⟨.inr ⟨by simp, he.symm, by rw [ho]; rfl⟩, hro⟩
structure StoAt (w wr : World) (x base k e : Nat) (b : ByteArray) (out : List Nat) (q : Nat) (G : GS) (last : Bool) (s : XS) (left : Nat) (s2 : XS) : Prop where
 rel : StoRel (bytesOf b) k e out q G last left s2
 most : s2.most = s.most
 name : s2.name = s.name
 room : s2.out.length ≤ s2.most
 xat : XAt wr x base b s2
 wrt : Wrt x w s.v wr s2.v
theorem putX_keeps (c : Nat) (s : XS) (v' : Value) : (putX c s v').most = s.most ∧ (putX c s v').name = s.name := by
 unfold putX
 split
 ·exact ⟨rfl, rfl⟩
 ·split <;> exact ⟨rfl, rfl⟩
theorem sto_end {b : ByteArray} {k e : Nat} {out : List Nat} {q : Nat} {G : GS} {last : Bool} {s2 : XS} (h : StoRel (bytesOf b) k e out q G last 0 s2) : BlockEnd (bytesOf b) k e out q last s2 := by
 rcases h with ⟨h0, hm, m, hmk, hr⟩ | h
 ·have hg : gStep (bytesOf b) (bytesG G last 0 s2) = .go ((bytesG G last 0 s2).ended s2.at_) := by
   unfold gStep gByte
   rw [if_pos (show (bytesG G last 0 s2).place = 1 from rfl), if_pos (show (bytesG G last 0 s2).left = 0 from rfl)]
   rfl
  obtain ⟨m', hk', hr'⟩ := hr.go_is hg (by unfold bytesG; simp)
  exact block_done hr' k (by omega) h0 rfl hm.symm rfl
 ·exact .inl h
theorem storedX_any (x base k e : Nat) (b : ByteArray) (s : XS) (G : GS) (out : List Nat) (q : Nat) (w : World) (h : XAt w x base b s) (hS : Same b s G) (hp : s.at_ = G.p + 3) (h1 : G.place ≠ 1) (h2 : G.place ≠ 2) (h3 : G.place ≠ 3) (hk : numAt (bytesOf b) (G.p + 1) 2 = 0) (hr : GRun (bytesOf b) k G e out q) (hro : s.out.length ≤ s.most) :
  Calls Tryz.prog 141 #[.pointer (some ⟨x, 0, none⟩)] w fun r w' => r = .returned (.tuple #[]) ∧ ∃ s', BlockEnd (bytesOf b) k e out q (bitAt (bytesOf b) G.p == 1) s' ∧ s'.name = s.name ∧ s'.most = s.most ∧ s'.out.length ≤ s'.most ∧ XAt w' x base b s' ∧ Wrt x w s.v w' s'.v := by
 have hg : gStep (bytesOf b) G = gHead (bytesOf b) G := by unfold gStep; rw [if_neg h1, if_neg h2]
 have hbl := bytesOf_length b
 unfold gHead at hg
 rw [if_pos (by rw [hbl]; have := hS.bits; omega), if_pos hk] at hg
 rw [hbl, ← hp] at hg
 obtain ⟨p0, hp0⟩ : ∃ p0, p0 = (s.at_ + 7) / 8 * 8 := ⟨_, rfl⟩
 rw [← hp0] at hg
 have hbits := hS.bits
 have hp8 : p0 ≤ 8 * b.size := by omega
 have HG := hide hg
 have HS := hide hS
 have HR := hide hr
 have HP0 := hide hp0
 have hmost := hS.lim
 clear hg hr hp0
 go_enter Tryz.func141, Tryz.ntmps141
 go_wp2_with fail
 refine (fill_any x base b s w h).mono ?_
 rintro r w1 ⟨rfl, hx1, hw1⟩
 rw [← unhide HP0] at hx1
 go_wp2_with fail
 refine (number_any x base 16 b _ w1 hx1 (by omega)).mono ?_
 rintro r w2 ⟨rfl, hx2, hw2⟩
 go_wp2_with fail
 refine (number_any x base 16 b _ w2 hx2 (by omega)).mono ?_
 rintro r w3 ⟨rfl, hx3, hw3⟩
 rw [(numX_v b _ 16).1] at hw3
 dsimp only at hw2 hw3
 have hw13 := (hw1.trans hw2).trans hw3
 have hn16 := numX_lt b { s with at_ := p0 } 16
 have hm16 := numX_lt b (numX b { s with at_ := p0 } 16).2 16
 obtain ⟨last, hlast⟩ : ∃ l, l = (bitAt (bytesOf b) G.p == 1) := ⟨_, rfl⟩
 have HLAST := hide hlast
 have hcs : (8 * b.size < p0 + 32) ∨ (p0 + 32 ≤ 8 * b.size ∧ numAt (bytesOf b) (p0 + 16) 16 ≠ 65535 - numAt (bytesOf b) p0 16) ∨ (p0 + 32 ≤ 8 * b.size ∧ numAt (bytesOf b) (p0 + 16) 16 = 65535 - numAt (bytesOf b) p0 16) := by
  by_cases h9 : p0 + 32 ≤ 8 * b.size
  ·by_cases h8 : numAt (bytesOf b) (p0 + 16) 16 = 65535 - numAt (bytesOf b) p0 16
   ·exact .inr (.inr ⟨h9, h8⟩)
   ·exact .inr (.inl ⟨h9, h8⟩)
  ·exact .inl (by omega)
 have hg := unhide HG
 rw [← hlast] at hg
 rcases hcs with hth | ⟨hth, hne⟩ | ⟨hth, heq⟩
 ·have e3 := numX_two_miss b { s with at_ := p0 } (unhide HS).err hp8 16 16 (by dsimp only; omega)
  rw [e3] at hx3
  rw [if_neg (by omega)] at hg
  obtain ⟨he, ho⟩ := (unhide HR).miss_is hg h3
  have HREL := hide (show StoAt w w3 x base k e b out q G last s (numX b { s with at_ := p0 } 16).1 { s with at_ := 8 * b.size, err := 3 } from ⟨.inr ⟨by simp, he.symm, by rw [ho]; exact (unhide HS).out⟩, rfl, rfl, hro, hx3, hw13⟩)
  obtain ⟨_, _, c2, _⟩ := hx3.cell
  dsimp only at c2
  clear hx3 hx1 hx2 hw1 hw2 hw3 hw13 e3 hg he ho
  generalize (numX b { s with at_ := p0 } 16).1 = n at *
  generalize (numX b (numX b { s with at_ := p0 } 16).2 16).1 = m at *
  clear hlast
  go_wp2_with fail
  go_loopw [4] (fun i wr => ∃ (j : Nat) (s2 : XS), j ≤ n ∧ i = .int .i64 (j : Nat) ∧ StoAt w wr x base k e b out q G last s (n - j) s2) (fun i _ => n - (intOf i).toNat)
  case atStart => exact ⟨0, _, by omega, rfl, unhide HREL⟩
  case round =>
   clear HREL c2
   obtain ⟨j, s2, hj, rfl, hrel⟩ := hrel
   obtain ⟨_, _, c2, _⟩ := hrel.xat.cell
   by_cases hlt : j < n
   ·by_cases he0 : s2.err = 0
    ·rw [he0] at c2
     have hnum := number_any x base 8 b s2 wr hrel.xat (by omega)
     have hn8 := numX_lt b s2 8
     have hvv := numX_v b s2 8
     have hnext := fun v' => sto_step (left := n - (j + 1)) (by have := hrel.rel; rw [show n - j = (n - (j + 1)) + 1 by omega] at this; exact this) he0 hrel.xat.there v' hrel.room
     obtain ⟨c, s5, hcs⟩ : ∃ c s5, numX b s2 8 = (c, s5) := ⟨_, _, rfl⟩
     rw [hcs] at hnum hn8 hvv
     have hnext' : ∀ v', StoRel (bytesOf b) k e out q G last (n - (j + 1)) (putX c s5 v') ∧ (putX c s5 v').out.length ≤ (putX c s5 v').most := fun v' => by
      have h9 := hnext v'
      rw [hcs] at h9
      exact h9
     dsimp only at hnum hn8 hvv
     have HNUM := hide hnum
     have HNEXT := hide hnext'
     have HVV := hide hvv
     have HREL := hide hrel
     have hm2 := hrel.most
     clear hnum hnext hnext' hvv hrel hcs
     go_wp2_with fail
     refine (unhide HNUM).mono ?_
     rintro r w5 ⟨rfl, hx5, hw5⟩
     have hput := putX_any x base c b s5 w5 hx5 (by rw [(unhide HVV).2.2.1, hm2]; exact hmost)
     have HPUT := hide hput
     have HW5 := hide ((unhide HREL).wrt.trans hw5)
     clear hx5 hw5 hput
     go_wp2_with fail
     refine (unhide HPUT).mono ?_
     rintro r w6 ⟨rfl, v', hx6, hw6⟩
     rw [(unhide HVV).1] at hw6
     have HFIN := hide (show StoAt w w6 x base k e b out q G last s (n - (j + 1)) (putX c s5 v') from ⟨(unhide HNEXT v').1, (putX_keeps c s5 v').1.trans ((unhide HVV).2.2.1.trans (unhide HREL).most), (putX_keeps c s5 v').2.trans ((unhide HVV).2.2.2.trans (unhide HREL).name), (unhide HNEXT v').2, hx6, (unhide HW5).trans hw6⟩)
     clear hx6 hw6 HPUT HNUM HNEXT HW5 HREL HVV
     go_wp2_with fail
     exact ⟨⟨j + 1, _, by omega, by go_num, unhide HFIN⟩, by simp [intOf]; omega⟩
    ·have heb : ((s2.err : Int) == 0) = false := beq_eq_false_iff_ne.2 (by omega)
     have HREL := hide hrel
     clear hrel
     go_wp2_with fail
     go_end0
     refine ⟨rfl, s2, ?_, (unhide HREL).name, (unhide HREL).most, (unhide HREL).room, (unhide HREL).xat, (unhide HREL).wrt⟩
     rw [← unhide HLAST]
     rcases (unhide HREL).rel with ⟨h9, _⟩ | h9
     ·exact absurd h9 he0
     ·exact .inl h9
   ·have hjn : j = n := by omega
    subst hjn
    have HREL := hide hrel
    clear hrel
    go_wp2_with fail
    go_end0
    refine ⟨rfl, s2, ?_, (unhide HREL).name, (unhide HREL).most, (unhide HREL).room, (unhide HREL).xat, (unhide HREL).wrt⟩
    rw [← unhide HLAST]
    have h9 := (unhide HREL).rel
    rw [Nat.sub_self] at h9
    exact sto_end h9
 ·have e1 := numX_ok b { s with at_ := p0 } (unhide HS).err 16 (by dsimp only; omega)
  have e2 := numX_ok b { s with at_ := p0 + 16 } (unhide HS).err 16 (by dsimp only; omega)
  rw [e1] at hx3 ⊢
  dsimp only at hx3 ⊢
  rw [e2] at hx3 ⊢
  dsimp only at hx3 ⊢
  rw [if_pos hth, if_neg hne] at hg
  obtain ⟨he, ho⟩ := (unhide HR).err_pos _ _ hg h3
  have HX2 := hide hx3
  have HW2 := hide hw13
  obtain ⟨_, _, c2, _⟩ := hx3.cell
  dsimp only at c2
  rw [(unhide HS).err] at c2
  have hna := numAt_lt (bytesOf b) p0 16
  have hma := numAt_lt (bytesOf b) (p0 + 16) 16
  clear hx3 hx1 hx2 hw1 hw2 hw3 hw13 hg hlast hn16 hm16 e1 e2
  generalize numAt (bytesOf b) p0 16 = n at *
  generalize numAt (bytesOf b) (p0 + 16) 16 = m at *
  have hsb : (((n : Int) + (m : Int)) != 65535) = true := by rw [bne_iff_ne]; omega
  go_wp2_with fail
  refine (fail_any x base 6 b _ w3 (unhide HX2)).mono ?_
  rintro r w4 ⟨rfl, hx4, hw4⟩
  dsimp only at hx4 hw4
  rw [if_pos (unhide HS).err] at hx4
  have HREL := hide (show StoAt w w4 x base k e b out q G last s n { s with at_ := p0 + 16 + 16, err := 6 } from ⟨.inr ⟨by simp, he.symm, by rw [ho]; exact (unhide HS).out⟩, rfl, rfl, hro, hx4, (unhide HW2).trans hw4⟩)
  clear hx4 hw4 he ho HX2 HW2 hsb
  go_wp2_with fail
  go_loopw [4] (fun i wr => ∃ (j : Nat) (s2 : XS), j ≤ n ∧ i = .int .i64 (j : Nat) ∧ StoAt w wr x base k e b out q G last s (n - j) s2) (fun i _ => n - (intOf i).toNat)
  case atStart => exact ⟨0, _, by omega, rfl, unhide HREL⟩
  case round =>
   clear HREL c2
   obtain ⟨j, s2, hj, rfl, hrel⟩ := hrel
   obtain ⟨_, _, c2, _⟩ := hrel.xat.cell
   by_cases hlt : j < n
   ·by_cases he0 : s2.err = 0
    ·rw [he0] at c2
     have hnum := number_any x base 8 b s2 wr hrel.xat (by omega)
     have hn8 := numX_lt b s2 8
     have hvv := numX_v b s2 8
     have hnext := fun v' => sto_step (left := n - (j + 1)) (by have := hrel.rel; rw [show n - j = (n - (j + 1)) + 1 by omega] at this; exact this) he0 hrel.xat.there v' hrel.room
     obtain ⟨c, s5, hcs⟩ : ∃ c s5, numX b s2 8 = (c, s5) := ⟨_, _, rfl⟩
     rw [hcs] at hnum hn8 hvv
     have hnext' : ∀ v', StoRel (bytesOf b) k e out q G last (n - (j + 1)) (putX c s5 v') ∧ (putX c s5 v').out.length ≤ (putX c s5 v').most := fun v' => by
      have h9 := hnext v'
      rw [hcs] at h9
      exact h9
     dsimp only at hnum hn8 hvv
     have HNUM := hide hnum
     have HNEXT := hide hnext'
     have HVV := hide hvv
     have HREL := hide hrel
     have hm2 := hrel.most
     clear hnum hnext hnext' hvv hrel hcs
     go_wp2_with fail
     refine (unhide HNUM).mono ?_
     rintro r w5 ⟨rfl, hx5, hw5⟩
     have hput := putX_any x base c b s5 w5 hx5 (by rw [(unhide HVV).2.2.1, hm2]; exact hmost)
     have HPUT := hide hput
     have HW5 := hide ((unhide HREL).wrt.trans hw5)
     clear hx5 hw5 hput
     go_wp2_with fail
     refine (unhide HPUT).mono ?_
     rintro r w6 ⟨rfl, v', hx6, hw6⟩
     rw [(unhide HVV).1] at hw6
     have HFIN := hide (show StoAt w w6 x base k e b out q G last s (n - (j + 1)) (putX c s5 v') from ⟨(unhide HNEXT v').1, (putX_keeps c s5 v').1.trans ((unhide HVV).2.2.1.trans (unhide HREL).most), (putX_keeps c s5 v').2.trans ((unhide HVV).2.2.2.trans (unhide HREL).name), (unhide HNEXT v').2, hx6, (unhide HW5).trans hw6⟩)
     clear hx6 hw6 HPUT HNUM HNEXT HW5 HREL HVV
     go_wp2_with fail
     exact ⟨⟨j + 1, _, by omega, by go_num, unhide HFIN⟩, by simp [intOf]; omega⟩
    ·have heb : ((s2.err : Int) == 0) = false := beq_eq_false_iff_ne.2 (by omega)
     have HREL := hide hrel
     clear hrel
     go_wp2_with fail
     go_end0
     refine ⟨rfl, s2, ?_, (unhide HREL).name, (unhide HREL).most, (unhide HREL).room, (unhide HREL).xat, (unhide HREL).wrt⟩
     rw [← unhide HLAST]
     rcases (unhide HREL).rel with ⟨h9, _⟩ | h9
     ·exact absurd h9 he0
     ·exact .inl h9
   ·have hjn : j = n := by omega
    subst hjn
    have HREL := hide hrel
    clear hrel
    go_wp2_with fail
    go_end0
    refine ⟨rfl, s2, ?_, (unhide HREL).name, (unhide HREL).most, (unhide HREL).room, (unhide HREL).xat, (unhide HREL).wrt⟩
    rw [← unhide HLAST]
    have h9 := (unhide HREL).rel
    rw [Nat.sub_self] at h9
    exact sto_end h9
 ·have e1 := numX_ok b { s with at_ := p0 } (unhide HS).err 16 (by dsimp only; omega)
  have e2 := numX_ok b { s with at_ := p0 + 16 } (unhide HS).err 16 (by dsimp only; omega)
  rw [e1] at hx3 ⊢
  dsimp only at hx3 ⊢
  rw [e2] at hx3 ⊢
  dsimp only at hx3 ⊢
  rw [if_pos hth, if_pos heq] at hg
  obtain ⟨k1, hk1, hr1⟩ := (unhide HR).go_is hg h3
  have HX3 := hide hx3
  have HW := hide hw13
  obtain ⟨_, _, c2, _⟩ := hx3.cell
  dsimp only at c2
  rw [(unhide HS).err] at c2
  have hna := numAt_lt (bytesOf b) p0 16
  have HREL := hide (show StoAt w w3 x base k e b out q G last s (numAt (bytesOf b) p0 16) { s with at_ := p0 + 16 + 16 } from ⟨.inl ⟨(unhide HS).err, (unhide HS).most, k1, by omega, by
   unfold bytesG
   dsimp only
   rw [(unhide HS).out]
   exact hr1⟩, rfl, rfl, hro, unhide HX3, unhide HW⟩)
  clear hx3 hx1 hx2 hw1 hw2 hw3 hw13 hg hlast hn16 hm16 e1 e2 hr1 hk1
  generalize numAt (bytesOf b) p0 16 = n at *
  generalize numAt (bytesOf b) (p0 + 16) 16 = m at *
  have hsb : (((n : Int) + (m : Int)) != 65535) = false := by rw [bne_eq_false_iff_eq]; omega
  go_wp2_with fail
  go_loopw [4] (fun i wr => ∃ (j : Nat) (s2 : XS), j ≤ n ∧ i = .int .i64 (j : Nat) ∧ StoAt w wr x base k e b out q G last s (n - j) s2) (fun i _ => n - (intOf i).toNat)
  case atStart => exact ⟨0, _, by omega, rfl, unhide HREL⟩
  case round =>
   clear HREL c2
   obtain ⟨j, s2, hj, rfl, hrel⟩ := hrel
   obtain ⟨_, _, c2, _⟩ := hrel.xat.cell
   by_cases hlt : j < n
   ·by_cases he0 : s2.err = 0
    ·rw [he0] at c2
     have hnum := number_any x base 8 b s2 wr hrel.xat (by omega)
     have hn8 := numX_lt b s2 8
     have hvv := numX_v b s2 8
     have hnext := fun v' => sto_step (left := n - (j + 1)) (by have := hrel.rel; rw [show n - j = (n - (j + 1)) + 1 by omega] at this; exact this) he0 hrel.xat.there v' hrel.room
     obtain ⟨c, s5, hcs⟩ : ∃ c s5, numX b s2 8 = (c, s5) := ⟨_, _, rfl⟩
     rw [hcs] at hnum hn8 hvv
     have hnext' : ∀ v', StoRel (bytesOf b) k e out q G last (n - (j + 1)) (putX c s5 v') ∧ (putX c s5 v').out.length ≤ (putX c s5 v').most := fun v' => by
      have h9 := hnext v'
      rw [hcs] at h9
      exact h9
     dsimp only at hnum hn8 hvv
     have HNUM := hide hnum
     have HNEXT := hide hnext'
     have HVV := hide hvv
     have HREL := hide hrel
     have hm2 := hrel.most
     clear hnum hnext hnext' hvv hrel hcs
     go_wp2_with fail
     refine (unhide HNUM).mono ?_
     rintro r w5 ⟨rfl, hx5, hw5⟩
     have hput := putX_any x base c b s5 w5 hx5 (by rw [(unhide HVV).2.2.1, hm2]; exact hmost)
     have HPUT := hide hput
     have HW5 := hide ((unhide HREL).wrt.trans hw5)
     clear hx5 hw5 hput
     go_wp2_with fail
     refine (unhide HPUT).mono ?_
     rintro r w6 ⟨rfl, v', hx6, hw6⟩
     rw [(unhide HVV).1] at hw6
     have HFIN := hide (show StoAt w w6 x base k e b out q G last s (n - (j + 1)) (putX c s5 v') from ⟨(unhide HNEXT v').1, (putX_keeps c s5 v').1.trans ((unhide HVV).2.2.1.trans (unhide HREL).most), (putX_keeps c s5 v').2.trans ((unhide HVV).2.2.2.trans (unhide HREL).name), (unhide HNEXT v').2, hx6, (unhide HW5).trans hw6⟩)
     clear hx6 hw6 HPUT HNUM HNEXT HW5 HREL HVV
     go_wp2_with fail
     exact ⟨⟨j + 1, _, by omega, by go_num, unhide HFIN⟩, by simp [intOf]; omega⟩
    ·have heb : ((s2.err : Int) == 0) = false := beq_eq_false_iff_ne.2 (by omega)
     have HREL := hide hrel
     clear hrel
     go_wp2_with fail
     go_end0
     refine ⟨rfl, s2, ?_, (unhide HREL).name, (unhide HREL).most, (unhide HREL).room, (unhide HREL).xat, (unhide HREL).wrt⟩
     rw [← unhide HLAST]
     rcases (unhide HREL).rel with ⟨h9, _⟩ | h9
     ·exact absurd h9 he0
     ·exact .inl h9
   ·have hjn : j = n := by omega
    subst hjn
    have HREL := hide hrel
    clear hrel
    go_wp2_with fail
    go_end0
    refine ⟨rfl, s2, ?_, (unhide HREL).name, (unhide HREL).most, (unhide HREL).room, (unhide HREL).xat, (unhide HREL).wrt⟩
    rw [← unhide HLAST]
    have h9 := (unhide HREL).rel
    rw [Nat.sub_self] at h9
    exact sto_end h9
end Go.Proofs.YtbpahojchgpdnaaGreatDoor
namespace Go.Proofs.YtbpahojchgpdnaaGreatDoor
open Go.RowKit Go.Bel
theorem made_row {w1 : World} {base R n : Nat} (hown : w1.ownsRow base 3 1 (.slice (some ⟨R, 0, none⟩) n n) n (madeCells (Value.int .i64 0).cells (n * 1)).toList) : RowAt w1 R 3 n (fun _ => nat 0) := by
 obtain ⟨_, ⟨hv, _⟩ | ⟨g', cap', cur, hv, _, hh, _, _, hcs, htk⟩⟩ := hown
 ·cases hv
 ·cases hv
  refine ⟨cur, hh, by rw [hcs]; omega, fun i hi' => ?_⟩
  have e1 : cur.toList = (madeCells (Value.int .i64 0).cells (n * 1)).toList := by
   rw [← htk, List.take_of_length_le (by rw [Array.length_toList, hcs]; exact Nat.le_refl _)]
  have e2 : cur = madeCells (Value.int .i64 0).cells (n * 1) := Array.toList_inj.1 e1
  rw [e2]
  unfold madeCells
  rw [Array.getElem?_map, Array.getElem?_range, if_pos (by omega)]
  show some ((#[.int .i64 0] : Array Value)[i % 1]!) = _
  rw [Nat.mod_one]
  rfl
theorem ints_of_row {w : World} {R n : Nat} {L : List Nat} (h : RowAt w R 3 n (fun i => nat (L[i]?.getD 0))) (hn : L.length = n) (hle : ∀ i : Nat, L[i]?.getD 0 ≤ 15) (hm : n ≤ 1000) : Ints w R 0 L :=
 ⟨fun i hi => by rw [Nat.zero_add]; exact h.cell i (by omega), hle, by omega⟩
theorem fixedX_any (w : World) :
  Calls Tryz.prog 142 #[] w fun e w' => ∃ C1 C2, e = .returned (.tuple #[.slice (some ⟨C1, 0, none⟩) 288 288, .slice (some ⟨C2, 0, none⟩) 32 32]) ∧ w.heap.size ≤ C1 ∧ w.heap.size ≤ C2 ∧ RowAt w' C1 234 (2 * 288) (codeCell (codeX fixLensG)) ∧ RowAt w' C2 234 (2 * 32) (codeCell (codeX fixDist)) ∧ Step (fun _ => False) w w' := by
 obtain ⟨i0, hi, hz0, hz1, hz2⟩ := info_parts Tryz.info3
 have hst0 := Step.refl (fun _ => False) w
 go_enter Tryz.func142, Tryz.ntmps142
 go_wp2_with (at_make; refine wpList_make_full _ rfl _ _ 57 rfl w.heap.size 3 i0 (.int .i64 0) 1 Tryz.underlying57 hi hz0 hz1 .i64 .i64 _ _ 288 rfl rfl rfl rfl (by rw [hz2]; omega) (by unfold maxLen; omega) (Nat.le_refl _) ?_; intro w1 hown1 hgr1)
 have hrow := made_row hown1
 have hst : Step (fun _ => False) w w1 := hst0.grown hgr1 (fun k hk => by cases hk)
 obtain ⟨R, hR⟩ : ∃ R, R = w.heap.size := ⟨_, rfl⟩
 rw [← hR] at hrow ⊢
 have hRw : w.heap.size ≤ R := by omega
 clear hown1 hgr1 hR hst0
 go_loopw [3] (fun i wr => ∃ k : Nat, k ≤ 288 ∧ i = .int .i64 (k : Nat) ∧ RowAt wr R 3 288 (fun i => nat (if i < k then fixG i else 0)) ∧ Step (fun _ => False) w wr) (fun i _ => 288 - (intOf i).toNat)
 case atStart => exact ⟨0, by omega, rfl, hrow.congr (fun i _ => by simp), hst⟩
 case round =>
  clear hrow hst
  obtain ⟨k, hk, rfl, hrow, hst⟩ := hrel
  by_cases hlt : k < 288
  ·have HROW := hide hrow
   have HST := hide hst
   have z := hrow.cell k hlt
   have fz := hrow.free k
   have hk0 : (0 : Int) ≤ (k : Int) := by omega
   have hki : (k : Int) < 288 := by omega
   have hset : ∀ u, u = fixG k → RowAt (wr.setCell ⟨R, k, none⟩ (.int .i64 (u : Nat))) R 3 288 (fun i => nat (if i < k + 1 then fixG i else 0)) := fun u hu => by
    refine (hrow.set k (.int .i64 (u : Nat))).congr fun i _ => ?_
    by_cases hik : i = k
    ·rw [if_pos hik, if_pos (by omega), hu, hik]
    ·rw [if_neg hik]
     by_cases h2 : i < k
     ·rw [if_pos h2, if_pos (by omega)]
     ·rw [if_neg h2, if_neg (by omega)]
   have HSET := hide hset
   clear hset hrow hst
   by_cases h1 : k < 144
   ·have hf : fixG k = 8 := by unfold fixG; rw [if_pos h1]
    have HF := hide hf
    clear hf
    go_wp2_with fail
    exact ⟨⟨k + 1, by omega, by go_num, unhide HSET 8 (unhide HF).symm, (unhide HST).setNew hRw _⟩, by simp [intOf]; omega⟩
   by_cases h2 : k < 256
   ·have hf : fixG k = 9 := by unfold fixG; rw [if_neg h1, if_pos h2]
    have HF := hide hf
    clear hf
    go_wp2_with fail
    exact ⟨⟨k + 1, by omega, by go_num, unhide HSET 9 (unhide HF).symm, (unhide HST).setNew hRw _⟩, by simp [intOf]; omega⟩
   by_cases h3 : k < 280
   ·have hf : fixG k = 7 := by unfold fixG; rw [if_neg h1, if_neg h2, if_pos h3]
    have HF := hide hf
    clear hf
    go_wp2_with fail
    exact ⟨⟨k + 1, by omega, by go_num, unhide HSET 7 (unhide HF).symm, (unhide HST).setNew hRw _⟩, by simp [intOf]; omega⟩
   ·have hf : fixG k = 8 := by unfold fixG; rw [if_neg h1, if_neg h2, if_neg h3, if_pos hlt]
    have HF := hide hf
    clear hf
    go_wp2_with fail
    exact ⟨⟨k + 1, by omega, by go_num, unhide HSET 8 (unhide HF).symm, (unhide HST).setNew hRw _⟩, by simp [intOf]; omega⟩
  ·have : k = 288 := by omega
   subst this
   have hi1 : Ints wr R 0 fixLensG := ints_of_row (n := 288) (hrow.congr (fun i hi' => by rw [if_pos hi', fixLensG_eq, fixLens_get])) (by rw [fixLensG_eq, fixLens_length]) (fun i => by rw [fixLensG_eq]; exact fix_le i) (by omega)
   have HI1 := hide hi1
   have HST := hide hst
   have hRl := hrow.lt
   clear hrow hst hi1
   go_wp2_with (at_make; refine wpList_make_full _ rfl _ _ 57 rfl wr.heap.size 3 i0 (.int .i64 0) 1 Tryz.underlying57 hi hz0 hz1 .i64 .i64 _ _ 32 rfl rfl rfl rfl (by rw [hz2]; omega) (by unfold maxLen; omega) (Nat.le_refl _) ?_; intro w2 hown2 hgr2)
   have hrow2 := made_row hown2
   have hst2 : Step (fun _ => False) wr w2 := (Step.refl _ wr).grown hgr2 (fun k hk => by cases hk)
   obtain ⟨T, hT⟩ : ∃ T, T = wr.heap.size := ⟨_, rfl⟩
   rw [← hT] at hrow2 ⊢
   have hTw : wr.heap.size ≤ T := by omega
   clear hown2 hgr2 hT
   go_loopw [5] (fun i w3 => ∃ k : Nat, k ≤ 32 ∧ i = .int .i64 (k : Nat) ∧ RowAt w3 T 3 32 (fun i => nat (if i < k then 5 else 0)) ∧ Step (fun _ => False) wr w3) (fun i _ => 32 - (intOf i).toNat)
   case atStart => exact ⟨0, by omega, rfl, hrow2.congr (fun i _ => by simp), hst2⟩
   case round =>
    clear hrow2 hst2
    obtain ⟨k, hk2, rfl, hrow, hst⟩ := hrel
    by_cases hlt2 : k < 32
    ·have HST2 := hide hst
     have z := hrow.cell k hlt2
     have fz := hrow.free k
     have hk0 : (0 : Int) ≤ (k : Int) := by omega
     have hki : (k : Int) < 32 := by omega
     have HSET := hide (show RowAt (wr.setCell ⟨T, k, none⟩ (.int .i64 5)) T 3 32 (fun i => nat (if i < k + 1 then 5 else 0)) from by
      refine (hrow.set k (.int .i64 5)).congr fun i _ => ?_
      by_cases hik : i = k
      ·rw [if_pos hik, if_pos (by omega)]; rfl
      ·rw [if_neg hik]
       by_cases h2 : i < k
       ·rw [if_pos h2, if_pos (by omega)]
       ·rw [if_neg h2, if_neg (by omega)])
     clear hrow hst
     go_wp2_with fail
     exact ⟨⟨k + 1, by omega, by go_num, unhide HSET, (unhide HST2).setNew hTw _⟩, by simp [intOf]; omega⟩
    ·have : k = 32 := by omega
     subst this
     have hi2 : Ints wr T 0 fixDist := ints_of_row (n := 32) (hrow.congr (fun i hi' => by rw [if_pos hi']; unfold fixDist; rw [List.getElem?_replicate, if_pos hi']; rfl)) (by unfold fixDist; rw [List.length_replicate]) (fun i => by unfold fixDist; rw [List.getElem?_replicate]; split <;> simp) (by omega)
     have hi1 := (unhide HI1).step hst (fun y => y)
     have hst3 := (unhide HST).trans hst
     have e288 : fixLensG.length = 288 := by rw [fixLensG_eq, fixLens_length]
     have e32 : fixDist.length = 32 := by unfold fixDist; rw [List.length_replicate]
     have hd1 := dealX_any R 0 288 fixLensG wr hi1
     rw [e288] at hd1
     have HD1 := hide hd1
     have HI2 := hide hi2
     have HST3 := hide hst3
     have HE32 := hide e32
     clear hd1 hi1 hi2 hst3 hrow hst e288 e32
     go_wp2_with fail
     refine (unhide HD1).mono ?_
     rintro r w5 ⟨C1, rfl, hC1, hrow5, hst5⟩
     have hd2 := dealX_any T 0 32 fixDist w5 ((unhide HI2).step hst5 (fun y => y))
     rw [unhide HE32] at hd2
     have HD2 := hide hd2
     have HROW5 := hide hrow5
     have hst6 := (unhide HST3).trans hst5
     have HST6 := hide hst6
     have hsz6 := hst6.size
     have hsz5 := (unhide HST3).size
     clear hd2 hrow5 hst5 hst6 HD1
     go_wp2_with fail
     refine (unhide HD2).mono ?_
     rintro r w6 ⟨C2, rfl, hC2, hrow6, hst7⟩
     have HROW6 := hide hrow6
     have HR5 := hide ((unhide HROW5).step hst7 (fun y => y))
     have HST8 := hide ((unhide HST6).trans hst7)
     clear hrow6 hst7 HD2
     go_wp2_with fail
     go_ret2
     exact ⟨C1, C2, rfl, by omega, by omega, unhide HR5, unhide HROW6, unhide HST8⟩
end Go.Proofs.YtbpahojchgpdnaaGreatDoor
