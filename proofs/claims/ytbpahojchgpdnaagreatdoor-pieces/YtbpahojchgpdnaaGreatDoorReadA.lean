/- Proved here: the decoder's run where bits are missing: it holds the state at which they are, and can be run again. -/
import Derived.Test.YtbpahojchgpdnaaGreatDoorEndsA
import Derived.Test.YtbpahojchgpdnaaGreatDoorGzipB
import Derived.Test.YtbpahojchgpdnaaGreatDoorZlibB
set_option maxRecDepth 20000
set_option maxHeartbeats 4000000
namespace Go.Bel
open Go Go.RowKit Go.Proofs.YtbpahojchgpdnaaGreatDoor
inductive GStop (B : List Nat) : Nat → GS → GS → Prop
 | here (s : GS) (h3 : s.place ≠ 3) (h : gStep B s = .miss) : GStop B 0 s s
 | go (n : Nat) (s s1 s2 : GS) (h3 : s.place ≠ 3) (h : gStep B s = .go s1) (k : GStop B n s1 s2) : GStop B (n + 1) s s2
theorem gRun_or {B : List Nat} {n e : Nat} {s : GS} {out : List Nat} {q : Nat} (h : GRun B n s e out q) : (∃ m s', GStop B m s s' ∧ e = 3 ∧ out = s'.out ∧ q = 0) ∨ e ≠ 3 ∨ ∃ s' x, gStep B s' = .no 3 x := by
 induction h with
 | done s h => exact .inr (.inl (by omega))
 | no s e out h3 h =>
  by_cases he : e = 3
  ·subst he; exact .inr (.inr ⟨s, out, h⟩)
  ·exact .inr (.inl he)
 | miss s h3 h => exact .inl ⟨0, s, .here s h3 h, rfl, rfl, rfl⟩
 | go n s s1 e out q h3 h k ih =>
  rcases ih with ⟨m, s', a, b⟩ | ih
  ·exact .inl ⟨m + 1, s', .go m s s1 s' h3 h a, b⟩
  ·exact .inr ih
theorem GStop.run {B : List Nat} {n : Nat} {s s' : GS} (h : GStop B n s s') : ∃ m, GRun B m s 3 s'.out 0 := by
 induction h with
 | here s h3 h => exact ⟨_, .miss s h3 h⟩
 | go n s s1 s2 h3 h k ih =>
  obtain ⟨m, hm⟩ := ih
  exact ⟨_, .go m s s1 3 _ 0 h3 h hm⟩
theorem GStop.miss {B : List Nat} {n : Nat} {s s' : GS} (h : GStop B n s s') : s'.place ≠ 3 ∧ gStep B s' = .miss := by
 induction h with
 | here s h3 h => exact ⟨h3, h⟩
 | go n s s1 s2 h3 h k ih => exact ih
theorem GStop.on {B B' : List Nat} {k n : Nat} {s s' : GS} (hs : Sees B B' k) (h : GStop B' n s s') : ∀ {m e : Nat} {out : List Nat} {q : Nat}, GRun B m (s'.sh k) e out q → ∃ m', GRun B m' (s.sh k) e out q := by
 induction h with
 | here s h3 h => exact fun h => ⟨_, h⟩
 | go n s s1 s2 h3 h _ ih =>
  intro m e out q hr
  obtain ⟨m', h9⟩ := ih hr
  rcases gStep_sees hs s with h1 | h1
  ·rw [h] at h1; cases h1
  ·rw [h] at h1
   exact ⟨_, .go m' (s.sh k) (s1.sh k) e out q h3 h1 h9⟩
theorem gStep_last {B : List Nat} {s : GS} (l : Bool) (h1 : s.place ≠ 1) (h2 : s.place ≠ 2) : gStep B { s with last := l } = gStep B s := by
 unfold gStep
 rw [if_neg h1, if_neg h2, if_neg h1, if_neg h2]
 rfl
theorem gRun_last {B : List Nat} {s : GS} {n e : Nat} {out : List Nat} {q : Nat} (l : Bool) (h1 : s.place ≠ 1) (h2 : s.place ≠ 2) (h3 : s.place ≠ 3) (h : GRun B n s e out q) : GRun B n { s with last := l } e out q := by
 have hg := gStep_last (B := B) (s := s) l h1 h2
 cases h with
 | done _ h => exact absurd h h3
 | no _ e out _ h => exact .no _ e out h3 (hg.trans h)
 | miss _ _ h => exact .miss { s with last := l } h3 (hg.trans h)
 | go n _ s1 e out q _ h k => exact .go n _ s1 e out q h3 (hg.trans h) k
end Go.Bel
namespace Go.Proofs.YtbpahojchgpdnaaGreatDoor
open Go.RowKit Go.Bel Go.Maps
def LastAs (s s' : GS) : Prop := ∃ l, (s.place = 1 ∨ s.place = 2 → l = s.last) ∧ s' = { s with last := l }
theorem gStop_taken {B : List Nat} {n : Nat} {s s' : GS} (h : GStop B n s s') : s'.taken = s.taken := by
 induction h with
 | here s h3 h => rfl
 | go n s s1 s2 h3 h k ih => exact ih.trans (gStep_taken h)
theorem runS_any (d f base g off cap z n : Nat) (B : List Nat) (s s' : GS) (v : Value) (w : World) (hH : HoldsG w d f base g off cap z B s v) (hr : GStop B n s s') :
  Calls Tryz.prog 117 #[.pointer (some ⟨d, 0, none⟩)] w fun r w' => r = .returned (.int .i64 3) ∧ ∃ s2 v', LastAs s' s2 ∧ HoldsG w' d f base g off cap z B s2 v' ∧ Dst d f w v w' v' := by
 have hmf : ∀ (fn : Fn) (first cap : Array Value) (w : World), (Instr.makeFunc fn first cap).run Tryz.prog w = .ok (.func fn first cap) w := fun _ _ _ _ => rfl
 have HH := hide hH
 have HR := hide hr
 clear hH hr
 go_enter Tryz.func117, Tryz.ntmps117
 go_wp2_with fail
 go_loopg [4] n (fun k u wr => ∃ s1 v1, HoldsG wr d f base g off cap z B s1 v1 ∧ GStop B k s1 s' ∧ Dst d f w v wr v1)
 case atStart => exact ⟨s, v, unhide HH, unhide HR, Dst.refl _ _ _ _⟩
 case round =>
  obtain ⟨s1, v1, h1, h2, h3⟩ := hrel
  obtain ⟨c0, c3, _⟩ := h1.place
  have H1 := hide h1
  have H3 := hide h3
  have hone := one_any d f base g off cap z B s1 v1 wr h1
  clear h1 h3
  have hcs : (s1 = s' ∧ s1.place ≠ 3 ∧ gStep B s1 = .miss) ∨ ∃ m s2, gk = m + 1 ∧ s1.place ≠ 3 ∧ gStep B s1 = .go s2 ∧ GStop B m s2 s' := by
   cases h2 with
   | here _ h3 h => exact .inl ⟨rfl, h3, h⟩
   | go m _ s2 _ h3 h k => exact .inr ⟨m, s2, rfl, h3, h, k⟩
  rcases hcs with ⟨rfl, hp, hg⟩ | ⟨m, s2, hk, hp, hg, k2⟩
  ·have hne : ((s1.place : Int) != 3) = true := by rw [bne_iff_ne]; omega
   rw [hg] at hone
   have HON := hide hone
   clear hp h2 hg hone
   go_wp2_with fail
   refine (unhide HON).mono ?_
   rintro r w2 ⟨rfl, l, h4, h5, h6⟩
   have H4 := hide h4
   have H5 := hide h5
   have H6 := hide ((unhide H3).trans h6)
   clear h4 h5 h6
   go_wp2_with fail
   go_ret
   exact ⟨rfl, _, v1, ⟨l, unhide H4, rfl⟩, unhide H5, unhide H6⟩
  ·have hne : ((s1.place : Int) != 3) = true := by rw [bne_iff_ne]; omega
   rw [hg] at hone
   have HON := hide hone
   have HK := hide k2
   have hkm : m < gk := by omega
   clear hp k2 h2 hk hg hone
   go_wp2_with fail
   refine (unhide HON).mono ?_
   rintro r w2 ⟨rfl, v2, h4, h5⟩
   have H4 := hide h4
   have H5 := hide ((unhide H3).trans h5)
   clear h4 h5
   go_wp2_with fail
   go_roundg m
   case measure => omega
   case rel => exact ⟨_, v2, unhide H4, unhide HK, unhide H5⟩
structure StopP (d f base g off cap z : Nat) (B : List Nat) (s' : GS) (v vo : Value) (w w' : World) : Prop where
 ex : ∃ s2 v', LastAs s' s2 ∧ HoldsG w' d f base g off cap z B { s2 with taken := s2.out.length } v' ∧ Dst d f w v w' v' ∧ Apart vo v'
theorem takeStop_any (d f base g off cap z n : Nat) (B : List Nat) (s s' : GS) (v : Value) (w : World) (hH : HoldsG w d f base g off cap z B s v) (hr : GStop B n s s') :
  Calls Tryz.prog 74 #[.pointer (some ⟨d, 0, none⟩)] w
   fun r w' => ∃ vo, r = .returned (.tuple #[vo, .int .i64 3]) ∧ StopP d f base g off cap z B s' v vo w w' ∧ Taken w' w.heap.size vo (s'.out.drop s.taken) := by
 have hrun := runS_any d f base g off cap z n B s s' v w hH hr
 have htk0 := gStop_taken hr
 have HR := hide hrun
 clear hrun hr hH
 go_enter Tryz.func74, Tryz.ntmps74
 go_wp2_with fail
 refine (unhide HR).mono ?_
 rintro r w1 ⟨rfl, s2, v1, hla, hH1, hd1⟩
 obtain ⟨st, hv, hon, e1, e2, e3, e4, e5, e6, e7, e8, e9⟩ := hH1.ex
 have hle := e1.le
 have hmo := hH1.most
 have hro := hH1.room
 have htk := take_any d f base st w1 hon.dec (by omega) e1.kept
 rw [outs_fresh e1] at htk
 have HTK := hide htk
 have hso : s2.out = s'.out ∧ s2.taken = s.taken := by
  obtain ⟨l, _, rfl⟩ := hla
  exact ⟨rfl, htk0⟩
 have HFIN := hide (show ∀ w' v' vo, Dec w' d f base (takenSt st v') → Wrt d w1 st.v w' v' → Apart vo v' → StopP d f base g off cap z B s' v vo w w' from fun w' v' vo hd hw hap => by
  have hdst : Dst d f w1 v1 w' v' := by rw [← hv]; exact Dst.of_wrt (f := f) hw
  refine ⟨s2, v', hla, hH1.after (s' := { s2 with taken := s2.out.length }) (st := takenSt st v') (hon.put hd hw) hdst rfl (Outs.take e1 v') e2 e3 e4 e5 e6 e7 (e8.step hdst) (fun hp => (e9 hp).step hdst rfl rfl rfl rfl) rfl hH1.room hH1.left hH1.bits, hd1.trans hdst, hap⟩)
 have hsz := hd1.step.size
 have HSO := hide hso
 clear htk hle hmo hro hso hla hH1 hd1 hon e1 e2 e3 e4 e5 e6 e7 e8 e9 HR
 go_wp2_with fail
 refine (unhide HTK).mono ?_
 rintro r w2 ⟨vo, v', rfl, ht, hd, hw, hap⟩
 have HA := hide (unhide HFIN w2 v' vo hd hw hap)
 have HB := hide (show Taken w2 w.heap.size vo (s'.out.drop s.taken) by
  have h9 := ht.mono hsz
  rw [(unhide HSO).1, (unhide HSO).2] at h9
  exact h9)
 clear hd hw ht hap
 go_wp2_with fail
 go_ret2
 exact ⟨vo, rfl, unhide HA, unhide HB⟩
end Go.Proofs.YtbpahojchgpdnaaGreatDoor
namespace Go.Proofs.YtbpahojchgpdnaaGreatDoor
open Go.RowKit Go.Bel Go.Maps
theorem other_ne {w : World} {d f base g off cap z D q t : Nat} {A : Array Value} {B : List Nat} {st : DSt} (hon : OnD w d f base g off cap z B st q) (hb : w.heap[D]? = some (.cells A t (0, 0))) (t1 : t ≠ 128) (t2 : t ≠ 91) (t3 : t ≠ 5) (t4 : t ≠ 125) :
  d ≠ D ∧ f ≠ D ∧ (∀ k, st.v.ownBlock = some k → k ≠ D) ∧ (∀ mb M, TabAt w mb M → mb ≠ D) ∧ (∀ cb A', w.heap[cb]? = some (.cells A' 125 (0, 0)) → cb ≠ D) := by
 have key : ∀ (k : Nat) (A' : Array Value) (u : TypeId), w.heap[k]? = some (.cells A' u (0, 0)) → t ≠ u → k ≠ D := fun k A' u hk hu x => by
  rw [x, hb] at hk
  simp only [Option.some.injEq, Obj.cells.injEq] at hk
  exact hu hk.2.1
 refine ⟨key _ _ _ hon.dec.blk t1, key _ _ _ hon.feed t2, fun k hk => ?_, fun mb M hm x => ?_, fun cb A' hm => key _ _ _ hm t4⟩
 ·obtain ⟨_, ⟨hv, _⟩ | ⟨g', _, _, hv, _, hh, _⟩⟩ := hon.dec.own
  ·rw [hv] at hk; simp [Value.ownBlock] at hk
  ·rw [hv] at hk
   simp only [Value.ownBlock, Option.some.injEq] at hk
   subst hk
   exact key _ _ _ hh t3
 ·obtain ⟨_, _, _, ⟨es, ck, hh, _⟩, _⟩ := hm
  rw [x, hb] at hh; simp at hh
theorem HoldsG.other {w w' : World} {d f base g off cap z D t : Nat} {A : Array Value} {B : List Nat} {s : GS} {v : Value} (h : HoldsG w d f base g off cap z B s v) (hs : Step (· = D) w w') (hb : w.heap[D]? = some (.cells A t (0, 0))) (t1 : t ≠ 128) (t2 : t ≠ 91) (t3 : t ≠ 5) (t4 : t ≠ 125) (hg : g ≠ D) (hD : 4 ≤ D) : HoldsG w' d f base g off cap z B s v := by
 obtain ⟨st, rfl, hon, e1, e2, e3, e4, e5, e6, e7, e8, e9⟩ := h.ex
 obtain ⟨n1, n2, n3, n4, n5⟩ := other_ne hon hb t1 t2 t3 t4
 have hon' : OnD w' d f base g off cap z B st s.p := ⟨hon.dec.other (hs.block d (lt_of_block hon.dec.blk) n1) (fun k hk => hs.block k (hon.dec.own.lt k hk).2 (n3 k hk)) hs.size, hs.at_ hon.feed n2, hon.src.step hs hg, hon.goff, Nat.lt_of_lt_of_le hon.glt hs.size⟩
 refine ⟨⟨st, rfl, hon', e1, e2, e3, e4, e5, e6, e7, ?_, fun h2 => ?_⟩, h.order.step hs (fun k hk x => by omega), h.zero, Nat.le_trans h.zlt hs.size, h.most, h.room, h.left, h.bits⟩
 ·rcases e8 with e8 | ⟨cb, m1, m2, h1, h2, h3, h4, h5, h6, h7⟩
  ·exact .inl e8
  ·exact .inr ⟨cb, m1, m2, h1, hs.at_ h2 (n5 cb _ h2), h3.step hs (n4 _ _ h3), h4.step hs (n4 _ _ h4), h5, h6, h7⟩
 ·have ht := e9 h2
  obtain ⟨mb, a1, a2, a3⟩ := ht.sm
  obtain ⟨x, b1', b2⟩ := ht.dm
  refine ⟨⟨mb, a1, a2.step hs (n4 _ _ a2), a3⟩, ht.sl, ⟨x, b1', ?_⟩, ht.dl, ht.sn, ht.dn⟩
  rcases b2 with b2 | ⟨m2, c1, c2, c3⟩
  ·exact .inl b2
  ·exact .inr ⟨m2, c1, c2.step hs (n4 _ _ c2), c3⟩
structure StopQ (d f base g off cap z : Nat) (B : List Nat) (s' : GS) (v vo : Value) (S : Nat → Prop) (w w' : World) : Prop where
 ex : ∃ s2 v', LastAs s' s2 ∧ HoldsG w' d f base g off cap z B { s2 with taken := s2.out.length } v' ∧ Step (fun k => S k ∨ k = d ∨ k = f ∨ v.ownBlock = some k) w w' ∧ (∀ k, v'.ownBlock = some k → v.ownBlock = some k ∨ w.heap.size ≤ k) ∧ Apart vo v'
theorem StopP.q {d f base g off cap z : Nat} {B : List Nat} {s' : GS} {v vo : Value} {w w' : World} (h : StopP d f base g off cap z B s' v vo w w') (S : Nat → Prop) : StopQ d f base g off cap z B s' v vo S w w' := by
 obtain ⟨s2, v', h1, h2, h3, h4⟩ := h.ex
 exact ⟨s2, v', h1, h2, h3.step.mono (fun k hk => .inr hk), h3.own, h4⟩
theorem StopQ.set {d f base g off cap z D : Nat} {A : Array Value} {B : List Nat} {s' : GS} {v vo : Value} {w w' : World} (h : StopQ d f base g off cap z B s' v vo (· = D) w w') (hb : w'.heap[D]? = some (.cells A 96 (0, 0))) (hgD : g ≠ D) (hD : 4 ≤ D) (i n : Nat) (u : Value) : StopQ d f base g off cap z B s' v vo (· = D) w ((w'.setCell ⟨D, i, none⟩ u).drewN n) := by
 obtain ⟨s2, v', h1, h2, h3, h4, h5⟩ := h.ex
 have hs : Step (· = D) w' ((w'.setCell ⟨D, i, none⟩ u).drewN n) := ((Step.refl (· = D) w').setCell (p := ⟨D, i, none⟩) rfl u).drewN n
 exact ⟨s2, v', h1, h2.other hs hb (by decide) (by decide) (by decide) (by decide) hgD hD, h3.trans (hs.mono (fun k hk => .inl hk)), h4, h5⟩
theorem wrapBareS (D d f base g off cap z n : Nat) (parts : Value) (nm : ByteArray) (B : List Nat) (s s' : GS) (v : Value) (w : World) (hD : WAtN w D f d parts (.slice none 0 0) nm) (hDo : DOff d f v D) (hD4 : 4 ≤ D) (hgD : g ≠ D) (hH : HoldsG w d f base g off cap z B s v) (hr : GStop B n s s') :
  Calls Tryz.prog 50 #[.pointer (some ⟨D, 0, none⟩)] w fun r w' => r = .returned (.tuple #[.bool false, .int .i64 3]) ∧ ∃ vo, WAtN w' D f d parts vo nm ∧ StopQ d f base g off cap z B s' v vo (· = D) w w' ∧ Taken w' w.heap.size vo (s'.out.drop s.taken) := by
 have k1 := (show w.cell? ⟨D, 1, none⟩ = some (.pointer (some ⟨d, 0, none⟩)) from blk_cell hD 1 _ rfl)
 have hrun := takeStop_any d f base g off cap z n B s s' v w hH hr
 have hDl := lt_of_block hD
 have HR := hide hrun
 have HD := hide hD
 clear hrun hr hH hD
 go_enter Tryz.func50, Tryz.ntmps50
 go_wp2_with fail
 refine (unhide HR).mono ?_
 rintro r w1 ⟨vo, rfl, hex, htk⟩
 obtain ⟨ao, co, hvo⟩ := htk.slice
 have hex2 := hex.q (· = D)
 have hD1 : WAtN w1 D f d parts (.slice none 0 0) nm := by
  obtain ⟨s2, v', h1, h2, h3, _⟩ := hex.ex
  exact h3.step.at_ (unhide HD) hDo.not
 have HFIN := hide (show ∀ k, WAtN ((w1.setCell ⟨D, 3, none⟩ vo).drewN k) D f d parts vo nm ∧ StopQ d f base g off cap z B s' v vo (· = D) w ((w1.setCell ⟨D, 3, none⟩ vo).drewN k) ∧ Taken ((w1.setCell ⟨D, 3, none⟩ vo).drewN k) w.heap.size vo (s'.out.drop s.taken) from fun k => ⟨by
  have h9 := blk_set hD1 3 vo
  simpa [World.drewN] using h9, hex2.set hD1 hgD hD4 3 k vo, htk.step (((Step.refl (· = D) w1).setCell (p := ⟨D, 3, none⟩) rfl vo).drewN k) (fun j hj x => by omega)⟩)
 rw [hvo]
 rw [hvo] at HFIN
 generalize (s'.out.drop s.taken).length = no at *
 have k3 := (show w1.cell? ⟨D, 3, none⟩ = some (.slice none 0 0) from blk_cell hD1 3 _ rfl)
 have kf3 := (show w1.frozen? ⟨D, 3, none⟩ = false from blk_free hD1 3)
 clear hex hex2 hD1 htk hvo
 go_wp2_with fail
 go_ret2
 have h := unhide HFIN 0
 rw [World.drewN_zero] at h
 exact ⟨rfl, _, h⟩
end Go.Proofs.YtbpahojchgpdnaaGreatDoor
namespace Go.Bel
open Go Go.RowKit Go.Proofs.YtbpahojchgpdnaaGreatDoor
structure Same (B B' : List Nat) (k : Nat) : Prop extends Sees B B' k where
 all : k + 8 * B'.length = 8 * B.length
theorem Same.drop (B : List Nat) {z : Nat} (hz : z ≤ B.length) : Same B (B.drop z) (8 * z) :=
 ⟨⟨by omega, by simp; omega, fun i hi => by rw [show 8 * z / 8 + i = z + i by omega, List.getElem?_drop]⟩, by simp; omega⟩
variable {B B' : List Nat} {k : Nat}
theorem rSymF_same (h : Same B B' k) (D : Dealt) (p : Nat) : ∀ r j, rSymF D B (p + k) r j = (rSymF D B' p r j).sh k := by
 have hf := h.all
 intro r
 induction r with
 | zero => intro j; rfl
 | succ r ih =>
  intro j
  by_cases hj : p + j < 8 * B'.length
  ·rw [rSymF, rSymF, if_pos hj, if_pos (by omega), h.key (by omega)]
   cases D.tab (keyAt B' p (j + 1)) with
   | some s => simp only [R.sh]; congr 1; omega
   | none => exact ih (j + 1)
  ·rw [rSymF, rSymF, if_neg hj, if_neg (by omega)]; rfl
theorem rSym_same (h : Same B B' k) (D : Dealt) (p : Nat) : rSym D B (p + k) = (rSym D B' p).sh k := rSymF_same h D p _ _
theorem rLens_same (h : Same B B' k) (q s : Nat) (row : List Nat) : rLens B (q + k) s row = (rLens B' q s row).sh k := by
 have hf := h.all
 unfold rLens
 by_cases h1 : s < 16
 ·rw [if_pos h1, if_pos h1]; rfl
 ·rw [if_neg h1, if_neg h1]
  have one : ∀ (n x z : Nat), (if q + k + n ≤ 8 * B.length then R.ok (x, numAt B (q + k) n + z) (q + k + n) else .miss) = (if q + n ≤ 8 * B'.length then R.ok (x, numAt B' q n + z) (q + n) else .miss).sh k := by
   intro n x z
   by_cases h2 : q + n ≤ 8 * B'.length
   ·rw [if_pos h2, if_pos (by omega), h.num h2]
    simp only [R.sh]
    congr 1; omega
   ·rw [if_neg h2, if_neg (by omega)]; rfl
  by_cases h3 : s = 16
  ·rw [if_pos h3, if_pos h3]; exact one 2 _ _
  ·rw [if_neg h3, if_neg h3]
   by_cases h4 : s = 17
   ·rw [if_pos h4, if_pos h4]; exact one 3 _ _
   ·rw [if_neg h4, if_neg h4]; exact one 7 _ _
theorem rRowF_same (h : Same B B' k) (D : Dealt) (n : Nat) : ∀ m p row, rRowF D B n m (p + k) row = (rRowF D B' n m p row).sh k := by
 intro m
 induction m with
 | zero => intro p row; rfl
 | succ m ih =>
  intro p row
  rw [rRowF, rRowF]
  by_cases h1 : n ≤ row.length
  ·rw [if_pos h1, if_pos h1]; rfl
  ·rw [if_neg h1, if_neg h1, rSym_same h D p]
   cases rSym D B' p with
   | no e => rfl
   | miss => rfl
   | ok s q =>
    simp only [R.sh]
    by_cases h3 : s = 16 ∧ row.length = 0
    ·rw [if_pos h3, if_pos h3]
    ·rw [if_neg h3, if_neg h3, rLens_same h q s row]
     cases rLens B' q s row with
     | no e => rfl
     | miss => rfl
     | ok lt q' =>
      simp only [R.sh]
      by_cases h5 : n < row.length + lt.2
      ·rw [if_pos h5, if_pos h5]
      ·rw [if_neg h5, if_neg h5]
       exact ih q' _
theorem rCoding_same (h : Same B B' k) (p : Nat) : rCoding B (p + k) = (rCoding B' p).sh k := by
 have hf := h.all
 unfold rCoding
 by_cases h1 : p + 14 ≤ 8 * B'.length
 ·rw [if_pos h1, if_pos (show p + k + 14 ≤ 8 * B.length by omega)]
  have e1 : numAt B (p + k) 5 = numAt B' p 5 := h.num (by omega)
  have e2 : numAt B (p + k + 5) 5 = numAt B' (p + 5) 5 := by rw [show p + k + 5 = p + 5 + k by omega]; exact h.num (by omega)
  have e3 : numAt B (p + k + 10) 4 = numAt B' (p + 10) 4 := by rw [show p + k + 10 = p + 10 + k by omega]; exact h.num (by omega)
  dsimp only
  rw [e1, e2, e3]
  by_cases h2 : 286 < numAt B' p 5 + 257 ∨ 30 < numAt B' (p + 5) 5 + 1
  ·rw [if_pos h2, if_pos h2]; rfl
  ·rw [if_neg h2, if_neg h2]
   by_cases h3 : p + 14 + 3 * (numAt B' (p + 10) 4 + 4) ≤ 8 * B'.length
   ·rw [if_pos h3, if_pos (show p + k + 14 + 3 * (numAt B' (p + 10) 4 + 4) ≤ 8 * B.length by omega), show p + k + 14 = p + 14 + k by omega, h.firsts h3]
    by_cases h4 : mayB (firstLens B' (p + 14) (numAt B' (p + 10) 4 + 4)) = true
    ·rw [if_pos h4, if_pos h4, show p + 14 + k + 3 * (numAt B' (p + 10) 4 + 4) = p + 14 + 3 * (numAt B' (p + 10) 4 + 4) + k by omega]
     unfold rRow
     rw [rRowF_same h]
     cases rRowF (dealAll (firstLens B' (p + 14) (numAt B' (p + 10) 4 + 4))) B' (numAt B' p 5 + 257 + (numAt B' (p + 5) 5 + 1)) (numAt B' p 5 + 257 + (numAt B' (p + 5) 5 + 1)) (p + 14 + 3 * (numAt B' (p + 10) 4 + 4)) [] with
     | no e => rfl
     | miss => rfl
     | ok row q =>
      simp only [R.sh]
      unfold rDealt
      split <;> rfl
    ·rw [if_neg h4, if_neg h4]; rfl
   ·rw [if_neg h3, if_neg (by omega)]; rfl
 ·rw [if_neg h1, if_neg (by omega)]; rfl
theorem rLength_same (h : Same B B' k) (q c : Nat) : rLength B (q + k) c = (rLength B' q c).sh k := by
 have hf := h.all
 unfold rLength
 by_cases h1 : 285 < c
 ·rw [if_pos h1, if_pos h1]; rfl
 ·rw [if_neg h1, if_neg h1]
  by_cases h2 : c = 285
  ·rw [if_pos h2, if_pos h2]; rfl
  ·rw [if_neg h2, if_neg h2]
   by_cases h3 : c < 265
   ·rw [if_pos h3, if_pos h3]; rfl
   ·rw [if_neg h3, if_neg h3]
    by_cases h4 : q + (c - 261) / 4 ≤ 8 * B'.length
    ·rw [if_pos h4, if_pos (by omega), h.num h4]
     simp only [R.sh]
     congr 1; omega
    ·rw [if_neg h4, if_neg (by omega)]; rfl
theorem rDist_same (h : Same B B' k) (D : Dealt) (q : Nat) : rDist D B (q + k) = (rDist D B' q).sh k := by
 have hf := h.all
 unfold rDist
 rw [rSym_same h D q]
 cases rSym D B' q with
 | no e => rfl
 | miss => rfl
 | ok s q' =>
  simp only [R.sh]
  by_cases h3 : 30 ≤ s
  ·rw [if_pos h3, if_pos h3]
  ·rw [if_neg h3, if_neg h3]
   by_cases h4 : s < 4
   ·rw [if_pos h4, if_pos h4]
   ·rw [if_neg h4, if_neg h4]
    by_cases h5 : q' + (s / 2 - 1) ≤ 8 * B'.length
    ·rw [if_pos h5, if_pos (by omega), h.num h5]
     simp only
     congr 1; omega
    ·rw [if_neg h5, if_neg (by omega)]
theorem gCopy_same (h : Same B B' k) (s : GS) (c q : Nat) : gCopy B (s.sh k) c (q + k) = (gCopy B' s c q).sh k := by
 unfold gCopy
 rw [rLength_same h q c]
 cases rLength B' q c with
 | no e => rfl
 | miss => rfl
 | ok n q1 =>
  simp only [R.sh]
  rw [show (s.sh k).ld = s.ld from rfl, rDist_same h (dealAll s.ld) q1]
  cases rDist (dealAll s.ld) B' q1 with
  | no e => rfl
  | miss => rfl
  | ok dist q2 =>
   simp only [R.sh]
   rw [show (s.sh k).out = s.out from rfl]
   by_cases h3 : s.out.length < dist
   ·rw [if_pos h3, if_pos h3]; rfl
   ·rw [if_neg h3, if_neg h3]; exact gPut_sh s _ _
theorem gSym_same (h : Same B B' k) (s : GS) : gSym B (s.sh k) = (gSym B' s).sh k := by
 unfold gSym
 rw [show (s.sh k).ls = s.ls from rfl, show (s.sh k).p = s.p + k from rfl, rSym_same h (dealAll s.ls) s.p]
 cases rSym (dealAll s.ls) B' s.p with
 | no e => rfl
 | miss => rfl
 | ok c q =>
  simp only [R.sh]
  by_cases h2 : c < 256
  ·rw [if_pos h2, if_pos h2]; exact gPut_sh s _ _
  ·rw [if_neg h2, if_neg h2]
   by_cases h3 : c = 256
   ·rw [if_pos h3, if_pos h3, ended_sh h.whole]; rfl
   ·rw [if_neg h3, if_neg h3]; exact gCopy_same h s c q
theorem gByte_same (h : Same B B' k) (s : GS) : gByte B (s.sh k) = (gByte B' s).sh k := by
 have hf := h.all
 unfold gByte
 rw [show (s.sh k).left = s.left from rfl, show (s.sh k).p = s.p + k from rfl]
 by_cases h1 : s.left = 0
 ·rw [if_pos h1, if_pos h1, ended_sh h.whole]; rfl
 ·rw [if_neg h1, if_neg h1]
  by_cases h2 : s.p + 8 ≤ 8 * B'.length
  ·rw [if_pos h2, if_pos (by omega), h.num h2, show s.p + k + 8 = s.p + 8 + k by omega]
   exact gPut_sh { s with left := s.left - 1 } _ _
  ·rw [if_neg h2, if_neg (by omega)]; rfl
theorem gHead_same (h : Same B B' k) (s : GS) : gHead B (s.sh k) = (gHead B' s).sh k := by
 have hf := h.all
 have h8 := h.whole
 unfold gHead
 rw [show (s.sh k).p = s.p + k from rfl, show (s.sh k).out = s.out from rfl]
 by_cases h1 : s.p + 3 ≤ 8 * B'.length
 ·rw [if_pos h1, if_pos (show s.p + k + 3 ≤ 8 * B.length by omega)]
  have e1 : numAt B (s.p + k + 1) 2 = numAt B' (s.p + 1) 2 := by rw [show s.p + k + 1 = s.p + 1 + k by omega]; exact h.num (by omega)
  have e2 : bitAt B (s.p + k) = bitAt B' s.p := h.bit (by omega)
  rw [e1, e2]
  by_cases h2 : numAt B' (s.p + 1) 2 = 0
  ·rw [if_pos h2, if_pos h2, show (s.p + k + 3 + 7) / 8 * 8 = (s.p + 3 + 7) / 8 * 8 + k by omega]
   by_cases h3 : (s.p + 3 + 7) / 8 * 8 + 32 ≤ 8 * B'.length
   ·rw [if_pos h3, if_pos (show (s.p + 3 + 7) / 8 * 8 + k + 32 ≤ 8 * B.length by omega), show (s.p + 3 + 7) / 8 * 8 + k + 16 = (s.p + 3 + 7) / 8 * 8 + 16 + k by omega, h.num (by omega), h.num (by omega)]
    by_cases h4 : numAt B' ((s.p + 3 + 7) / 8 * 8 + 16) 16 = 65535 - numAt B' ((s.p + 3 + 7) / 8 * 8) 16
    ·rw [if_pos h4, if_pos h4, show (s.p + 3 + 7) / 8 * 8 + k + 32 = (s.p + 3 + 7) / 8 * 8 + 32 + k by omega]; rfl
    ·rw [if_neg h4, if_neg h4]; rfl
   ·rw [if_neg h3, if_neg (by omega)]; rfl
  ·rw [if_neg h2, if_neg h2]
   by_cases h3 : numAt B' (s.p + 1) 2 = 1
   ·rw [if_pos h3, if_pos h3, show s.p + k + 3 = s.p + 3 + k by omega]; rfl
   ·rw [if_neg h3, if_neg h3]
    by_cases h4 : numAt B' (s.p + 1) 2 = 2
    ·rw [if_pos h4, if_pos h4, show s.p + k + 3 = s.p + 3 + k by omega, rCoding_same h (s.p + 3)]
     cases rCoding B' (s.p + 3) with
     | no e => rfl
     | miss => rfl
     | ok ab q => rfl
    ·rw [if_neg h4, if_neg h4]; rfl
 ·rw [if_neg h1, if_neg (by omega)]; rfl
theorem gStep_same (h : Same B B' k) (s : GS) : gStep B (s.sh k) = (gStep B' s).sh k := by
 unfold gStep
 rw [show (s.sh k).place = s.place from rfl]
 by_cases h1 : s.place = 1
 ·rw [if_pos h1, if_pos h1]; exact gByte_same h s
 ·rw [if_neg h1, if_neg h1]
  by_cases h2 : s.place = 2
  ·rw [if_pos h2, if_pos h2]; exact gSym_same h s
  ·rw [if_neg h2, if_neg h2]; exact gHead_same h s
theorem rSymF_no (D : Dealt) (B : List Nat) (p : Nat) : ∀ r j e, rSymF D B p r j = .no e → 5 ≤ e := by
 intro r
 induction r with
 | zero => intro j e h; injection h with h; omega
 | succ r ih =>
  intro j e h
  rw [rSymF] at h
  split at h
  ·split at h
   ·simp at h
   ·exact ih _ _ h
  ·simp at h
theorem rSym_no {D : Dealt} {B : List Nat} {p e : Nat} (h : rSym D B p = .no e) : 5 ≤ e := rSymF_no D B p _ _ e h
theorem rLens_no {B : List Nat} {q s e : Nat} {row : List Nat} (h : rLens B q s row = .no e) : 5 ≤ e := by
 unfold rLens at h
 split at h
 ·simp at h
 ·split at h
  ·split at h <;> simp at h
  ·split at h
   ·split at h <;> simp at h
   ·split at h <;> simp at h
theorem rRowF_no (D : Dealt) (B : List Nat) (n : Nat) : ∀ m p row e, rRowF D B n m p row = .no e → 5 ≤ e := by
 intro m
 induction m with
 | zero => intro p row e h; simp [rRowF] at h
 | succ m ih =>
  intro p row e h
  rw [rRowF] at h
  split at h
  ·simp at h
  ·split at h
   ·rename_i e' h1
    injection h with h
    have := rSym_no h1
    omega
   ·simp at h
   ·split at h
    ·injection h with h; omega
    ·split at h
     ·rename_i e' h1
      injection h with h
      have := rLens_no h1
      omega
     ·simp at h
     ·split at h
      ·injection h with h; omega
      ·exact ih _ _ _ h
theorem rCoding_no {B : List Nat} {p e : Nat} (h : rCoding B p = .no e) : 5 ≤ e := by
 unfold rCoding at h
 split at h
 ·dsimp only at h
  split at h
  ·injection h with h; omega
  ·split at h
   ·split at h
    ·split at h
     ·unfold rDealt at h
      split at h
      ·simp at h
      ·injection h with h; omega
     ·rename_i e' h1
      injection h with h
      have := rRowF_no _ _ _ _ _ _ _ h1
      omega
     ·simp at h
    ·injection h with h; omega
   ·simp at h
 ·simp at h
theorem rLength_no {B : List Nat} {q c e : Nat} (h : rLength B q c = .no e) : 5 ≤ e := by
 unfold rLength at h
 split at h
 ·injection h with h; omega
 ·split at h
  ·simp at h
  ·split at h
   ·simp at h
   ·split at h <;> simp at h
theorem rDist_no {D : Dealt} {B : List Nat} {q e : Nat} (h : rDist D B q = .no e) : 5 ≤ e := by
 unfold rDist at h
 split at h
 ·rename_i e' h1
  injection h with h
  have := rSym_no h1
  omega
 ·simp at h
 ·split at h
  ·injection h with h; omega
  ·split at h
   ·simp at h
   ·split at h <;> simp at h
theorem gPut_no {s : GS} {xs out : List Nat} {p e : Nat} (h : gPut s xs p = .no e out) : 5 ≤ e := by
 unfold gPut at h
 split at h
 ·simp at h
 ·injection h with h; omega
theorem gStep_no {B : List Nat} {s : GS} {e : Nat} {out : List Nat} (h : gStep B s = .no e out) : 5 ≤ e := by
 unfold gStep at h
 split at h
 ·unfold gByte at h
  split at h
  ·simp at h
  ·split at h
   ·exact gPut_no h
   ·simp at h
 ·split at h
  ·unfold gSym at h
   split at h
   ·rename_i e' h1
    injection h with h
    have := rSym_no h1
    omega
   ·simp at h
   ·split at h
    ·exact gPut_no h
    ·split at h
     ·simp at h
     ·unfold gCopy at h
      split at h
      ·rename_i e' h1
       injection h with h
       have := rLength_no h1
       omega
      ·simp at h
      ·split at h
       ·rename_i e' h1
        injection h with h
        have := rDist_no h1
        omega
       ·simp at h
       ·split at h
        ·injection h with h; omega
        ·exact gPut_no h
  ·unfold gHead at h
   split at h
   ·split at h
    ·split at h
     ·split at h
      ·simp at h
      ·injection h with h; omega
     ·simp at h
    ·split at h
     ·simp at h
     ·split at h
      ·split at h
       ·simp at h
       ·rename_i e' h1
        injection h with h
        have := rCoding_no h1
        omega
       ·simp at h
      ·injection h with h; omega
   ·simp at h
theorem run_same (h : Same B B' k) {n e : Nat} {s : GS} {out : List Nat} {q : Nat} (hr : GRun B' n s e out q) : GRun B n (s.sh k) e out (if e = 0 then q + k else 0) := by
 induction hr with
 | done s h3 => exact .done (s.sh k) h3
 | no s e out h3 hs =>
  have he : e ≠ 0 := by have := gStep_no hs; omega
  rw [if_neg he]
  exact .no (s.sh k) e out h3 (by rw [gStep_same h, hs]; rfl)
 | miss s h3 hs => exact .miss (s.sh k) h3 (by rw [gStep_same h, hs]; rfl)
 | go n s s1 e out q h3 hs hk ih => exact .go n (s.sh k) (s1.sh k) e out _ h3 (by rw [gStep_same h, hs]; rfl) ih
end Go.Bel
namespace Go.Proofs.YtbpahojchgpdnaaGreatDoor
open Go.RowKit Go.Bel Go.Maps
theorem gRun_case {B : List Nat} {s : GS} (hp : s.p ≤ 8 * B.length) : (∃ n s', GStop B n s s') ∨ ∃ n e out q, GRun B n s e out q ∧ e ≠ 3 := by
 obtain ⟨n, e, out, q, hr⟩ := gRun_ex B (gLeft B s + 1) s hp (by omega)
 rcases gRun_or hr with ⟨m, s', h, _⟩ | h | ⟨s', x, h⟩
 ·exact .inl ⟨m, s', h⟩
 ·exact .inr ⟨n, e, out, q, hr, h⟩
 ·have := gStep_no h; omega
def InnerK (d f N0 g off cap z : Nat) (Bd : List Nat) (s : GS) (v : Value) (hz : Nat) (e : Nat) (vo : Value) (ys : List Nat) (w' : World) : Prop :=
 (∃ n out q1, e ≠ 3 ∧ GRun Bd n s e out q1 ∧ ys = out.drop s.taken ∧ ∃ q', FeedAt w' f (.slice (fedA g off Bd.length) Bd.length cap) q' z ∧ (e = 0 → q' = q1 ∧ q1 ≤ 8 * Bd.length) ∧ ∃ A, w'.heap[d]? = some (.cells A 128 (0, 0))) ∨
 (e = 3 ∧ ∃ n s' s2 v', GStop Bd n s s' ∧ LastAs s' s2 ∧ ys = s'.out.drop s.taken ∧ HoldsG w' d f N0 g off cap z Bd { s2 with taken := s2.out.length } v' ∧ (∀ k, v'.ownBlock = some k → v.ownBlock = some k ∨ hz ≤ k) ∧ Apart vo v')
theorem InnerK.feed {d f N0 g off cap z : Nat} {Bd : List Nat} {s : GS} {v vo : Value} {hz e : Nat} {ys : List Nat} {w' : World} (h : InnerK d f N0 g off cap z Bd s v hz e vo ys w') : ∃ q', FeedAt w' f (.slice (fedA g off Bd.length) Bd.length cap) q' z := by
 rcases h with ⟨_, _, _, _, _, _, q', h, _⟩ | ⟨_, _, _, s2, _, _, _, _, h, _⟩
 ·exact ⟨q', h⟩
 ·exact ⟨_, h.place.2.2.1⟩
theorem InnerK.other {d f N0 g off cap z : Nat} {Bd : List Nat} {s : GS} {v vo : Value} {hz e : Nat} {ys : List Nat} {w w' : World} {X t : Nat} {A : Array Value} (h : InnerK d f N0 g off cap z Bd s v hz e vo ys w) (hs : Step (· = X) w w') (hb : w.heap[X]? = some (.cells A t (0, 0))) (t1 : t ≠ 128) (t2 : t ≠ 91) (t3 : t ≠ 5) (t4 : t ≠ 125) (hg : g ≠ X) (hX : 4 ≤ X) : InnerK d f N0 g off cap z Bd s v hz e vo ys w' := by
 rcases h with ⟨n, out, q1, he, hr, hy, q', hf, hq, A', hd⟩ | ⟨he, n, s', s2, v', h1, h2, h3, h4, h5, h6⟩
 ·refine .inl ⟨n, out, q1, he, hr, hy, q', hs.at_ hf (fun x => ?_), hq, A', hs.at_ hd (fun x => by
   rw [x, hb] at hd
   simp only [Option.some.injEq, Obj.cells.injEq] at hd
   exact t1 hd.2.1)⟩
  rw [x] at hf
  have h9 := hb.symm.trans hf
  simp only [Option.some.injEq, Obj.cells.injEq] at h9
  exact t2 h9.2.1
 ·exact .inr ⟨he, n, s', s2, v', h1, h2, h3, h4.other hs hb t1 t2 t3 t4 hg hX, h5, h6⟩
theorem InnerK.bytes {d f N0 g off cap z : Nat} {Bd : List Nat} {s : GS} {v vo : Value} {hz e : Nat} {ys : List Nat} {w : World} (h : InnerK d f N0 g off cap z Bd s v hz e vo ys w) (ho : AllB s.out) (h3 : s.place = 3 → s.p % 8 = 0) (hm : s.out.length ≤ s.most) : AllB ys ∧ ys.length ≤ s.most := by
 have key : ∀ {n e : Nat} {out : List Nat} {q : Nat}, GRun Bd n s e out q → AllB (out.drop s.taken) ∧ (out.drop s.taken).length ≤ s.most := fun hr => by
  have h1 := (hr.bytes ho h3).1
  have h2 := hr.most hm
  exact ⟨fun y hy => h1 y (List.mem_of_mem_drop hy), by rw [List.length_drop]; omega⟩
 rcases h with ⟨n, out, q1, he, hr, rfl, _⟩ | ⟨he, n, s', s2, v', h1, h2, rfl, h4, h5⟩
 ·exact key hr
 ·obtain ⟨m, hr⟩ := h1.run
  exact key hr
theorem bareK (D d f N0 g off cap z : Nat) (parts : Value) (nm : ByteArray) (B : List Nat) (s : GS) (v : Value) (w : World) (hD : WAtN w D f d parts (.slice none 0 0) nm) (hDo : DOff d f v D) (hD4 : 4 ≤ D) (hDb : D < N0) (hgD : g ≠ D) (hH : HoldsG w d f N0 g off cap z B s v) :
  Calls Tryz.prog 50 #[.pointer (some ⟨D, 0, none⟩)] w fun r w' => ∃ (e : Nat) (vo : Value) (ys : List Nat), r = .returned (.tuple #[.bool (e == 0), .int .i64 (e : Nat)]) ∧ WAtN w' D f d parts vo nm ∧ Taken w' w.heap.size vo ys ∧ Step (fun k => k = D ∨ k = d ∨ k = f ∨ v.ownBlock = some k) w w' ∧ InnerK d f N0 g off cap z B s v w.heap.size e vo ys w' := by
 rcases gRun_case hH.bits with ⟨n, s', hst⟩ | ⟨n, e, out, q, hr, he⟩
 ·refine (wrapBareS D d f N0 g off cap z n parts nm B s s' v w hD hDo hD4 hgD hH hst).mono ?_
  rintro r w' ⟨rfl, vo, h1, h2, h3⟩
  obtain ⟨s2, v', k1, k2, k3, k4, k5⟩ := h2.ex
  exact ⟨3, vo, _, rfl, h1, h3, k3, .inr ⟨rfl, n, s', s2, v', hst, k1, rfl, k2, k4, k5⟩⟩
 ·refine (wrapBareN_any D d f N0 g off cap z n e parts nm B s out q v w hD hDo hDb hgD hH hr).mono ?_
  rintro r w' ⟨rfl, vo, h1, h2, h3⟩
  obtain ⟨st, q', k1, k2, k3, k4, k5⟩ := h2.ex
  exact ⟨e, vo, _, rfl, h1, h3, k4, .inl ⟨n, out, q, he, hr, rfl, q', k3.feed, k2, _, k3.dec.blk⟩⟩
theorem zBareK (Z D d f first sum : Nat) (parts : Value) (nm : ByteArray) (w : World) (S : Nat → Prop) (K : Nat → Value → List Nat → World → Prop) (hZ : ZAt w Z D first sum) (hSZ : ¬ S Z) (hDZ : D ≠ Z) (hs : sum < 4294967296)
  (hK : ∀ e vo ys w1 w2 A, w1.heap[Z]? = some (.cells A 132 (0, 0)) → Step (· = Z) w1 w2 → K e vo ys w1 → K e vo ys w2)
  (hB : Calls Tryz.prog 50 #[.pointer (some ⟨D, 0, none⟩)] w fun r w' => ∃ (e : Nat) (vo : Value) (ys : List Nat), r = .returned (.tuple #[.bool (e == 0), .int .i64 (e : Nat)]) ∧ WAtN w' D f d parts vo nm ∧ Taken w' w.heap.size vo ys ∧ Step S w w' ∧ AllB ys ∧ ys.length ≤ 1048576 ∧ K e vo ys w') :
  Calls Tryz.prog 77 #[.pointer (some ⟨Z, 0, none⟩)] w fun r w' => ∃ (e : Nat) (vo : Value) (ys : List Nat), r = .returned (.tuple #[.bool (e == 0), .int .i64 (e : Nat)]) ∧ WAtN w' D f d parts vo nm ∧ Taken w' w.heap.size vo ys ∧ Step (fun k => S k ∨ k = Z) w w' ∧ ZAt w' Z D first (adWith sum ys) ∧ K e vo ys w' := by
 have c0 : w.cell? ⟨Z, 0, none⟩ = some (.pointer (some ⟨D, 0, none⟩)) := blk_cell hZ 0 _ rfl
 have hZl := lt_of_block hZ
 have HB := hide hB
 have HZ := hide hZ
 have HK := hide hK
 clear hB hZ hK
 go_enter Tryz.func77, Tryz.ntmps77
 go_wp2_with fail
 refine (unhide HB).mono ?_
 rintro r w1 ⟨e, vo, ys, rfl, hD1, htk, hst, hob, hol, hk⟩
 have hz1 : ZAt w1 Z D first sum := hst.at_ (unhide HZ) hSZ
 have a0 : w1.cell? ⟨Z, 0, none⟩ = some (.pointer (some ⟨D, 0, none⟩)) := blk_cell hz1 0 _ rfl
 have a2 : w1.cell? ⟨Z, 2, none⟩ = some (.int .u32 (sum : Nat)) := blk_cell hz1 2 _ rfl
 have af : w1.frozen? ⟨Z, 2, none⟩ = false := blk_free hz1 2
 obtain ⟨ao, co, hvo⟩ := htk.slice
 have a3 : w1.cell? ⟨D, 3, none⟩ = some vo := blk_cell hD1 3 _ rfl
 have HSW := hide (sumWith_any sum vo ys w1.drew hs (htk.step ((Step.refl (fun _ => False) w1).drew) (fun _ _ x => x)).bytesV hob (by omega))
 have hlt := adWith_lt sum hs ys
 have HFIN := hide (show ∀ k, ∃ (e' : Nat) (vo' : Value) (ys' : List Nat), (.returned (.tuple #[.bool (e == 0), .int .i64 (e : Nat)]) : Ending) = .returned (.tuple #[.bool (e' == 0), .int .i64 (e' : Nat)]) ∧ WAtN ((w1.setCell ⟨Z, 2, none⟩ (.int .u32 (adWith sum ys : Nat))).drewN k) D f d parts vo' nm ∧ Taken ((w1.setCell ⟨Z, 2, none⟩ (.int .u32 (adWith sum ys : Nat))).drewN k) w.heap.size vo' ys' ∧ Step (fun k => S k ∨ k = Z) w ((w1.setCell ⟨Z, 2, none⟩ (.int .u32 (adWith sum ys : Nat))).drewN k) ∧ ZAt ((w1.setCell ⟨Z, 2, none⟩ (.int .u32 (adWith sum ys : Nat))).drewN k) Z D first (adWith sum ys') ∧ K e' vo' ys' ((w1.setCell ⟨Z, 2, none⟩ (.int .u32 (adWith sum ys : Nat))).drewN k) from fun k => by
  have hs2 : Step (· = Z) w1 ((w1.setCell ⟨Z, 2, none⟩ (.int .u32 (adWith sum ys : Nat))).drewN k) := ((Step.refl (· = Z) w1).setCell (p := ⟨Z, 2, none⟩) rfl _).drewN k
  refine ⟨e, vo, ys, rfl, hs2.at_ hD1 hDZ, taken_step htk hs2 (fun k hk x => taken_ne htk hz1 (by decide) (by rw [hk, x])), (hst.mono (fun k x => .inl x)).trans (hs2.mono (fun k x => .inr x)), ?_, unhide HK e vo ys w1 _ _ hz1 hs2 hk⟩
  have h9 := blk_set hz1 2 (.int .u32 (adWith sum ys : Nat))
  simpa [World.drewN] using h9)
 rw [hvo] at a3 HSW
 generalize ys.length = no at *
 clear hz1 hst htk hD1 HB HZ HK hvo hk hob hol
 go_wp2_with fail
 go_region_with
  (first | (go_at_call 92; refine (unhide HSW).mono ?_; rintro e w8 ⟨rfl, rfl⟩))
 all_goals
  go_wp2_with fail
  go_ret2
  exact unhide HFIN 1
theorem gBareK (Z D d f fl left head check size : Nat) (lv : Value) (parts : Value) (nm : ByteArray) (w : World) (S : Nat → Prop) (K : Nat → Value → List Nat → World → Prop) (hZ : GzAt w Z D fl left head lv check size) (hSZ : ¬ S Z) (hDZ : D ≠ Z) (hs : check < 4294967296) (hsz : size ≤ 1048576)
  (hK : ∀ e vo ys w1 w2 A, w1.heap[Z]? = some (.cells A 137 (0, 0)) → Step (· = Z) w1 w2 → K e vo ys w1 → K e vo ys w2)
  (hB : Calls Tryz.prog 50 #[.pointer (some ⟨D, 0, none⟩)] w fun r w' => ∃ (e : Nat) (vo : Value) (ys : List Nat), r = .returned (.tuple #[.bool (e == 0), .int .i64 (e : Nat)]) ∧ WAtN w' D f d parts vo nm ∧ Taken w' w.heap.size vo ys ∧ Step S w w' ∧ AllB ys ∧ ys.length ≤ 1048576 ∧ K e vo ys w') :
  Calls Tryz.prog 87 #[.pointer (some ⟨Z, 0, none⟩)] w fun r w' => ∃ (e : Nat) (vo : Value) (ys : List Nat), r = .returned (.tuple #[.bool (e == 0), .int .i64 (e : Nat)]) ∧ WAtN w' D f d parts vo nm ∧ Taken w' w.heap.size vo ys ∧ Step (fun k => S k ∨ k = Z) w w' ∧ GzAt w' Z D fl left head lv (crcWith check ys) (size + ys.length) ∧ K e vo ys w' := by
 have c0 : w.cell? ⟨Z, 0, none⟩ = some (.pointer (some ⟨D, 0, none⟩)) := blk_cell hZ 0 _ rfl
 have hZl := lt_of_block hZ
 have HB := hide hB
 have HZ := hide hZ
 have HK := hide hK
 clear hB hZ hK
 go_enter Tryz.func87, Tryz.ntmps87
 go_wp2_with fail
 refine (unhide HB).mono ?_
 rintro r w1 ⟨e, vo, ys, rfl, hD1, htk, hst, hob, hol, hk⟩
 have hz1 : GzAt w1 Z D fl left head lv check size := hst.at_ (unhide HZ) hSZ
 have a0 : w1.cell? ⟨Z, 0, none⟩ = some (.pointer (some ⟨D, 0, none⟩)) := blk_cell hz1 0 _ rfl
 have a2 : w1.cell? ⟨Z, 5, none⟩ = some (.int .u32 (check : Nat)) := blk_cell hz1 5 _ rfl
 have af : w1.frozen? ⟨Z, 5, none⟩ = false := blk_free hz1 5
 have a6 : w1.cell? ⟨Z, 6, none⟩ = some (.int .u32 (size : Nat)) := blk_cell hz1 6 _ rfl
 have af6 : w1.frozen? ⟨Z, 6, none⟩ = false := blk_free hz1 6
 obtain ⟨ao, co, hvo⟩ := htk.slice
 have a3 : w1.cell? ⟨D, 3, none⟩ = some vo := blk_cell hD1 3 _ rfl
 have HSW := hide (checkWith_any check vo ys w1.drew hs (htk.step ((Step.refl (fun _ => False) w1).drew) (fun _ _ x => x)).bytesV hob (by omega))
 have hlt := crcWith_lt check ys
 obtain ⟨no, hno⟩ : ∃ no, no = ys.length := ⟨_, rfl⟩
 have HFIN := hide (show ∀ k, ∃ (e' : Nat) (vo' : Value) (ys' : List Nat), (.returned (.tuple #[.bool (e == 0), .int .i64 (e : Nat)]) : Ending) = .returned (.tuple #[.bool (e' == 0), .int .i64 (e' : Nat)]) ∧ WAtN (((w1.setCell ⟨Z, 5, none⟩ (.int .u32 (crcWith check ys : Nat))).setCell ⟨Z, 6, none⟩ (.int .u32 ((size : Int) + (no : Nat)))).drewN k) D f d parts vo' nm ∧ Taken (((w1.setCell ⟨Z, 5, none⟩ (.int .u32 (crcWith check ys : Nat))).setCell ⟨Z, 6, none⟩ (.int .u32 ((size : Int) + (no : Nat)))).drewN k) w.heap.size vo' ys' ∧ Step (fun k => S k ∨ k = Z) w (((w1.setCell ⟨Z, 5, none⟩ (.int .u32 (crcWith check ys : Nat))).setCell ⟨Z, 6, none⟩ (.int .u32 ((size : Int) + (no : Nat)))).drewN k) ∧ GzAt (((w1.setCell ⟨Z, 5, none⟩ (.int .u32 (crcWith check ys : Nat))).setCell ⟨Z, 6, none⟩ (.int .u32 ((size : Int) + (no : Nat)))).drewN k) Z D fl left head lv (crcWith check ys') (size + ys'.length) ∧ K e' vo' ys' (((w1.setCell ⟨Z, 5, none⟩ (.int .u32 (crcWith check ys : Nat))).setCell ⟨Z, 6, none⟩ (.int .u32 ((size : Int) + (no : Nat)))).drewN k) from fun k => by
  have hs2 : Step (· = Z) w1 (((w1.setCell ⟨Z, 5, none⟩ (.int .u32 (crcWith check ys : Nat))).setCell ⟨Z, 6, none⟩ (.int .u32 ((size : Int) + (no : Nat)))).drewN k) := (((Step.refl (· = Z) w1).setCell (p := ⟨Z, 5, none⟩) rfl _).setCell (p := ⟨Z, 6, none⟩) rfl _).drewN k
  refine ⟨e, vo, ys, rfl, hs2.at_ hD1 hDZ, taken_step htk hs2 (fun k hk x => taken_ne htk hz1 (by decide) (by rw [hk, x])), (hst.mono (fun k x => .inl x)).trans (hs2.mono (fun k x => .inr x)), ?_, unhide HK e vo ys w1 _ _ hz1 hs2 hk⟩
  have h8 := blk_set hz1 5 (.int .u32 (crcWith check ys : Nat))
  have h9 := blk_set h8 6 (.int .u32 ((size : Int) + (no : Nat)))
  have e9 : ((size + ys.length : Nat) : Int) = (size : Int) + (no : Nat) := by omega
  unfold GzAt
  rw [e9]
  simpa [World.drewN] using h9)
 rw [← hno] at hvo hol
 have n1 : ¬ D = Z := hDZ
 have n2 : ¬ Z = D := fun x => hDZ x.symm
 have hZ1l := lt_of_block hz1
 have hw32 : IntKind.u32.wrap ((size : Int) + (no : Int)) = (size : Int) + (no : Int) := by rw [IntKind.wrap_u32]; omega
 rw [hvo] at a3 HSW
 clear hno hz1 hst htk hD1 HB HZ HK hvo hk hob
 go_wp2_with fail
 go_region_with
  (first | (go_at_call 94; refine (unhide HSW).mono ?_; rintro e w8 ⟨rfl, rfl⟩))
 all_goals
  go_wp2_with fail
  go_region
  go_wp2_with fail
  go_ret2
  exact unhide HFIN 2
end Go.Proofs.YtbpahojchgpdnaaGreatDoor
