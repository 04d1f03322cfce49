/- Proved here: what the wrapping decoder's New and askedFor do. -/
import Derived.Test.YtbpahojchgpdnaaGreatDoorGTake
set_option maxRecDepth 20000
set_option maxHeartbeats 4000000
namespace Go.Proofs.YtbpahojchgpdnaaGreatDoor
open Go.RowKit Go.Bel Go.Maps
theorem newDecG (f most : Nat) (w : World) :
  Calls Tryz.prog 49 #[.pointer (some ⟨f, 0, none⟩), .int .i64 (most : Nat)] w fun e w' => e = .returned (.pointer (some ⟨w.heap.size, 0, none⟩)) ∧
   w' = w.alloc (.cells #[.pointer (some ⟨f, 0, none⟩), .slice none 0 0, .int .i64 0, .int .i64 (most : Nat), .int .i64 0, .bool false, .int .i64 0, .map none, .int .i64 0, .map none, .int .i64 0, .pointer none] 128) := by
 go_enter Tryz.func49, Tryz.ntmps49
 go_wp2
 go_ret
 exact ⟨rfl, rfl⟩
def asked (most : Int) : Nat := if most < 0 then 0 else if 1048576 < most then 1048576 else most.toNat
theorem asked_le (most : Int) : asked most ≤ 1048576 := by unfold asked; split <;> (try split) <;> omega
theorem askedG (most : Int) (w : World) :
  Calls Tryz.prog 37 #[.int .i64 most] w fun e w' => e = .returned (.int .i64 (asked most : Nat)) ∧ w' = w := by
 by_cases h0 : most < 0
 ·have ha : asked most = 0 := by unfold asked; rw [if_pos h0]
  rw [ha]
  have h1 : max most 0 = 0 := by omega
  go_enter Tryz.func37, Tryz.ntmps37
  go_wp2_with fail
  go_ret
  exact ⟨rfl, rfl⟩
 ·by_cases h2 : 1048576 < most
  ·have ha : asked most = 1048576 := by unfold asked; rw [if_neg h0, if_pos h2]
   rw [ha]
   have h1 : max most 0 = most := by omega
   have h3 : min most 1048576 = 1048576 := by omega
   go_enter Tryz.func37, Tryz.ntmps37
   go_wp2_with fail
   go_ret
   exact ⟨rfl, rfl⟩
  ·have ha : ((asked most : Nat) : Int) = most := by unfold asked; rw [if_neg h0, if_neg h2]; omega
   have h1 : max most 0 = most := by omega
   have h3 : min most 1048576 = most := by omega
   rw [ha]
   go_enter Tryz.func37, Tryz.ntmps37
   go_wp2_with fail
   go_ret
   exact ⟨rfl, rfl⟩
theorem newWrap (f most : Nat) (w : World) :
  Calls Tryz.prog 36 #[.int .i64 0, .pointer (some ⟨f, 0, none⟩), .int .i64 (most : Nat)] w fun e w' => e = .returned (.tuple #[.pointer (some ⟨w.heap.size + 1, 0, none⟩), .int .i64 0]) ∧
   w' = ((w.alloc (.cells #[.pointer (some ⟨f, 0, none⟩), .slice none 0 0, .int .i64 0, .int .i64 (most : Nat), .int .i64 0, .bool false, .int .i64 0, .map none, .int .i64 0, .map none, .int .i64 0, .pointer none] 128)).alloc
    (.cells #[.pointer (some ⟨f, 0, none⟩), .pointer (some ⟨w.heap.size, 0, none⟩), .slice (some ⟨w.heap.size + 1 + 1, 0, none⟩) 1 1, .slice none 0 0, .string ⟨#[]⟩] 96)).alloc
    (.cells #[.func (.func 50) #[.pointer (some ⟨w.heap.size + 1, 0, none⟩)] #[]] 138) := by
 go_enter Tryz.func36, Tryz.ntmps36
 go_wp2_with fail
 refine (newDecG f most _).mono ?_
 rintro e w1 ⟨rfl, hw1⟩
 have hmf : ∀ (fn : Fn) (first cap : Array Value) (w : World), (Instr.makeFunc fn first cap).run Tryz.prog w = .ok (.func fn first cap) w := fun _ _ _ _ => rfl
 go_wp2_with fail
 go_ret2
 exact ⟨rfl, rfl⟩
end Go.Proofs.YtbpahojchgpdnaaGreatDoor
namespace Go.Proofs.YtbpahojchgpdnaaGreatDoor
open Go.RowKit Go.Bel Go.Maps
abbrev WAt (w : World) (D f d : Nat) (parts out : Value) : Prop := w.heap[D]? = some (.cells #[.pointer (some ⟨f, 0, none⟩), .pointer (some ⟨d, 0, none⟩), parts, out, .string ⟨#[]⟩] 96 (0, 0))
theorem RunP.widen {d f base g off cap z e : Nat} {B out : List Nat} {q : Nat} {v : Value} {S S' : Nat → Prop} {w w' : World} (h : RunP d f base g off cap z e B out q v S w w') (hs : ∀ k, S k → S' k) : RunP d f base g off cap z e B out q v S' w w' := by
 obtain ⟨st, q', h1, h2, h3, h5, h6⟩ := h.ex
 exact ⟨st, q', h1, h2, h3, h5.mono (fun k hk => hk.imp (hs k) id), h6⟩
theorem RunP.set {d f base g off cap z e D : Nat} {B out : List Nat} {q : Nat} {v : Value} {w w' : World} (h : RunP d f base g off cap z e B out q v (· = D) w w') (hDo : DOff d f v D) (hDb : D < base) (hgD : g ≠ D) (i n : Nat) (u : Value) : RunP d f base g off cap z e B out q v (· = D) w ((w'.setCell ⟨D, i, none⟩ u).drewN n) := by
 obtain ⟨st, q', h1, h2, h3, h5, h6⟩ := h.ex
 have hs : Step (· = D) w' ((w'.setCell ⟨D, i, none⟩ u).drewN n) := ((Step.refl (· = D) w').setCell (p := ⟨D, i, none⟩) rfl u).drewN n
 have hDr : st.v.ownBlock ≠ some D := fun hx => by have := (h3.dec.own.lt D hx).1; omega
 refine ⟨st, q', h1, h2, ⟨?_, hs.at_ h3.feed (fun x => hDo.f x.symm), h3.src.step hs hgD, h3.goff, Nat.lt_of_lt_of_le h3.glt hs.size⟩, ?_, h6⟩
 ·exact h3.dec.other (hs.block d (lt_of_block h3.dec.blk) (fun x => hDo.d x.symm)) (fun k hk => hs.block k (h3.dec.own.lt k hk).2 (fun x => hDr (x ▸ hk))) hs.size
 ·exact h5.trans (hs.mono (fun k hk => .inl hk))
theorem wrapBare_any (D d f base g off cap z n e : Nat) (parts : Value) (B : List Nat) (s : GS) (out : List Nat) (q : Nat) (v : Value) (w : World) (hD : WAt w D f d parts (.slice none 0 0)) (hDo : DOff d f v D) (hDb : D < base) (hgD : g ≠ D) (hH : HoldsG w d f base g off cap z B s v) (hr : GRun B n s e out q) :
  Calls Tryz.prog 50 #[.pointer (some ⟨D, 0, none⟩)] w fun r w' => r = .returned (.tuple #[.bool (e == 0), .int .i64 (e : Nat)]) ∧ ∃ vo, WAt w' D f d parts vo ∧ RunP d f base g off cap z e B out q v (· = D) w w' ∧ Taken w' w.heap.size vo (out.drop s.taken) := by
 have k1 := (show w.cell? ⟨D, 1, none⟩ = some (.pointer (some ⟨d, 0, none⟩)) from blk_cell hD 1 _ rfl)
 have hrun := takeRun_any d f base g off cap z n e B s out q v w hH hr
 have hDl := lt_of_block hD
 have HR := hide hrun
 have HD := hide hD
 clear hrun hr hH hD
 go_enter Tryz.func50, Tryz.ntmps50
 go_wp2_with fail
 refine (unhide HR).mono ?_
 rintro r w1 ⟨vo, rfl, hex, htk⟩
 obtain ⟨ao, co, hvo⟩ := htk.slice
 have hD1 : WAt w1 D f d parts (.slice none 0 0) := by
  obtain ⟨st, q', h1, h2, h3, h5, h6⟩ := hex.ex
  exact h5.at_ (unhide HD) (fun x => x.elim id hDo.not)
 have HFIN := hide (show ∀ k, WAt ((w1.setCell ⟨D, 3, none⟩ vo).drewN k) D f d parts vo ∧ RunP d f base g off cap z e B out q v (· = D) w ((w1.setCell ⟨D, 3, none⟩ vo).drewN k) ∧ Taken ((w1.setCell ⟨D, 3, none⟩ vo).drewN k) w.heap.size vo (out.drop s.taken) from fun k => ⟨by
  have h9 := blk_set hD1 3 vo
  simpa [World.drewN] using h9, (hex.widen (fun _ x => x.elim)).set hDo hDb hgD 3 k vo, htk.step (((Step.refl (· = D) w1).setCell (p := ⟨D, 3, none⟩) rfl vo).drewN k) (fun j hj x => by omega)⟩)
 rw [hvo]
 rw [hvo] at HFIN
 generalize (out.drop s.taken).length = no at *
 have k3 := (show w1.cell? ⟨D, 3, none⟩ = some (.slice none 0 0) from blk_cell hD1 3 _ rfl)
 have kf3 := (show w1.frozen? ⟨D, 3, none⟩ = false from blk_free hD1 3)
 clear hex hD1 htk hvo
 have heb : ((e : Int) == 0) = (e == 0) := by
  by_cases h : e = 0
  ·subst h; rfl
  ·rw [beq_eq_false_iff_ne.2 (show (e : Int) ≠ 0 by omega), beq_eq_false_iff_ne.2 h]
 go_wp2_with fail
 go_ret2
 have h := unhide HFIN 0
 rw [World.drewN_zero] at h
 exact ⟨rfl, _, h⟩
theorem wrapStep_any (D P d f base g off cap z n e : Nat) (B : List Nat) (s : GS) (out : List Nat) (q : Nat) (v : Value) (w : World) (hD : WAt w D f d (.slice (some ⟨P, 0, none⟩) 1 1) (.slice none 0 0))
  (hP : w.cell? ⟨P, 0, none⟩ = some (.func (.func 50) #[.pointer (some ⟨D, 0, none⟩)] #[])) (hDo : DOff d f v D) (hDb : D < base) (hH : HoldsG w d f base g off cap z B s v) (hr : GRun B n s e out q) (hgD : g ≠ D) :
  Calls Tryz.prog 124 #[.pointer (some ⟨D, 0, none⟩)] w fun r w' => r = .returned (.int .i64 (e : Nat)) ∧ ∃ vo a n c, WAt w' D f d (.slice a n c) vo ∧ (e = 0 → n = 0) ∧ RunP d f base g off cap z e B out q v (· = D) w w' ∧ Taken w' w.heap.size vo (out.drop s.taken) := by
 have k2 := (show w.cell? ⟨D, 2, none⟩ = some (.slice (some ⟨P, 0, none⟩) 1 1) from blk_cell hD 2 _ rfl)
 have hb := wrapBare_any D d f base g off cap z n e _ B s out q v w hD hDo hDb hgD hH hr
 have HB := hide hb
 have hDl := lt_of_block hD
 clear hb hr hH hD
 go_enter Tryz.func124, Tryz.ntmps124
 go_wp2_with fail
 refine (unhide HB).mono ?_
 rintro r w1 ⟨rfl, vo, hD1, hrun, htk⟩
 have k2' := (show w1.cell? ⟨D, 2, none⟩ = some (.slice (some ⟨P, 0, none⟩) 1 1) from blk_cell hD1 2 _ rfl)
 have kf2 := (show w1.frozen? ⟨D, 2, none⟩ = false from blk_free hD1 2)
 by_cases he : e = 0
 ·subst he
  have HX := hide (show ∀ u n, WAt ((w1.setCell ⟨D, 2, none⟩ u).drewN n) D f d u vo ∧ RunP d f base g off cap z 0 B out q v (· = D) w ((w1.setCell ⟨D, 2, none⟩ u).drewN n) ∧ Taken ((w1.setCell ⟨D, 2, none⟩ u).drewN n) w.heap.size vo (out.drop s.taken) from fun u n => ⟨by
   have h9 := blk_set hD1 2 u
   simpa [World.drewN] using h9, hrun.set hDo hDb hgD 2 n u, htk.step (((Step.refl (· = D) w1).setCell (p := ⟨D, 2, none⟩) rfl u).drewN n) (fun j hj x => by omega)⟩)
  clear hrun hD1 HB htk
  go_wp2_with fail
  go_ret
  have h := unhide HX (.slice (some ⟨P, 0, none⟩) 0 0) 0
  rw [World.drewN_zero] at h
  exact ⟨rfl, vo, _, _, ⟨_, h.1⟩, rfl, h.2⟩
 ·have heb : (e == 0) = false := beq_eq_false_iff_ne.2 he
  have HX := hide (And.intro hrun htk)
  have HD1 := hide hD1
  clear hrun hD1 HB htk
  go_wp2_with fail
  go_ret
  exact ⟨rfl, vo, _, _, _, unhide HD1, fun h => absurd h he, unhide HX⟩
structure WRunP (D d f base g off cap z e : Nat) (B : List Nat) (out : List Nat) (q : Nat) (v vo : Value) (w w' : World) : Prop where
 dec : ∃ a n c, WAt w' D f d (.slice a n c) vo ∧ (e = 0 → n = 0)
 run : RunP d f base g off cap z e B out q v (· = D) w w'
theorem wrapWhole_any (D P d f base g off cap z n e : Nat) (B : List Nat) (s : GS) (out : List Nat) (q : Nat) (v : Value) (w : World) (hD : WAt w D f d (.slice (some ⟨P, 0, none⟩) 1 1) (.slice none 0 0))
  (hP : w.cell? ⟨P, 0, none⟩ = some (.func (.func 50) #[.pointer (some ⟨D, 0, none⟩)] #[])) (hDo : DOff d f v D) (hDb : D < base) (hH : HoldsG w d f base g off cap z B s v) (hr : GRun B n s e out q) (hgD : g ≠ D) :
  Calls Tryz.prog 125 #[.pointer (some ⟨f, 0, none⟩), .func (.func 124) #[.pointer (some ⟨D, 0, none⟩)] #[]] w
   fun r w' => r = .returned (.int .i64 (e : Nat)) ∧ ∃ vo, WRunP D d f base g off cap z e B out q v vo w w' ∧ Taken w' w.heap.size vo (out.drop s.taken) := by
 obtain ⟨_, _, hF, hdl, hfl, hgl, hol⟩ := hH.place
 have h0l := hH.zlt
 have hDl := lt_of_block hD
 have hnot : ∀ k, w.heap.size ≤ k → ¬ (k = D ∨ k = d ∨ k = f ∨ v.ownBlock = some k) := fun k hk hx => by
  rcases hx with hx | hx | hx | hx
  ·omega
  ·omega
  ·omega
  ·have := hol k hx; omega
 refine (whole_wrap (z := z) f D s.p _ w (fun w1 r w' => r = .returned (.int .i64 (e : Nat)) ∧ (∃ vo, WRunP D d f base g off cap z e B out q v vo w1 w' ∧ Taken w' w1.heap.size vo (out.drop s.taken)) ∧ ∃ A, w'.heap[w.heap.size + 1]? = some (.cells A 43 (0, 0))) hF ?_ ?_).mono ?_
 ·intro w1 hs hsz hr1
  refine (wrapStep_any D P d f base g off cap z n e B s out q v w1 (hs.at_ hD (fun x => x)) (hs.cell hP (fun x => x)) hDo hDb (hH.step0 hs) hr hgD).mono ?_
  rintro r w' ⟨rfl, vo, a, m, c, hdec, hm, hrun, htk⟩
  obtain ⟨st, q', _, _, _, h5, _⟩ := hrun.ex
  exact ⟨.inl ⟨e, rfl⟩, rfl, ⟨vo, ⟨⟨a, m, c, hdec, hm⟩, hrun⟩, htk⟩, _, h5.at_ hr1 (hnot _ (by omega))⟩
 ·rintro w1 r w' hs hsz ⟨_, ⟨vo, ⟨_, hrun⟩, _⟩, _⟩
  obtain ⟨st, q', _, _, h3, h5, _⟩ := hrun.ex
  exact ⟨h5.block _ (by omega) (hnot _ (by omega)), h5.block _ (by omega) (hnot _ (by omega)), h5.block _ (by omega) (hnot _ (by omega)), q', h3.feed⟩
 ·rintro r w'' ⟨w1, e1, w', hs, hsz, ⟨rfl, ⟨vo, ⟨hdec, hrun⟩, htk⟩, A, hA⟩, hend⟩
  rcases hend with ⟨y, hy, rfl, rfl⟩ | ⟨hy, _⟩
  ·have hyx : y = e := by
    simp only [Ending.returned.injEq, Value.int.injEq, true_and] at hy
    omega
   subst hyx
   obtain ⟨st, q', h1, h2, h3, h5, h6⟩ := hrun.ex
   obtain ⟨a, m, c, hw, hm⟩ := hdec
   have hs2 : Step (fun k => k = f ∨ k = w.heap.size + 1) w' (w'.setCell ⟨w.heap.size + 1, 0, none⟩ (.int .i64 (y : Nat))) := (Step.refl _ w').setCell (p := ⟨w.heap.size + 1, 0, none⟩) (.inr rfl) _
   have hs3 : Step (· = w.heap.size + 1) w' (w'.setCell ⟨w.heap.size + 1, 0, none⟩ (.int .i64 (y : Nat))) := (Step.refl (· = w.heap.size + 1) w').setCell (p := ⟨w.heap.size + 1, 0, none⟩) rfl _
   refine ⟨rfl, vo, ⟨⟨a, m, c, hs3.at_ hw (by omega), hm⟩, st, q', h1, h2, onD_reset h3 hs2 hA (by omega) (hs3.at_ h3.feed (by omega)), ?_, fun k hk => (h6 k hk).imp id (fun hx => by omega)⟩, (htk.step hs3 (fun k hk x => by omega)).mono (by omega)⟩
   ·exact ((hs.mono (fun _ x => x.elim)).trans h5).setNew (by simp) _
  ·cases hy
theorem wrapRun0_any (D P d f base g off cap z n e : Nat) (B : List Nat) (s : GS) (out : List Nat) (q : Nat) (v : Value) (w : World) (hD : WAt w D f d (.slice (some ⟨P, 0, none⟩) 1 1) (.slice none 0 0))
  (hP : w.cell? ⟨P, 0, none⟩ = some (.func (.func 50) #[.pointer (some ⟨D, 0, none⟩)] #[])) (hDo : DOff d f v D) (hDb : D < base) (hH : HoldsG w d f base g off cap z B s v) (hr : GRun B n s e out q) (hgD : g ≠ D) :
  Calls Tryz.prog 90 #[.pointer (some ⟨D, 0, none⟩)] w
   fun r w' => r = .returned (.int .i64 (e : Nat)) ∧ ∃ vo, WRunP D d f base g off cap z e B out q v vo w w' ∧ Taken w' w.heap.size vo (out.drop s.taken) := by
 have hmf : ∀ (fn : Fn) (first cap : Array Value) (w : World), (Instr.makeFunc fn first cap).run Tryz.prog w = .ok (.func fn first cap) w := fun _ _ _ _ => rfl
 have k0 := (show w.cell? ⟨D, 0, none⟩ = some (.pointer (some ⟨f, 0, none⟩)) from blk_cell hD 0 _ rfl)
 have k2 := (show w.cell? ⟨D, 2, none⟩ = some (.slice (some ⟨P, 0, none⟩) 1 1) from blk_cell hD 2 _ rfl)
 have hwh := wrapWhole_any D P d f base g off cap z n e B s out q v w hD hP hDo hDb hH hr hgD
 have HW := hide hwh
 clear hwh hD hP hH hr
 go_enter Tryz.func90, Tryz.ntmps90
 go_wp2_with fail
 go_loopg [4] 1 (fun k u wr => (k = 1 ∧ wr = w) ∨ (k = 0 ∧ e = 0 ∧ ∃ vo, WRunP D d f base g off cap z e B out q v vo w wr ∧ Taken wr w.heap.size vo (out.drop s.taken)))
 case atStart => exact .inl ⟨rfl, rfl⟩
 case round =>
  rcases hrel with ⟨hk, hw⟩ | ⟨hk, he, vo, hw, htk⟩
  ·have hw' := hw.symm
   clear hw
   subst hw'
   go_wp2_with fail
   refine (unhide HW).mono ?_
   rintro r w1 ⟨rfl, hp⟩
   have HPP := hide hp
   clear hp
   by_cases he : e = 0
   ·have heb : ((e : Int) != 0) = false := by rw [bne_eq_false_iff_eq]; omega
    go_wp2_with fail
    go_roundg 0
    case measure => omega
    case rel => exact .inr ⟨rfl, he, unhide HPP⟩
   ·have heb : ((e : Int) != 0) = true := by rw [bne_iff_ne]; omega
    go_wp2_with fail
    go_ret
    exact ⟨rfl, unhide HPP⟩
  ·obtain ⟨a, m, c, hA, hm⟩ := hw.dec
   have hm0 := hm he
   subst hm0
   have k2' := (show wr.cell? ⟨D, 2, none⟩ = some (.slice a 0 c) from blk_cell hA 2 _ rfl)
   have HPP := hide (And.intro hw htk)
   have HE := hide he
   clear hw htk he hA hm HW k0 k2
   go_wp2_with fail
   go_ret
   exact ⟨by rw [unhide HE]; rfl, vo, unhide HPP⟩
theorem wrapRun_any (D P d f base g off cap z n e : Nat) (B : List Nat) (s : GS) (out : List Nat) (q : Nat) (v : Value) (w : World) (hD : WAt w D f d (.slice (some ⟨P, 0, none⟩) 1 1) (.slice none 0 0))
  (hP : w.cell? ⟨P, 0, none⟩ = some (.func (.func 50) #[.pointer (some ⟨D, 0, none⟩)] #[])) (hDo : DOff d f v D) (hDb : D < base) (hH : HoldsG w d f base g off cap z B s v) (hr : GRun B n s e out q) (hgD : g ≠ D) :
  Calls Tryz.prog 53 #[.pointer (some ⟨D, 0, none⟩)] w
   fun r w' => ∃ vo, r = .returned (.tuple #[vo, .int .i64 (e : Nat)]) ∧ WRunP D d f base g off cap z e B out q v (.slice none 0 0) w w' ∧ Taken w' w.heap.size vo (out.drop s.taken) := by
 have hrun := wrapRun0_any D P d f base g off cap z n e B s out q v w hD hP hDo hDb hH hr hgD
 have hDl := lt_of_block hD
 have HR := hide hrun
 clear hrun hr hH hD hP
 go_enter Tryz.func53, Tryz.ntmps53
 go_wp2_with fail
 refine (unhide HR).mono ?_
 rintro r w1 ⟨rfl, vo, hp, htk⟩
 obtain ⟨a, m, c, hA, hm⟩ := hp.dec
 obtain ⟨ao, co, hvo⟩ := htk.slice
 have HFIN := hide (show ∀ k, WRunP D d f base g off cap z e B out q v (.slice none 0 0) w ((w1.setCell ⟨D, 3, none⟩ (.slice none 0 0)).drewN k) ∧ Taken ((w1.setCell ⟨D, 3, none⟩ (.slice none 0 0)).drewN k) w.heap.size vo (out.drop s.taken) from fun k => ⟨⟨⟨a, m, c, by
  have h9 := blk_set hA 3 (.slice none 0 0)
  simpa [World.drewN] using h9, hm⟩, hp.run.set hDo hDb hgD 3 k _⟩, htk.step (((Step.refl (· = D) w1).setCell (p := ⟨D, 3, none⟩) rfl _).drewN k) (fun j hj x => by omega)⟩)
 have k3 := (show w1.cell? ⟨D, 3, none⟩ = some vo from blk_cell hA 3 _ rfl)
 have kf3 := (show w1.frozen? ⟨D, 3, none⟩ = false from blk_free hA 3)
 rw [hvo] at k3 HFIN
 clear hp htk hA hm HR hvo
 generalize (out.drop s.taken).length = no at *
 go_wp2_with fail
 go_ret2
 have h := unhide HFIN 0
 rw [World.drewN_zero] at h
 exact ⟨_, rfl, h⟩
end Go.Proofs.YtbpahojchgpdnaaGreatDoor
namespace Go.Proofs.YtbpahojchgpdnaaGreatDoor
open Go.RowKit Go.Bel Go.Maps
def gInit (most : Nat) : GS := { out := [], most := most, place := 0, last := false, left := 0, ls := [], ld := [], p := 0 }
theorem holdsG_init {w : World} {f d base g off cap z most : Nat} {B : List Nat} (hS : Go.Bel.Src w g off B) (hO : OrderAt w) (hm : most ≤ 1048576) (hg : g < f) (hf0 : 4 ≤ f) (hfd : f < d) (hdb : d < base) (hsz : base ≤ w.heap.size)
  (hF : w.heap[f]? = some (.cells #[.slice (fedA g off B.length) B.length cap, .int .i64 ((0 : Nat) : Int), .int .i64 (z : Nat)] 91 (0, 0)))
  (hD : w.heap[d]? = some (.cells #[.pointer (some ⟨f, 0, none⟩), .slice none 0 0, .int .i64 0, .int .i64 (most : Nat), .int .i64 0, .bool false, .int .i64 0, .map none, .int .i64 0, .map none, .int .i64 0, .pointer none] 128 (0, 0))) :
  HoldsG w d f base g off cap z B (gInit most) (.slice none 0 0) := by
 refine ⟨⟨⟨.slice none 0 0, [], 0, most, 0, false, 0, .map none, 0, .map none, 0, .pointer none⟩, rfl, ⟨⟨hD, World.ownsRow_nil _ _ _ _, by omega, by omega, by omega, by omega⟩, hF, hS, ⟨by omega, by omega, by simp [Value.ownBlock]⟩, by omega⟩, ⟨⟨[], rfl, .inl rfl⟩, rfl, Nat.le_refl _⟩, rfl, rfl, rfl, rfl, ⟨_, rfl⟩, ⟨_, rfl⟩, .inl rfl, fun h => by simp [gInit] at h⟩, hO, ⟨by omega, by omega⟩, by omega, hm, by simp [gInit], by simp [gInit], by simp [gInit]⟩
theorem wrapNameG (D : Nat) (x : ByteArray) (w : World) (hD : w.cell? ⟨D, 4, none⟩ = some (.string x)) :
  Calls Tryz.prog 54 #[.pointer (some ⟨D, 0, none⟩)] w fun e w' => e = .returned (.string x) ∧ w' = w := by
 go_enter Tryz.func54, Tryz.ntmps54
 go_wp2_with fail
 go_ret
 exact ⟨rfl, rfl⟩
def usedG (z e q : Nat) : Nat := if e = 0 then z + (q + 7) / 8 else 0
theorem goOn_any (D P d f base g off cap z n e : Nat) (B : List Nat) (s : GS) (out : List Nat) (q : Nat) (v : Value) (w : World) (hD : WAt w D f d (.slice (some ⟨P, 0, none⟩) 1 1) (.slice none 0 0))
  (hP : w.cell? ⟨P, 0, none⟩ = some (.func (.func 50) #[.pointer (some ⟨D, 0, none⟩)] #[])) (hDo : DOff d f v D) (hDb : D < base) (hH : HoldsG w d f base g off cap z B s v) (hr : GRun B n s e out q) (hgD : g ≠ D) (hz : z ≤ 140737488351232) :
  Calls Tryz.prog 38 #[.pointer (some ⟨D, 0, none⟩), .pointer (some ⟨f, 0, none⟩)] w
   fun r w' => ∃ vo, r = .returned (.agg #[.int .i64 (e : Nat), vo, .int .i64 (usedG z e q : Nat), .string ⟨#[]⟩]) ∧ Taken w' w.heap.size vo (out.drop s.taken) ∧ ∃ w0 w1, Step (fun _ => False) w w0 ∧ WRunP D d f base g off cap z e B out q v (.slice none 0 0) w0 w1 ∧ Step (fun k => w.heap.size ≤ k ∧ k < w0.heap.size) w1 w' := by
 have hmuch : B.length ≤ 140737488351232 := by obtain ⟨st, _, hon, _⟩ := hH.ex; exact hon.src.much
 have HH := hide hH
 have HR := hide hr
 have HD := hide hD
 have HP := hide hP
 have hDl := lt_of_block hD
 clear hr hH hD hP
 go_enter Tryz.func38, Tryz.ntmps38
 go_wp2_with fail
 obtain ⟨R, hR⟩ : ∃ R, R = w.heap.size := ⟨_, rfl⟩
 obtain ⟨w0, hw0⟩ : ∃ w0, w0 = w.alloc (.cells #[.int .i64 0, .slice none 0 0, .int .i64 0, .string ⟨#[]⟩] 45) := ⟨_, rfl⟩
 have hs0 : Step (fun _ => False) w w0 := by rw [hw0]; exact (Step.refl _ _).alloc _
 have hz0 : w0.heap.size = R + 1 := by rw [hw0, hR]; simp
 have hr0 : w0.heap[R]? = some (.cells #[.int .i64 0, .slice none 0 0, .int .i64 0, .string ⟨#[]⟩] 45 (0, 0)) := by rw [hw0, hR]; exact heap_alloc_new _ _
 have hRw : w.heap.size ≤ R := by omega
 have hRe : R ≤ w.heap.size := by omega
 rw [← hw0, ← hR]
 clear hw0 hR
 refine (wrapRun_any D P d f base g off cap z n e B s out q v w0 (hs0.at_ (unhide HD) (fun x => x)) (hs0.cell (unhide HP) (fun x => x)) hDo hDb ((unhide HH).step0 hs0) (unhide HR) hgD).mono ?_
 rintro r w1 ⟨vo, rfl, hp, htk⟩
 obtain ⟨st, q', e1, hq', hon, hst, hown5⟩ := hp.run.ex
 obtain ⟨pa, pn, pc, hDa, _⟩ := hp.dec
 obtain ⟨va, vc, hv⟩ := htk.slice
 have hfd : D ≠ R ∧ d ≠ R ∧ f ≠ R ∧ v.ownBlock ≠ some R := by
  obtain ⟨_, _, _, hdl, hfl, _, hol⟩ := (unhide HH).place
  exact ⟨by omega, by omega, by omega, fun hx => by have := hol R hx; omega⟩
 have hr1 : w1.heap[R]? = some (.cells #[.int .i64 0, .slice none 0 0, .int .i64 0, .string ⟨#[]⟩] 45 (0, 0)) := by
  refine hst.at_ hr0 (fun hx => ?_)
  rcases hx with hx | hx | hx | hx
  ·exact hfd.1 hx.symm
  ·exact hfd.2.1 hx.symm
  ·exact hfd.2.2.1 hx.symm
  ·exact hfd.2.2.2 hx
 have kD4 := (show w1.cell? ⟨D, 4, none⟩ = some (.string ⟨#[]⟩) from blk_cell hDa 4 _ rfl)
 have hz1 := hst.size
 have HRP := hide hp
 have HTK := hide htk
 have HS0 := hide hs0
 have HFE := hide hon.feed
 have HQ := hide hq'
 rw [hv] at HTK
 rw [hv]
 generalize (out.drop s.taken).length = len at *
 have q0 : w1.cell? ⟨R, 0, none⟩ = some (.int .i64 0) := blk_cell hr1 0 _ rfl
 have q1 : w1.cell? ⟨R, 1, none⟩ = some (.slice none 0 0) := blk_cell hr1 1 _ rfl
 have q2 : w1.cell? ⟨R, 2, none⟩ = some (.int .i64 0) := blk_cell hr1 2 _ rfl
 have q3 : w1.cell? ⟨R, 3, none⟩ = some (.string ⟨#[]⟩) := blk_cell hr1 3 _ rfl
 have g0 := blk_free hr1 0
 have g1 := blk_free hr1 1
 have g2 := blk_free hr1 2
 have g3 := blk_free hr1 3
 have hrl := lt_of_block hr1
 have hRS : w.heap.size ≤ R ∧ R < w0.heap.size := ⟨hRw, by omega⟩
 clear hp htk hs0 hon hq' hst hown5 e1 hDa hv hr0 hr1 hfd HH HR HD HP
 go_wp2_with fail
 refine (wrapNameG D ⟨#[]⟩ w1 kD4).mono ?_
 rintro r w2 ⟨rfl, rfl⟩
 by_cases he : e = 0
 ·have he' : ((e : Int) == 0) = true := beq_iff_eq.2 (by omega)
  have hue : usedG z e q = z + (q + 7) / 8 := by unfold usedG; rw [if_pos he]
  obtain ⟨hqq, hq8⟩ := unhide HQ he
  have HUE := hide hue
  have HEE := hide he
  have hfe := unhide HFE
  rw [hqq] at hfe
  have HFE := hide hfe
  clear hue hfe hqq
  go_wp2_with fail
  refine (feedUsed_any f q z _ _ ((Below.heap_alloc _ _ _ (lt_of_block (unhide HFE))).trans (unhide HFE)) (by omega) (by omega)).mono ?_
  rintro r w6 ⟨rfl, k, hw6⟩
  subst hw6
  go_wp2_with fail
  have hfin := (((((((Step.refl (fun k => w.heap.size ≤ k ∧ k < w0.heap.size) w2).alloc (.cells #[.int .i64 0, .slice va len vc, .int .i64 0, .string ⟨#[]⟩] 45)).drewN k).setNew (p := ⟨w2.heap.size, 2, none⟩) (Nat.le_refl _) (.int .i64 ((z : Int) + ((q : Int) + 7) / 8))).setCell (p := ⟨R, 0, none⟩) hRS (.int .i64 0)).setCell (p := ⟨R, 1, none⟩) hRS (.slice va len vc)).setCell (p := ⟨R, 2, none⟩) hRS (.int .i64 ((z : Int) + ((q : Int) + 7) / 8))).setCell (p := ⟨R, 3, none⟩) hRS (.string ⟨#[]⟩)
  refine bodyPost_ret (v := .agg #[.int .i64 0, .slice va len vc, .int .i64 ((z : Int) + ((q : Int) + 7) / 8), .string ⟨#[]⟩]) (by simp [results, Tryz.results38, go_sem, q0, q1, q2, q3, hrl]) rfl ⟨.slice va len vc, ?_, ?_, w0, w2, unhide HS0, unhide HRP, hfin⟩
  ·rw [unhide HUE, unhide HEE]
   have : ((z + (q + 7) / 8 : Nat) : Int) = (z : Int) + ((q : Int) + 7) / 8 := by omega
   rw [this]
   rfl
  ·exact ((unhide HTK).step hfin (fun j hj x => by omega)).mono (by omega)
 ·have he' : ((e : Int) == 0) = false := beq_eq_false_iff_ne.2 (by omega)
  have hue : usedG z e q = 0 := by unfold usedG; rw [if_neg he]
  have HUE := hide hue
  clear hue
  go_wp2_with fail
  have hfin := (((((Step.refl (fun k => w.heap.size ≤ k ∧ k < w0.heap.size) w2).setCell (p := ⟨R, 0, none⟩) hRS (.int .i64 (e : Nat))).setCell (p := ⟨R, 1, none⟩) hRS (.slice va len vc)).setCell (p := ⟨R, 2, none⟩) hRS (.int .i64 0)).setCell (p := ⟨R, 3, none⟩) hRS (.string ⟨#[]⟩)).alloc (.cells #[.int .i64 (e : Nat), .slice va len vc, .int .i64 0, .string ⟨#[]⟩] 45)
  refine bodyPost_ret (v := .agg #[.int .i64 (e : Nat), .slice va len vc, .int .i64 0, .string ⟨#[]⟩]) (by simp [results, Tryz.results38, go_sem, q0, q1, q2, q3, hrl]) rfl ⟨.slice va len vc, ?_, ?_, w0, w2, unhide HS0, unhide HRP, hfin⟩
  ·rw [unhide HUE]; rfl
  ·exact ((unhide HTK).step hfin (fun j hj x => by omega)).mono (by omega)
theorem unpackG (g off cap n e : Nat) (most : Int) (B : List Nat) (out : List Nat) (q : Nat) (w : World) (hS : Go.Bel.Src w g off B) (hg : g < w.heap.size) (hO : OrderAt w) (h4 : 4 ≤ w.heap.size) (hr : GRun B n (gInit (asked most)) e out q) :
  Calls Tryz.prog 25 #[.int .i64 0, .slice (fedA g off B.length) B.length cap, .int .i64 most] w
   fun r w' => ∃ v', r = .returned (.agg #[.int .i64 (e : Nat), v', .int .i64 (usedG 0 e q : Nat), .string ⟨#[]⟩]) ∧ w'.ownsRow w.heap.size 5 1 v' out.length (u8s out) ∧ Step (fun _ => False) w w' := by
 have hmuch := hS.much
 have HR := hide hr
 clear hr
 go_enter Tryz.func25, Tryz.ntmps25
 go_wp2_with fail
 obtain ⟨R, hR⟩ : ∃ R, R = w.heap.size := ⟨_, rfl⟩
 obtain ⟨w1, hw1⟩ : ∃ w1, w1 = w.alloc (.cells #[.int .i64 0, .slice none 0 0, .int .i64 0, .string ⟨#[]⟩] 45) := ⟨_, rfl⟩
 have hs1 : Step (fun _ => False) w w1 := by rw [hw1]; exact (Step.refl _ _).alloc _
 have hz1 : w1.heap.size = R + 1 := by rw [hw1, hR]; simp
 have hr1 : w1.heap[R]? = some (.cells #[.int .i64 0, .slice none 0 0, .int .i64 0, .string ⟨#[]⟩] 45 (0, 0)) := by rw [hw1, hR]; exact heap_alloc_new _ _
 have hRw : w.heap.size ≤ R := by omega
 have hgR : g < R := by omega
 have h0R : 4 ≤ R := by omega
 rw [← hw1, ← hR]
 have hRe : R ≤ w.heap.size := by omega
 clear hw1 hR
 refine (feedNew_any (.slice (fedA g off B.length) B.length cap) w1 ⟨_, _, _, rfl⟩).mono ?_
 rintro e1 w2 ⟨rfl, hw2⟩
 rw [hz1]
 have hz2 : w2.heap.size = R + 1 + 1 := by rw [hw2]; simp [hz1]
 have hs2 : Step (fun _ => False) w1 w2 := by rw [hw2]; exact (Step.refl _ _).alloc _
 have hF2 : w2.heap[R + 1]? = some (.cells #[.slice (fedA g off B.length) B.length cap, .int .i64 ((0 : Nat) : Int), .int .i64 ((0 : Nat) : Int)] 91 (0, 0)) := by rw [hw2, ← hz1]; exact heap_alloc_new _ _
 clear hw2
 go_wp2_with fail
 refine (askedG most w2).mono ?_
 rintro e2 w3 ⟨rfl, rfl⟩
 go_wp2_with fail
 refine (newWrap (R + 1) (asked most) w3).mono ?_
 rintro e2 w4 ⟨rfl, hw4⟩
 rw [hz2] at hw4 ⊢
 have hz4 : w4.heap.size = R + 1 + 4 := by rw [hw4]; simp [hz2]
 have hs4 : Step (fun _ => False) w3 w4 := by rw [hw4]; exact (((Step.refl _ _).alloc _).alloc _).alloc _
 have hd4 : w4.heap[R + 1 + 1]? = some (.cells #[.pointer (some ⟨R + 1, 0, none⟩), .slice none 0 0, .int .i64 0, .int .i64 (asked most : Nat), .int .i64 0, .bool false, .int .i64 0, .map none, .int .i64 0, .map none, .int .i64 0, .pointer none] 128 (0, 0)) := by
  rw [hw4, ← hz2]
  exact (Below.heap_alloc _ _ _ (by simp; omega)).trans ((Below.heap_alloc _ _ _ (by simp)).trans (heap_alloc_new _ _))
 have hD4 : WAt w4 (R + 1 + 1 + 1) (R + 1) (R + 1 + 1) (.slice (some ⟨R + 1 + 1 + 1 + 1, 0, none⟩) 1 1) (.slice none 0 0) := by
  rw [hw4, ← hz2]
  exact (Below.heap_alloc _ _ _ (by simp)).trans (heap_alloc2_new _ _ _)
 have hP4 : w4.cell? ⟨R + 1 + 1 + 1 + 1, 0, none⟩ = some (.func (.func 50) #[.pointer (some ⟨R + 1 + 1 + 1, 0, none⟩)] #[]) := by
  rw [hw4, ← hz2]
  have h9 := heap_alloc_new ((w3.alloc (.cells #[.pointer (some ⟨R + 1, 0, none⟩), .slice none 0 0, .int .i64 0, .int .i64 (asked most : Nat), .int .i64 0, .bool false, .int .i64 0, .map none, .int .i64 0, .map none, .int .i64 0, .pointer none] 128)).alloc (.cells #[.pointer (some ⟨R + 1, 0, none⟩), .pointer (some ⟨w3.heap.size, 0, none⟩), .slice (some ⟨w3.heap.size + 1 + 1, 0, none⟩) 1 1, .slice none 0 0, .string ⟨#[]⟩] 96)) (.cells #[.func (.func 50) #[.pointer (some ⟨w3.heap.size + 1, 0, none⟩)] #[]] 138)
  rw [show ((w3.alloc (.cells #[.pointer (some ⟨R + 1, 0, none⟩), .slice none 0 0, .int .i64 0, .int .i64 (asked most : Nat), .int .i64 0, .bool false, .int .i64 0, .map none, .int .i64 0, .map none, .int .i64 0, .pointer none] 128)).alloc (.cells #[.pointer (some ⟨R + 1, 0, none⟩), .pointer (some ⟨w3.heap.size, 0, none⟩), .slice (some ⟨w3.heap.size + 1 + 1, 0, none⟩) 1 1, .slice none 0 0, .string ⟨#[]⟩] 96)).heap.size = w3.heap.size + 1 + 1 by simp] at h9
  exact cell_of_one h9
 have hs14 := (hs1.trans hs2).trans hs4
 have hH4 := holdsG_init (base := R + 1 + 4) (z := 0) (hS.step hs14 (fun x => x)) (hO.step hs14 (fun _ _ x => x)) (asked_le most) (show g < R + 1 by omega) (by omega) (show R + 1 < R + 1 + 1 by omega) (by omega) (by omega) (hs4.at_ hF2 (fun x => x)) hd4
 have hr4 := (hs2.trans hs4).at_ hr1 (fun x => x)
 have hgo := goOn_any (R + 1 + 1 + 1) (R + 1 + 1 + 1 + 1) (R + 1 + 1) (R + 1) (R + 1 + 4) g off cap 0 n e B _ out q _ w4 hD4 hP4 ⟨by omega, by omega, by simp [Value.ownBlock]⟩ (by omega) hH4 (unhide HR) (by omega) (by omega)
 have HGO := hide hgo
 have HS14 := hide hs14
 clear hw4 hgo hH4 hs14 hs1 hs2 hs4 hF2 hd4 hD4 hP4 hz1 hz2 hr1 HR
 go_wp2_with fail
 refine (unhide HGO).mono ?_
 rintro r w5 ⟨vo, rfl, htk, w6, w7, hs6, hp, hs7⟩
 obtain ⟨st, q', _, _, _, hst, _⟩ := hp.run.ex
 have hz6 := hs6.size
 have hst5 : Step (fun k => R + 1 ≤ k) w4 w5 := by
  refine ((hs6.mono (fun _ x => x.elim)).trans' (hst.mono (S' := fun k => R + 1 ≤ k) (fun k hk => ?_)) (fun _ _ x => x)).trans' hs7 (fun k hk x => ?_)
  ·rcases hk with hk | hk | hk | hk
   ·omega
   ·omega
   ·omega
   ·simp [Value.ownBlock] at hk
  ·have := x.1
   show R + 1 ≤ k
   omega
 obtain ⟨va, vc, hv⟩ := htk.slice
 have hd0 : (gInit (asked most)).taken = 0 := rfl
 rw [hd0, List.drop_zero] at htk hv
 have hr5 := hst5.at_ hr4 (by omega)
 have q0 : w5.cell? ⟨R, 0, none⟩ = some (.int .i64 0) := blk_cell hr5 0 _ rfl
 have q1 : w5.cell? ⟨R, 1, none⟩ = some (.slice none 0 0) := blk_cell hr5 1 _ rfl
 have q2 : w5.cell? ⟨R, 2, none⟩ = some (.int .i64 0) := blk_cell hr5 2 _ rfl
 have q3 : w5.cell? ⟨R, 3, none⟩ = some (.string ⟨#[]⟩) := blk_cell hr5 3 _ rfl
 have g0 := blk_free hr5 0
 have g1 := blk_free hr5 1
 have g2 := blk_free hr5 2
 have g3 := blk_free hr5 3
 have hrl := lt_of_block hr5
 have HTK := hide htk
 have HS5 := hide (show Step (fun _ => False) w w5 from (unhide HS14).trans' hst5 (fun k hk x => by omega))
 rw [hv] at HTK
 rw [hv]
 generalize out.length = len at *
 obtain ⟨us, hus⟩ : ∃ us, us = usedG 0 e q := ⟨_, rfl⟩
 rw [← hus]
 have HUS := hide hus
 clear htk hs6 hp hs7 hst hst5 hv hd0 hr4 hr5 HGO HS14 hus hS hO
 go_wp2_with fail
 have hfin : Step (· = R) w5 ((((w5.setCell ⟨R, 0, none⟩ (.int .i64 (e : Nat))).setCell ⟨R, 1, none⟩ (.slice va len vc)).setCell ⟨R, 2, none⟩ (.int .i64 (us : Nat))).setCell ⟨R, 3, none⟩ (.string ⟨#[]⟩)) :=
  ((((Step.refl (· = R) w5).setCell (p := ⟨R, 0, none⟩) rfl _).setCell (p := ⟨R, 1, none⟩) rfl _).setCell (p := ⟨R, 2, none⟩) rfl _).setCell (p := ⟨R, 3, none⟩) rfl _
 refine bodyPost_ret (v := .agg #[.int .i64 (e : Nat), .slice va len vc, .int .i64 (us : Nat), .string ⟨#[]⟩]) (by simp [results, Tryz.results25, go_sem, q0, q1, q2, q3]) rfl ⟨.slice va len vc, ?_, ?_, ?_⟩
 ·rw [unhide HUS]
 ·exact ((unhide HTK).step hfin (fun j hj x => by omega)).mono (by omega)
 ·exact (unhide HS5).trans' hfin (fun k hk x => by omega)
end Go.Proofs.YtbpahojchgpdnaaGreatDoor
