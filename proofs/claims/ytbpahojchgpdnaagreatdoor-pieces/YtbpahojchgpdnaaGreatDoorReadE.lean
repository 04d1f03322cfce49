/- Said here: a reader in memory, and what it answers; proved: what NewReader makes. -/
import Derived.Test.YtbpahojchgpdnaaGreatDoorReadD
import Derived.Deep.DeepCutAuto
import Derived.Deep.RegionWith
set_option maxRecDepth 20000
set_option maxHeartbeats 4000000
namespace Go.Proofs.YtbpahojchgpdnaaGreatDoor
open Go.RowKit Go.Bel Go.Maps
def rq0 (k most : Nat) : RQ := ⟨0, 0, 0, 0, 6, 0, if k = 1 then 1 else 0, 0, [], [], [], [], gAt most 0⟩
def rAll (k : Nat) (B : List Nat) (most e : Nat) (out : List Nat) (used : Nat) (name : List Nat) : Prop := rRest k B most (rq0 k most) e out used name
structure RLive (k most : Nat) (w : World) (Rb : Nat) (B pre nm : List Nat) (Own : Nat → Prop) (w0 : World) (g off cap f d D X P : Nat) (F : Nat → Value) (q : RQ) (lv v : Value) : Prop where
 rs : RS k w0 f d D X P F
 m : RM0 k w0 w g off cap f d D X B most q lv v
 dec : WAtN w D f d (partsAt P q.i (np k)) (.slice none 0 0) (baOf q.nm)
 rv : RV k B most q
 o : q.o = []
 fed : FedIn w w0.heap.size f g off cap (B.drop q.z)
 bk : Bk k B most (rq0 k most) q
 now : rAll k B most 3 pre 0 nm
 epre : q.pre = pre
 enm : q.nm = nm
 blk : w.heap[Rb]? = some (.cells #[.pointer (some ⟨f, 0, none⟩), .pointer (some ⟨D, 0, none⟩), .int .i64 3, .slice none 0 0, .int .i64 0, .string (baOf nm)] 82 (0, 0))
 rb : w0.heap.size ≤ Rb
 rbo : Rb ≠ g ∧ lv.ownBlock ≠ some Rb ∧ v.ownBlock ≠ some Rb
 own : ∀ j, Own j ↔ 4 ≤ j ∧ (j = Rb ∨ (f ≤ j ∧ j < w0.heap.size) ∨ j = g ∨ lv.ownBlock = some j ∨ v.ownBlock = some j)
structure RDead (k most : Nat) (w : World) (Rb : Nat) (B pre : List Nat) (e used : Nat) (nm : List Nat) (Own : Nat → Prop) : Prop where
 blk : w.heap[Rb]? = some (.cells #[.pointer none, .pointer none, .int .i64 (e : Nat), .slice none 0 0, .int .i64 (used : Nat), .string (baOf nm)] 82 (0, 0))
 e3 : e ≠ 3
 all : ∀ Y, rAll k (B ++ Y) most e pre used nm
 own : ∀ j, Own j ↔ j = Rb
 rb4 : 4 ≤ Rb
def Rd (k most : Nat) (w : World) (Rb : Nat) (B pre : List Nat) (e used : Nat) (nm : List Nat) (Own : Nat → Prop) : Prop :=
 (e = 3 ∧ used = 0 ∧ ∃ w0 g off cap f d D X P F q lv v, RLive k most w Rb B pre nm Own w0 g off cap f d D X P F q lv v) ∨ RDead k most w Rb B pre e used nm Own
variable {k most : Nat} {w w' : World} {Rb : Nat} {B pre : List Nat} {e used : Nat} {nm : List Nat} {Own : Nat → Prop}
theorem Rd.answer (h : Rd k most w Rb B pre e used nm Own) : rAll k B most e pre used nm := by
 rcases h with ⟨rfl, rfl, _, _, _, _, _, _, _, _, _, _, _, _, _, h⟩ | h
 ·exact h.now
 ·have := h.all []
  rw [List.append_nil] at this
  exact this
theorem Rd.blk (h : Rd k most w Rb B pre e used nm Own) : ∃ a b, w.heap[Rb]? = some (.cells #[.pointer a, .pointer b, .int .i64 (e : Nat), .slice none 0 0, .int .i64 (used : Nat), .string (baOf nm)] 82 (0, 0)) := by
 rcases h with ⟨rfl, rfl, _, _, _, _, _, _, _, _, _, _, _, _, _, h⟩ | h
 ·exact ⟨_, _, h.blk⟩
 ·exact ⟨_, _, h.blk⟩
theorem Rd.lt (h : Rd k most w Rb B pre e used nm Own) {j : Nat} (hj : Own j) : 4 ≤ j ∧ j < w.heap.size := by
 rcases h with ⟨rfl, rfl, _, _, _, _, _, _, _, _, _, _, _, _, _, h⟩ | h
 ·obtain ⟨h4, y⟩ := (h.own j).1 hj
  have := h.m.big
  refine ⟨h4, ?_⟩
  rcases y with y | y | y | y | y
  ·rw [y]; exact lt_of_block h.blk
  ·omega
  ·rw [y]; exact h.m.glt
  ·exact (h.m.lets.lt j y).2
  ·exact (h.m.vown j y).2.1
 ·rw [(h.own j).1 hj]
  exact ⟨h.rb4, lt_of_block h.blk⟩
theorem Rd.mem (h : Rd k most w Rb B pre e used nm Own) : Own Rb := by
 rcases h with ⟨rfl, rfl, _, _, _, _, _, _, _, _, _, _, _, _, _, h⟩ | h
 ·refine (h.own Rb).2 ⟨?_, .inl rfl⟩
  have := h.rb; have := h.rs.f4; have := h.rs.fd; have := h.rs.dD; have := h.rs.DP; have := h.rs.PN
  omega
 ·exact (h.own Rb).2 rfl
theorem Rd.frame (h : Rd k most w Rb B pre e used nm Own) {S : Nat → Prop} (hs : Step S w w') (hS : ∀ j, S j → j < w.heap.size → 4 ≤ j ∧ ¬ Own j ∧ PlainB w j) : Rd k most w' Rb B pre e used nm Own := by
 have hRb : ¬ S Rb := fun x => (hS Rb x (h.lt h.mem).2).2.1 h.mem
 rcases h with ⟨rfl, rfl, w0, g, off, cap, f, d, D, X, P, F, q, lv, v, h⟩ | h
 ·have c1 := h.rs.f4; have c2 := h.rs.fd; have c3 := h.rs.dD; have c4 := h.rs.DP; have c5 := h.rs.PN
  have hb := h.m.big
  have no : ∀ j, S j → j < w.heap.size → 4 ≤ j ∧ ¬ (f ≤ j ∧ j < w0.heap.size) ∧ j ≠ g ∧ lv.ownBlock ≠ some j ∧ v.ownBlock ≠ some j ∧ PlainB w j := fun j hj hl => by
   obtain ⟨a, b, c⟩ := hS j hj hl
   have b' : ¬ (j = Rb ∨ (f ≤ j ∧ j < w0.heap.size) ∨ j = g ∨ lv.ownBlock = some j ∨ v.ownBlock = some j) := fun y => b ((h.own j).2 ⟨a, y⟩)
   exact ⟨a, fun y => b' (.inr (.inl y)), fun y => b' (.inr (.inr (.inl y))), fun y => b' (.inr (.inr (.inr (.inl y)))), fun y => b' (.inr (.inr (.inr (.inr y)))), c⟩
  have hm := h.m.frame h.rs hs no
  refine .inl ⟨rfl, rfl, w0, g, off, cap, f, d, D, X, P, F, q, lv, v, h.rs, hm, hs.at_ h.dec (fun x => (no D x (by omega)).2.1 ⟨by omega, by omega⟩), h.rv, h.o, ⟨hm.src, hm.gin, hm.glt, h.fed.capn, h.fed.le, h.fed.offb⟩, h.bk, h.now, h.epre, h.enm, hs.at_ h.blk hRb, h.rb, h.rbo, h.own⟩
 ·exact .inr ⟨hs.at_ h.blk hRb, h.e3, h.all, h.own, h.rb4⟩
structure NewK (k most : Nat) (w w' : World) (f d D X P : Nat) (F : Nat → Value) : Prop where
 rs : RS k w' f d D X P F
 dec : w'.heap[d]? = some (freshD f most)
 wrap : WAtN w' D f d (partsAt P 0 (np k)) (.slice none 0 0) (baOf [])
 xat : XwAt k w' X D (rq0 k most) (.slice none 0 0)
 step : Step (fun _ => False) w w'
 low : w.heap.size ≤ d
theorem newK (k f most : Nat) (w : World) (hk : k ≤ 2) (hf : 4 ≤ f) (hfl : f < w.heap.size) :
  Calls Tryz.prog 36 #[.int .i64 (k : Nat), .pointer (some ⟨f, 0, none⟩), .int .i64 (most : Nat)] w fun e w' => ∃ d D X P F, e = .returned (.tuple #[.pointer (some ⟨D, 0, none⟩), .int .i64 0]) ∧ NewK k most w w' f d D X P F := by
 have hc : k = 0 ∨ k = 1 ∨ k = 2 := by omega
 rcases hc with rfl | rfl | rfl
 ·refine (newWrap f most w).mono ?_
  rintro e w' ⟨rfl, hw⟩
  have hs : Step (fun _ => False) w w' := by rw [hw]; exact (((Step.refl _ _).alloc _).alloc _).alloc _
  have hz : w'.heap.size = w.heap.size + 3 := by rw [hw]; simp
  have h0 : w'.heap[w.heap.size]? = some (freshD f most) := by
   rw [hw]
   exact ((Below.heap_alloc _ _ _ (by simp; omega)).trans (Below.heap_alloc _ _ _ (by simp))).trans (heap_alloc_new _ _)
  have h1 : w'.heap[w.heap.size + 1]? = some (.cells #[.pointer (some ⟨f, 0, none⟩), .pointer (some ⟨w.heap.size, 0, none⟩), .slice (some ⟨w.heap.size + 1 + 1, 0, none⟩) 1 1, .slice none 0 0, .string ⟨#[]⟩] 96 (0, 0)) := by
   rw [hw]
   refine (Below.heap_alloc _ _ _ (by simp)).trans ?_
   have h9 := heap_alloc_new (w.alloc (.cells #[.pointer (some ⟨f, 0, none⟩), .slice none 0 0, .int .i64 0, .int .i64 (most : Nat), .int .i64 0, .bool false, .int .i64 0, .map none, .int .i64 0, .map none, .int .i64 0, .pointer none] 128)) (.cells #[.pointer (some ⟨f, 0, none⟩), .pointer (some ⟨w.heap.size, 0, none⟩), .slice (some ⟨w.heap.size + 1 + 1, 0, none⟩) 1 1, .slice none 0 0, .string ⟨#[]⟩] 96)
   simpa using h9
  have h2 : w'.heap[w.heap.size + 2]? = some (.cells #[.func (.func 50) #[.pointer (some ⟨w.heap.size + 1, 0, none⟩)] #[]] 138 (0, 0)) := by
   rw [hw]
   have h9 := heap_alloc_new ((w.alloc (.cells #[.pointer (some ⟨f, 0, none⟩), .slice none 0 0, .int .i64 0, .int .i64 (most : Nat), .int .i64 0, .bool false, .int .i64 0, .map none, .int .i64 0, .map none, .int .i64 0, .pointer none] 128)).alloc (.cells #[.pointer (some ⟨f, 0, none⟩), .pointer (some ⟨w.heap.size, 0, none⟩), .slice (some ⟨w.heap.size + 1 + 1, 0, none⟩) 1 1, .slice none 0 0, .string ⟨#[]⟩] 96)) (.cells #[.func (.func 50) #[.pointer (some ⟨w.heap.size + 1, 0, none⟩)] #[]] 138)
   simpa using h9
  refine ⟨w.heap.size, w.heap.size + 1, w.heap.size + 1, w.heap.size + 2, fun _ => .func (.func 50) #[.pointer (some ⟨w.heap.size + 1, 0, none⟩)] #[], rfl, ⟨by omega, hf, by omega, by omega, by omega, by omega, fun _ => rfl, fun y => absurd rfl y, fun j hj => ?_, rfl⟩, h0, h1, trivial, hs, Nat.le_refl _⟩
  have e0 : np 0 = 1 := rfl
  obtain rfl : j = 0 := by omega
  exact blk_cell h2 0 _ rfl
 ·refine (newWrapZ f most w).mono ?_
  rintro e w' ⟨rfl, h⟩
  have h1 := h.size
  exact ⟨w.heap.size, w.heap.size + 1, w.heap.size + 2, w.heap.size + 3, zPart (w.heap.size + 2), rfl, ⟨by omega, hf, by omega, by omega, by omega, by omega, fun y => by omega, fun _ => ⟨by omega, by omega⟩, h.parts, fun j _ => rfl⟩, h.dec, h.wrap, h.kept, h.step, Nat.le_refl _⟩
 ·refine (newWrapG f most w).mono ?_
  rintro e w' ⟨rfl, P, F, h, hG⟩
  have h1 := h.size
  have h2 := h.lt
  exact ⟨w.heap.size, w.heap.size + 1, w.heap.size + 2, P, F, rfl, ⟨by omega, hf, by omega, by omega, by omega, by omega, fun y => by omega, fun _ => ⟨by omega, by omega⟩, h.parts, hG⟩, h.dec, h.wrap, h.kept, h.step, Nat.le_refl _⟩
theorem rAll_none (k most : Nat) (hk : k ≤ 2) : rAll k [] most 3 [] 0 [] := by
 have hc : k = 0 ∨ k = 1 ∨ k = 2 := by omega
 unfold rAll rRest
 rcases hc with rfl | rfl | rfl
 ·rw [if_pos rfl]
  refine ⟨_, 3, [], 0, .miss _ (by show (0 : Nat) ≠ 3; omega) ?_, by rw [if_neg (by omega)]; exact ⟨rfl, rfl, rfl, rfl⟩⟩
  rfl
 ·rw [if_neg (show ¬ (rq0 1 most).i = bi 1 from (by decide : ¬ (0 : Nat) = bi 1)), if_neg (by omega), if_pos rfl]
  refine ⟨⟨rfl, ?_⟩, rfl⟩
  unfold zAll
  rw [if_neg (by simp)]
  exact ⟨rfl, rfl, rfl⟩
 ·rw [if_neg (show ¬ (rq0 2 most).i = bi 2 from (by decide : ¬ (0 : Nat) = bi 2)), if_neg (by omega), if_neg (by omega)]
  refine ⟨rfl, ?_⟩
  unfold gzAll gzMark
  rw [if_neg (by simp)]
  exact ⟨rfl, rfl, rfl, rfl⟩
theorem RV.start (k most : Nat) : RV k [] most (rq0 k most) := by
 have hb : bi k < np k := bi_lt k
 refine ⟨fun y hy => by simp [rq0] at hy, by simp [rq0], fun e => ?_, fun e => ?_, fun y => by have y : bi k < 0 := y; omega, fun _ => ⟨rfl, rfl⟩, Nat.zero_le _, fun _ => ⟨by show (0 : Nat) ≠ 3; omega, rfl, rfl, rfl⟩, fun _ y => by have y : 1 ≤ 0 := y; omega, fun _ _ => rfl, fun _ _ => rfl, fun _ => ?_, fun _ => ⟨rfl, rfl⟩, by show (0 : Nat) < _; omega⟩
 ·subst e
  simp [rq0, adWith, adFold]
 ·subst e
  simp [rq0, crcWith, crcFold]
 ·exact ⟨fun _ => ⟨rfl, by simp [RQ.g, rq0, crcWith, crcFold]⟩, fun y => by have y : 4 ≤ 0 := y; omega, by show (6 : Nat) < 65536; omega, fun _ => rfl, fun y hy => by simp [RQ.g, rq0] at hy, Nat.le_refl _, fun _ => rfl, fun _ => rfl, fun _ => rfl⟩
theorem NewK.live {k most : Nat} {w w4 w5 : World} {f d D X P : Nat} {F : Nat → Value} (h : NewK k most w w4 f d D X P F) (hO : OrderAt w5) (hF : FeedAt w5 f (.slice none 0 0) 0 0) (hs : Step (fun _ => False) w4 w5) {Rb : Nat} (hb : w4.heap.size ≤ Rb) (hR : w5.heap[Rb]? = some (.cells #[.pointer (some ⟨f, 0, none⟩), .pointer (some ⟨D, 0, none⟩), .int .i64 3, .slice none 0 0, .int .i64 0, .string (baOf [])] 82 (0, 0))) :
  Rd k most w5 Rb [] [] 3 0 [] (fun j => 4 ≤ j ∧ (j = Rb ∨ (f ≤ j ∧ j < w4.heap.size))) := by
 have c1 := h.rs.f4; have c2 := h.rs.fd; have c3 := h.rs.dD; have c4 := h.rs.DP; have c5 := h.rs.PN
 have hz := hs.size
 have hsrc : Go.Bel.Src w5 0 4611686018427387904 [] := ⟨fun i hi => by simp at hi, fun i => by simp, by simp⟩
 refine .inl ⟨rfl, rfl, w4, 0, 4611686018427387904, 0, f, d, D, X, P, F, rq0 k most, .slice none 0 0, .slice none 0 0, h.rs, ⟨fun a _ _ a3 => hs.block a a3 (fun x => x), hsrc, .inl (by omega), by omega, hO, h.xat.step hs (fun _ x => x), World.ownsRow_nil _ _ _ _, fun _ => rfl, ?_, hz, fun _ => ⟨hs.at_ h.dec (fun x => x), rfl⟩, fun _ => .inl ⟨hs.at_ h.dec (fun x => x), rfl, rfl, rfl, rfl⟩, fun j hj => by simp [Value.ownBlock] at hj, fun _ => rfl, Nat.le_refl _, Nat.le_refl _, _, hs.at_ h.dec (fun x => x)⟩, hs.at_ h.wrap (fun x => x), RV.start k most, rfl, ⟨hsrc, .inl (by omega), by omega, fun _ => rfl, Nat.le_refl _, .inr rfl⟩, fun _ _ _ _ _ x => x, rAll_none k most h.rs.kk, rfl, rfl, hR, hb, ⟨by omega, by simp [Value.ownBlock], by simp [Value.ownBlock]⟩, fun j => ?_⟩
 ·show FeedAt w5 f (.slice (fedA 0 4611686018427387904 0) 0 0) 0 0
  rw [fedA_none]
  exact hF
 ·have e1 : ∀ j, ¬ (Value.slice none 0 0).ownBlock = some j := fun j hj => by simp [Value.ownBlock] at hj
  constructor
  ·rintro ⟨a, b | b⟩
   ·exact ⟨a, .inl b⟩
   ·exact ⟨a, .inr (.inl b)⟩
  ·rintro ⟨a, b | b | b | b | b⟩
   ·exact ⟨a, .inl b⟩
   ·exact ⟨a, .inr b⟩
   ·omega
   ·exact absurd b (e1 j)
   ·exact absurd b (e1 j)
theorem newReader_ok (k : Nat) (most : Int) (w : World) (hk : k ≤ 2) (hO : OrderAt w) (h4 : 4 ≤ w.heap.size) :
  Calls Tryz.prog 28 #[.int .i64 (k : Nat), .int .i64 most] w fun r w' => ∃ Rb Own, r = .returned (.tuple #[.pointer (some ⟨Rb, 0, none⟩), .int .i64 0]) ∧ Rd k (asked most) w' Rb [] [] 3 0 [] Own ∧ (∀ j, Own j → w.heap.size ≤ j) ∧ Step (fun _ => False) w w' := by
 have HNEW := hide (fun f w3 h1 h2 => newK k f (asked most) w3 hk h1 h2)
 have HO := hide hO
 clear hO
 go_enter Tryz.func28, Tryz.ntmps28
 go_wp2_with fail
 refine (feedNew_any (.slice none 0 0) w ⟨_, _, _, rfl⟩).mono ?_
 rintro e1 w2 ⟨rfl, hw2⟩
 have hz2 : w2.heap.size = w.heap.size + 1 := by rw [hw2]; simp
 have hs2 : Step (fun _ => False) w w2 := by rw [hw2]; exact (Step.refl _ _).alloc _
 have hF2 : FeedAt w2 w.heap.size (.slice none 0 0) 0 0 := by rw [hw2]; exact heap_alloc_new _ _
 clear hw2
 obtain ⟨f, hf⟩ : ∃ f, f = w.heap.size := ⟨_, rfl⟩
 rw [← hf] at hF2 ⊢
 have hfw : w.heap.size ≤ f := by omega
 have hfw2 : f < w2.heap.size := by omega
 have hf4 : 4 ≤ f := by omega
 clear hf hz2
 go_wp2_with fail
 refine (askedG most w2).mono ?_
 rintro e2 w3 ⟨rfl, rfl⟩
 go_wp2_with fail
 refine (unhide HNEW f w3 hf4 hfw2).mono ?_
 rintro e2 w4 ⟨d, D, X, P, F, rfl, hN⟩
 have hs4 := hN.step
 have hz4 := hs4.size
 have HF := hide (hs4.at_ hF2 (fun x => x))
 have HN := hide hN
 have HS := hide (hs2.trans hs4)
 clear hF2 hN hs2 hs4 HNEW
 go_wp2_with fail
 go_ret2
 have hs5 := (Step.refl (fun _ => False) w4).alloc (.cells #[.pointer (some ⟨f, 0, none⟩), .pointer (some ⟨D, 0, none⟩), .int .i64 3, .slice none 0 0, .int .i64 0, .string ⟨#[]⟩] 82)
 refine ⟨w4.heap.size, _, rfl, (unhide HN).live ((unhide HO).step ((unhide HS).trans hs5) (fun _ _ x => x)) (hs5.at_ (unhide HF) (fun x => x)) hs5 (Nat.le_refl _) (heap_alloc_new _ _), fun j hj => ?_, (unhide HS).trans hs5⟩
 rcases hj with ⟨_, y | y⟩ <;> omega
end Go.Proofs.YtbpahojchgpdnaaGreatDoor
namespace Go.Proofs.YtbpahojchgpdnaaGreatDoor
open Go.RowKit Go.Bel Go.Maps
abbrev RdB (w : World) (Rb : Nat) (a b : Option Addr) (e : Int) (u : Int) (nm : ByteArray) : Prop := w.heap[Rb]? = some (.cells #[.pointer a, .pointer b, .int .i64 e, .slice none 0 0, .int .i64 u, .string nm] 82 (0, 0))
theorem keep_end (w : World) (Rb f D : Nat) (e0 u0 : Int) (n0 nmb : ByteArray) (va : Option Addr) (len vc : Nat) (hb : RdB w Rb (some ⟨f, 0, none⟩) (some ⟨D, 0, none⟩) e0 u0 n0) (Q : World → World → Prop)
  (hQ : ∀ w1, Step (· = Rb) w w1 → RdB w1 Rb (some ⟨f, 0, none⟩) (some ⟨D, 0, none⟩) 3 0 nmb → Calls Tryz.prog 65 #[.pointer (some ⟨f, 0, none⟩)] w1 fun r w' => r = .returned (.tuple #[]) ∧ Q w1 w') :
  Calls Tryz.prog 42 #[.pointer (some ⟨Rb, 0, none⟩), .agg #[.int .i64 3, .slice va len vc, .int .i64 0, .string nmb]] w fun r w' => r = .returned (.tuple #[]) ∧ ∃ w1, Step (· = Rb) w w1 ∧ RdB w1 Rb (some ⟨f, 0, none⟩) (some ⟨D, 0, none⟩) 3 0 nmb ∧ Q w1 w' := by
 have hl := lt_of_block hb
 have c0 := blk_cell hb 0 _ rfl
 have c1 := blk_cell hb 1 _ rfl
 have c2 := blk_cell hb 2 _ rfl
 have c3 := blk_cell hb 3 _ rfl
 have c4 := blk_cell hb 4 _ rfl
 have c5 := blk_cell hb 5 _ rfl
 have g2 := blk_free hb 2
 have g3 := blk_free hb 3
 have g4 := blk_free hb 4
 have g5 := blk_free hb 5
 have HQ := hide hQ
 have hstep := ((((Step.refl (· = Rb) w).setCell (p := ⟨Rb, 2, none⟩) rfl (.int .i64 3)).setCell (p := ⟨Rb, 3, none⟩) rfl (.slice none 0 0)).setCell (p := ⟨Rb, 4, none⟩) rfl (.int .i64 0)).setCell (p := ⟨Rb, 5, none⟩) rfl (.string nmb)
 have hblk := blk_set (blk_set (blk_set (blk_set hb 2 (.int .i64 3)) 3 (.slice none 0 0)) 4 (.int .i64 0)) 5 (.string nmb)
 simp only [Array.set!_eq_setIfInBounds, List.setIfInBounds_toArray, List.set] at hblk
 have HFIN := hide (show ∀ o, Step (· = Rb) w (((((w.setCell ⟨Rb, 2, none⟩ (.int .i64 3)).setCell ⟨Rb, 3, none⟩ (.slice none 0 0)).setCell ⟨Rb, 4, none⟩ (.int .i64 0)).setCell ⟨Rb, 5, none⟩ (.string nmb)).alloc o) ∧ RdB (((((w.setCell ⟨Rb, 2, none⟩ (.int .i64 3)).setCell ⟨Rb, 3, none⟩ (.slice none 0 0)).setCell ⟨Rb, 4, none⟩ (.int .i64 0)).setCell ⟨Rb, 5, none⟩ (.string nmb)).alloc o) Rb (some ⟨f, 0, none⟩) (some ⟨D, 0, none⟩) 3 0 nmb from fun o => ⟨hstep.alloc o, ((Step.refl (fun _ => False) _).alloc o).at_ hblk (fun x => x)⟩)
 clear hQ hb hstep hblk
 go_enter Tryz.func42, Tryz.ntmps42
 go_wp2_with fail
 refine (unhide HQ _ (unhide HFIN _).1 (unhide HFIN _).2).mono ?_
 rintro r w' ⟨rfl, hq⟩
 have HQQ := hide hq
 clear hq HQ
 go_wp2_with fail
 go_end0
 exact ⟨rfl, _, (unhide HFIN _).1, (unhide HFIN _).2, unhide HQQ⟩
theorem keep_dead (w : World) (Rb e used : Nat) (a b : Option Addr) (e0 u0 : Int) (n0 nmb : ByteArray) (va : Option Addr) (len vc : Nat) (he : e ≠ 3) (hb : RdB w Rb a b e0 u0 n0) :
  Calls Tryz.prog 42 #[.pointer (some ⟨Rb, 0, none⟩), .agg #[.int .i64 (e : Nat), .slice va len vc, .int .i64 (used : Nat), .string nmb]] w fun r w' => r = .returned (.tuple #[]) ∧ Step (· = Rb) w w' ∧ RdB w' Rb none none (e : Nat) (used : Nat) nmb := by
 have hl := lt_of_block hb
 have c0 := blk_cell hb 0 _ rfl
 have c1 := blk_cell hb 1 _ rfl
 have c2 := blk_cell hb 2 _ rfl
 have c3 := blk_cell hb 3 _ rfl
 have c4 := blk_cell hb 4 _ rfl
 have c5 := blk_cell hb 5 _ rfl
 have g0 := blk_free hb 0
 have g1 := blk_free hb 1
 have g2 := blk_free hb 2
 have g3 := blk_free hb 3
 have g4 := blk_free hb 4
 have g5 := blk_free hb 5
 have heb : ((e : Int) == 3) = false := beq_eq_false_iff_ne.2 (by omega)
 have hstep := ((((((Step.refl (· = Rb) w).setCell (p := ⟨Rb, 2, none⟩) rfl (.int .i64 (e : Nat))).setCell (p := ⟨Rb, 3, none⟩) rfl (.slice none 0 0)).setCell (p := ⟨Rb, 4, none⟩) rfl (.int .i64 (used : Nat))).setCell (p := ⟨Rb, 5, none⟩) rfl (.string nmb)).setCell (p := ⟨Rb, 0, none⟩) rfl (.pointer none)).setCell (p := ⟨Rb, 1, none⟩) rfl (.pointer none)
 have hblk := blk_set (blk_set (blk_set (blk_set (blk_set (blk_set hb 2 (.int .i64 (e : Nat))) 3 (.slice none 0 0)) 4 (.int .i64 (used : Nat))) 5 (.string nmb)) 0 (.pointer none)) 1 (.pointer none)
 simp only [Array.set!_eq_setIfInBounds, List.setIfInBounds_toArray, List.set] at hblk
 have HFIN := hide (And.intro hstep hblk)
 clear hb he hstep hblk
 go_enter Tryz.func42, Tryz.ntmps42
 go_wp2_with fail
 go_end0
 exact ⟨rfl, (unhide HFIN).1.alloc _, ((Step.refl (fun _ => False) _).alloc _).at_ (unhide HFIN).2 (fun x => x)⟩
theorem done_ok (w : World) (Rb e used : Nat) (a b : Option Addr) (nmb : ByteArray) (hb : RdB w Rb a b (e : Nat) (used : Nat) nmb) :
  Calls Tryz.prog 30 #[.pointer (some ⟨Rb, 0, none⟩)] w fun r w' => r = .returned (.tuple #[.bool (e == 0), .int .i64 (used : Nat)]) ∧ Step (fun _ => False) w w' := by
 have hl := lt_of_block hb
 have c2 := blk_cell hb 2 _ rfl
 have c4 := blk_cell hb 4 _ rfl
 clear hb
 have heb : ((e : Int) == 0) = (e == 0) := by
  by_cases he : e = 0
  ·subst he; rfl
  ·rw [beq_eq_false_iff_ne.2 he, beq_eq_false_iff_ne.2 (by omega)]
 have hc2 : w.cell? ⟨Rb, 2, none⟩ = some (.int .i64 (e : Nat)) := c2
 have hc4 : w.cell? ⟨Rb, 4, none⟩ = some (.int .i64 (used : Nat)) := c4
 clear c2 c4
 go_enter Tryz.func30, Tryz.ntmps30
 go_wp2_with fail
 go_quiet (fail)
 all_goals
  go_wp2_with fail
  go_ret2
  exact ⟨rfl, (Step.refl _ _).drewN _⟩
theorem name_ok (w : World) (Rb : Nat) (e u : Int) (a b : Option Addr) (nmb : ByteArray) (hb : RdB w Rb a b e u nmb) :
  Calls Tryz.prog 31 #[.pointer (some ⟨Rb, 0, none⟩)] w fun r w' => r = .returned (.string nmb) ∧ w' = w := by
 have hl := lt_of_block hb
 have c5 := blk_cell hb 5 _ rfl
 clear hb
 go_enter Tryz.func31, Tryz.ntmps31
 go_wp2_with fail
 go_ret
 exact ⟨rfl, rfl⟩
end Go.Proofs.YtbpahojchgpdnaaGreatDoor
namespace Go.Proofs.YtbpahojchgpdnaaGreatDoor
open Go.RowKit Go.Bel Go.Maps
variable {k most : Nat} {w : World} {Rb : Nat} {B pre nm : List Nat} {Own : Nat → Prop} {w0 : World} {g off cap f d D X P : Nat} {F : Nat → Value} {q : RQ} {lv v : Value}
def PlainR (w : World) (j : Nat) : Prop := ∃ A t, w.heap[j]? = some (.cells A t (0, 0)) ∧ t ≠ 125 ∧ t ≠ 116
theorem PlainR.b {w : World} {j : Nat} (h : PlainR w j) : PlainB w j := by
 obtain ⟨A, t, h1, h2, _⟩ := h
 exact ⟨A, t, h1, h2⟩
structure WrP (k most : Nat) (w : World) (Rb : Nat) (B pre : List Nat) (Own : Nat → Prop) (vo : Value) (e : Nat) (ys : List Nat) (w' : World) : Prop where
 row : Taken w' w.heap.size vo ys
 rd : ∃ used nm Own', Rd k most w' Rb B (pre ++ ys) e used nm Own' ∧ (∀ j, Own' j → Own j ∨ w.heap.size ≤ j) ∧ (∀ j, vo.ownBlock = some j → ¬ Own' j)
 step : ∃ S : Nat → Prop, Step S w w' ∧ ∀ j, S j → Own j ∧ PlainR w j
theorem RLive.added (h : RLive k most w Rb B pre nm Own w0 g off cap f d D X P F q lv v) {M : List Nat} {w1 : World} {g1 off1 cap1 : Nat} (hF : FeedAt w1 f (.slice (fedA g1 off1 (B.drop q.z ++ M).length) (B.drop q.z ++ M).length cap1) (q.p - 8 * q.z) q.z) (hfed : FedIn w1 w0.heap.size f g1 off1 cap1 (B.drop q.z ++ M)) (hg : g1 = 0 ∨ w.heap.size ≤ g1) (hs : Step (· = f) w w1) :
  RM0 k w0 w1 g1 off1 cap1 f d D X (B ++ M) most q lv v ∧ WAtN w1 D f d (partsAt P q.i (np k)) (.slice none 0 0) (baOf q.nm) ∧ RV k (B ++ M) most q ∧ FedIn w1 w0.heap.size f g1 off1 cap1 ((B ++ M).drop q.z) ∧ Bk k (B ++ M) most (rq0 k most) q := by
 have c1 := h.rs.f4; have c2 := h.rs.fd; have c3 := h.rs.dD
 have hz := h.m.zp; have hh := h.m.here
 have hd : (B ++ M).drop q.z = B.drop q.z ++ M := List.drop_append_of_le_length (by omega)
 rw [← hd] at hF hfed
 refine ⟨h.m.refeed h.rs hs hF hfed hg (by rw [List.length_append]; omega) hz, hs.at_ h.dec (by omega), h.rv.more hh M, hfed, fun Y e out used name x => ?_⟩
 rw [List.append_assoc] at x ⊢
 exact h.bk (M ++ Y) e out used name x
def WrS (Rb D d f X : Nat) (lv v : Value) (j : Nat) : Prop := j = Rb ∨ RO D d f X lv v j
theorem RLive.plain (h : RLive k most w Rb B pre nm Own w0 g off cap f d D X P F q lv v) {j : Nat} (hj : WrS Rb D d f X lv v j) : Own j ∧ PlainR w j := by
 have c1 := h.rs.f4; have c2 := h.rs.fd; have c3 := h.rs.dD; have c4 := h.rs.DP; have c5 := h.rs.PN
 have hb := h.m.big
 have hrb := h.rb
 rcases hj with rfl | rfl | rfl | rfl | rfl | y | y
 ·exact ⟨(h.own _).2 ⟨by omega, .inl rfl⟩, _, _, h.blk, by decide, by decide⟩
 ·exact ⟨(h.own _).2 ⟨by omega, .inr (.inl ⟨by omega, by omega⟩)⟩, _, _, h.dec, by decide, by decide⟩
 ·obtain ⟨A, hA⟩ := h.m.dat
  exact ⟨(h.own _).2 ⟨by omega, .inr (.inl ⟨by omega, by omega⟩)⟩, A, _, hA, by decide, by decide⟩
 ·exact ⟨(h.own _).2 ⟨by omega, .inr (.inl ⟨by omega, by omega⟩)⟩, _, _, h.m.feed, by decide, by decide⟩
 ·by_cases k0 : k = 0
  ·rw [h.rs.X0 k0]
   exact ⟨(h.own _).2 ⟨by omega, .inr (.inl ⟨by omega, by omega⟩)⟩, _, _, h.dec, by decide, by decide⟩
  ·have := h.rs.XP k0
   obtain ⟨A, t, hx, ht⟩ := h.m.xat.blk k0
   exact ⟨(h.own _).2 ⟨by omega, .inr (.inl ⟨by omega, by omega⟩)⟩, A, t, hx, by rcases ht with rfl | rfl <;> decide, by rcases ht with rfl | rfl <;> decide⟩
 ·have h1 := h.m.lets.lt j y
  refine ⟨(h.own _).2 ⟨by omega, .inr (.inr (.inr (.inl y)))⟩, ?_⟩
  obtain ⟨_, ⟨hv, _⟩ | ⟨g', cap', cur, hv, _, hh, _⟩⟩ := h.m.lets
  ·rw [hv] at y; cases y
  ·rw [hv] at y
   cases y
   exact ⟨_, _, hh, by decide, by decide⟩
 ·have h1 := h.m.vown j y
  refine ⟨(h.own _).2 ⟨by omega, .inr (.inr (.inr (.inr y)))⟩, ?_⟩
  have hnil : v = .slice none 0 0 → PlainR w j := fun e => by rw [e] at y; cases y
  by_cases i1 : q.i < bi k
  ·exact hnil (h.m.fresh i1).2
  ·by_cases i2 : bi k < q.i
   ·exact hnil (h.m.behind i2)
   ·rcases h.m.inner (by omega) with ⟨_, e, _⟩ | ⟨sr, hH, _⟩
    ·exact hnil e
    ·obtain ⟨st, rfl, hon, _⟩ := hH.ex
     obtain ⟨_, ⟨hv, _⟩ | ⟨g', cap', cur, hv, _, hh, _⟩⟩ := hon.dec.own
     ·rw [hv] at y; cases y
     ·rw [hv] at y
      cases y
      exact ⟨_, _, hh, by decide, by decide⟩
theorem RM0.other {B : List Nat} {w w' : World} (h : RM0 k w0 w g off cap f d D X B most q lv v) (hR : RS k w0 f d D X P F) {j t : Nat} {A : Array Value} (ht : t = 96 ∨ t = 45) (hb : w.heap[j]? = some (.cells A t (0, 0))) (hj : j = D ∨ w0.heap.size ≤ j) (hs : Step (· = j) w w') : RM0 k w0 w' g off cap f d D X B most q lv v := by
 have c1 := hR.f4; have c2 := hR.fd; have c3 := hR.dD; have c4 := hR.DP; have c5 := hR.PN
 have hbig := h.big
 have hz := hs.size
 have t1 : t ≠ 128 := by rcases ht with rfl | rfl <;> decide
 have t2 : t ≠ 91 := by rcases ht with rfl | rfl <;> decide
 have t3 : t ≠ 5 := by rcases ht with rfl | rfl <;> decide
 have t4 : t ≠ 125 := by rcases ht with rfl | rfl <;> decide
 have t5 : t ≠ 21 := by rcases ht with rfl | rfl <;> decide
 have hg : g ≠ j := fun e => by
  rcases h.gin with y | ⟨y, A', z⟩
  ·rcases hj with hj | hj <;> omega
  ·rw [e, hb] at z
   simp only [Option.some.injEq, Obj.cells.injEq] at z
   exact t3 z.2.1
 have hd : d ≠ j := by rcases hj with hj | hj <;> omega
 refine ⟨fun a a1 a2 a3 => ?_, h.src.step hs hg, ?_, by have := h.glt; omega, h.order.step hs (fun i hi x => by rcases hj with hj | hj <;> omega), h.xat.step hs (fun k0 x => by have := hR.XP k0; rcases hj with hj | hj <;> omega), let_step h.lets hs (fun i hi x => let_ne h.lets hb t5 (by rw [hi, x])), h.nolets, hs.at_ h.feed (by rcases hj with hj | hj <;> omega), by omega, fun y => ⟨hs.at_ (h.fresh y).1 hd, (h.fresh y).2⟩, fun y => ?_, fun i hi => ?_, h.behind, h.here, h.zp, h.dat.imp fun A y => hs.at_ y hd⟩
 ·rw [← h.old a a1 a2 a3]
  exact hs.block a (by omega) (by rcases hj with hj | hj <;> omega)
 ·rcases h.gin with y | ⟨y, A', z⟩
  ·exact .inl y
  ·exact .inr ⟨y, A', hs.at_ z hg⟩
 ·rcases h.inner y with ⟨a1, a2⟩ | ⟨sr, a1, a2⟩
  ·exact .inl ⟨hs.at_ a1 hd, a2⟩
  ·exact .inr ⟨sr, a1.other hs hb t1 t2 t3 t4 hg (by rcases hj with hj | hj <;> omega), a2⟩
 ·obtain ⟨a1, a2, a3⟩ := h.vown i hi
  exact ⟨a1, by omega, a3⟩
def KLive (k most : Nat) (w0 : World) (g off cap f d D X P : Nat) (B : List Nat) (q : RQ) (lv v : Value) (n : Nat) (x : Nat) (vo : Value) (ys : List Nat) (used : Nat) (nmb : ByteArray) (pt : Value) (w' : World) : Prop :=
 ∃ nm', nmb = baOf nm' ∧ rRest k B most q x (q.pre ++ ys) used nm' ∧ ((x ≠ 3 ∧ ∀ Y, rRest k (B ++ Y) most q x (q.pre ++ ys) used nm') ∨
  (x = 3 ∧ used = 0 ∧ ∃ q' lv' v', RM0 k w0 w' g off cap f d D X B most q' lv' v' ∧ pt = partsAt P q'.i (np k) ∧ q'.o = ys ∧ q'.nm = nm' ∧ (∀ j, lv'.ownBlock = some j ∨ v'.ownBlock = some j → RO D d f X lv v j ∨ n ≤ j) ∧ Bk k B most q q' ∧ RV k B most q' ∧ q'.z = q.z ∧ q'.pre = q.pre ∧ Apart vo v'))
theorem goLive {B : List Nat} {w : World} (hR : RS k w0 f d D X P F) (hm : RM0 k w0 w g off cap f d D X B most q lv v) (hd : WAtN w D f d (partsAt P q.i (np k)) (.slice none 0 0) (baOf q.nm)) (hv : RV k B most q) (ho : q.o = []) (hB : AllB B) (hL : B.length ≤ 8388608) (hmo : most ≤ 1048576) :
  Calls Tryz.prog 38 #[.pointer (some ⟨D, 0, none⟩), .pointer (some ⟨f, 0, none⟩)] w fun r w' => ∃ (x : Nat) (vo : Value) (ys : List Nat) (used : Nat) (nmb : ByteArray) (pt : Value), r = .returned (.agg #[.int .i64 (x : Nat), vo, .int .i64 (used : Nat), .string nmb]) ∧ Taken w' w.heap.size vo ys ∧ WAtN w' D f d pt (.slice none 0 0) nmb ∧ Step (RO D d f X lv v) w w' ∧ KLive k most w0 g off cap f d D X P B q lv v w.heap.size x vo ys used nmb pt w' := by
 have c1 := hR.f4; have c2 := hR.fd; have c3 := hR.dD; have c4 := hR.DP; have c5 := hR.PN
 have hbig := hm.big
 have hROl : ∀ j, RO D d f X lv v j → j < w.heap.size := fun j x => by
  rcases x with x | x | x | x | x | x
  ·omega
  ·omega
  ·omega
  ·by_cases k0 : k = 0
   ·have := hR.X0 k0; omega
   ·have := hR.XP k0; omega
  ·exact (hm.lets.lt j x).2
  ·exact (hm.vown j x).2.1
 refine goOnR w w0.heap.size w.heap.size f d D (RO D d f X lv v) (KLive k most w0 g off cap f d D X P B q lv v w.heap.size) (by omega) (.inl rfl) hROl hbig (fun x vo ys u nmb pt w1 w2 j t A ht hb hj hs hk => ?_) (fun w1 hs1 => ?_)
 ·obtain ⟨nm', h1, h2, h3 | ⟨h3, h4, q', lv', v', h5, h6⟩⟩ := hk
  ·exact ⟨nm', h1, h2, .inl h3⟩
  ·exact ⟨nm', h1, h2, .inr ⟨h3, h4, q', lv', v', h5.other hR ht hb hj hs, h6⟩⟩
 ·have hm1 := hm.frame hR hs1 (fun _ x => x.elim)
  have hz1 := hs1.size
  refine (rRun_any (n0 := w.heap.size) hR ⟨hm1, hs1.at_ hd (fun x => x), by rw [ho]; exact World.ownsRow_nil _ _ _ _⟩ (fun _ => ⟨rfl, ho⟩) hv hB hL hmo hz1).mono ?_
  rintro r w' ⟨x, rfl, parts, vo, o', nm', a1, a2, a3, ⟨rfl, used, b1, b2, b3, b4⟩ | ⟨rfl, b1, q', lv', v', b2, b3, b4, b5, b6, b7, b8, b9, b10, b11⟩ | ⟨hx, hx3, b1⟩⟩
  ·refine ⟨0, vo, o', used, baOf nm', parts, rfl, ⟨a1, a2, a3, fun y => absurd rfl y, fun _ => ⟨_, _, b1, b2, by omega⟩⟩, nm', rfl, ?_, .inl ⟨by omega, b4⟩⟩
   have := b4 []
   rw [List.append_nil] at this
   exact this
  ·exact ⟨3, vo, o', 0, baOf nm', parts, rfl, ⟨a1, a2, a3, fun _ => rfl, fun y => by omega⟩, nm', rfl, b1, .inr ⟨rfl, rfl, q', lv', v', b2, b3, b4, b5, fun j hj => (b6 j hj).imp id (fun y => by omega), b7, b8, b9, b10, b11⟩⟩
  ·refine ⟨x, vo, o', 0, baOf nm', parts, rfl, ⟨a1, a2, a3, fun _ => rfl, fun y => absurd y hx⟩, nm', rfl, ?_, .inl ⟨hx3, b1⟩⟩
   have := b1 []
   rw [List.append_nil] at this
   exact this
end Go.Proofs.YtbpahojchgpdnaaGreatDoor
namespace Go.Proofs.YtbpahojchgpdnaaGreatDoor
open Go.RowKit Go.Bel Go.Maps
variable {k most : Nat} {w : World} {Rb : Nat} {B pre nm : List Nat} {Own : Nat → Prop} {w0 : World} {g off cap f d D X P : Nat} {F : Nat → Value} {q : RQ} {lv v : Value}
theorem WrP.step0 {k most : Nat} {w w' w'' : World} {Rb : Nat} {B pre : List Nat} {Own : Nat → Prop} {vo : Value} {e : Nat} {ys : List Nat} (h : WrP k most w Rb B pre Own vo e ys w') (hs : Step (fun _ => False) w' w'') : WrP k most w Rb B pre Own vo e ys w'' := by
 obtain ⟨used, nm, Own', h1, h2⟩ := h.rd
 obtain ⟨S, h3, h4⟩ := h.step
 exact ⟨taken_step h.row hs (fun _ _ x => x), ⟨used, nm, Own', h1.frame hs (fun _ x => x.elim), h2⟩, S, h3.trans (hs.mono (fun _ x => x.elim)), h4⟩
def GoAt (k most : Nat) (w : World) (Rb : Nat) (w0 : World) (g1 off1 cap1 f d D X P : Nat) (B : List Nat) (q : RQ) (lv v : Value) (nm : List Nat) (x : Nat) (vo : Value) (ys : List Nat) (used : Nat) (nmb : ByteArray) (w2 : World) : Prop :=
 Taken w2 w.heap.size vo ys ∧ RdB w2 Rb (some ⟨f, 0, none⟩) (some ⟨D, 0, none⟩) 3 0 (baOf nm) ∧ Step (RO D d f X lv v) w w2 ∧ ∃ pt n, WAtN w2 D f d pt (.slice none 0 0) nmb ∧ w.heap.size ≤ n ∧ KLive k most w0 g1 off1 cap1 f d D X P B q lv v n x vo ys used nmb pt w2
theorem GoAt.step {B' : List Nat} {g1 off1 cap1 x : Nat} {vo : Value} {ys : List Nat} {used : Nat} {nmb : ByteArray} {w2 w3 : World} (h : GoAt k most w Rb w0 g1 off1 cap1 f d D X P B' q lv v nm x vo ys used nmb w2) (hR : RS k w0 f d D X P F) (hs : Step (fun _ => False) w2 w3) : GoAt k most w Rb w0 g1 off1 cap1 f d D X P B' q lv v nm x vo ys used nmb w3 := by
 obtain ⟨a1, a2, a3, pt, n, a4, a5, nm', b1, b2, b3 | ⟨b3, b4, q', lv', v', b5, b6⟩⟩ := h
 ·exact ⟨taken_step a1 hs (fun _ _ x => x), hs.at_ a2 (fun x => x), a3.trans (hs.mono (fun _ x => x.elim)), pt, n, hs.at_ a4 (fun x => x), a5, nm', b1, b2, .inl b3⟩
 ·exact ⟨taken_step a1 hs (fun _ _ x => x), hs.at_ a2 (fun x => x), a3.trans (hs.mono (fun _ x => x.elim)), pt, n, hs.at_ a4 (fun x => x), a5, nm', b1, b2, .inr ⟨b3, b4, q', lv', v', b5.frame hR hs (fun _ x => x.elim), b6⟩⟩
theorem GoAt.other {B' : List Nat} {g1 off1 cap1 x : Nat} {vo : Value} {ys : List Nat} {used : Nat} {nmb : ByteArray} {w2 w3 : World} (h : GoAt k most w Rb w0 g1 off1 cap1 f d D X P B' q lv v nm x vo ys used nmb w2) (hR : RS k w0 f d D X P F) {j : Nat} {A : Array Value} (hb : w2.heap[j]? = some (.cells A 45 (0, 0))) (hj : w.heap.size ≤ j) (hj0 : w0.heap.size ≤ j) (hs : Step (· = j) w2 w3) : GoAt k most w Rb w0 g1 off1 cap1 f d D X P B' q lv v nm x vo ys used nmb w3 := by
 have c3 := hR.dD; have c4 := hR.DP; have c5 := hR.PN
 obtain ⟨a1, a2, a3, pt, n, a4, a5, a6⟩ := h
 have hRj : Rb ≠ j := fun e => by
  unfold RdB at a2
  rw [e, hb] at a2
  simp only [Option.some.injEq, Obj.cells.injEq] at a2
  exact absurd a2.2.1 (by decide)
 have t1 : Taken w3 w.heap.size vo ys := taken_step a1 hs (fun i hi e => taken_ne a1 hb (by decide) (by rw [hi, e]))
 have t3 : Step (RO D d f X lv v) w w3 := a3.trans' hs (fun i hi e => by omega)
 obtain ⟨nm', b1, b2, b3 | ⟨b3, b4, q', lv', v', b5, b6⟩⟩ := a6
 ·exact ⟨t1, hs.at_ a2 hRj, t3, pt, n, hs.at_ a4 (by omega), a5, nm', b1, b2, .inl b3⟩
 ·exact ⟨t1, hs.at_ a2 hRj, t3, pt, n, hs.at_ a4 (by omega), a5, nm', b1, b2, .inr ⟨b3, b4, q', lv', v', b5.other hR (.inr rfl) hb (.inr hj0) hs, b6⟩⟩
theorem GoAt.store {B' : List Nat} {g1 off1 cap1 x : Nat} {vo : Value} {ys : List Nat} {used : Nat} {nmb : ByteArray} {w2 : World} (h : GoAt k most w Rb w0 g1 off1 cap1 f d D X P B' q lv v nm x vo ys used nmb w2) (hR : RS k w0 f d D X P F) {j : Nat} (hb : w2.heap[j]? = some (.cells #[.int .i64 0, .slice none 0 0, .int .i64 0, .string ⟨#[]⟩] 45 (0, 0))) (hj : w.heap.size ≤ j) (hj0 : w0.heap.size ≤ j) (a b c e : Value) :
  GoAt k most w Rb w0 g1 off1 cap1 f d D X P B' q lv v nm x vo ys used nmb ((((w2.setCell ⟨j, 0, none⟩ a).setCell ⟨j, 1, none⟩ b).setCell ⟨j, 2, none⟩ c).setCell ⟨j, 3, none⟩ e) ∧ ((((w2.setCell ⟨j, 0, none⟩ a).setCell ⟨j, 1, none⟩ b).setCell ⟨j, 2, none⟩ c).setCell ⟨j, 3, none⟩ e).heap[j]? = some (.cells #[a, b, c, e] 45 (0, 0)) ∧ w.heap.size ≤ j := by
 refine ⟨h.other hR hb hj hj0 (((((Step.refl (· = j) w2).setCell (p := ⟨j, 0, none⟩) rfl _).setCell (p := ⟨j, 1, none⟩) rfl _).setCell (p := ⟨j, 2, none⟩) rfl _).setCell (p := ⟨j, 3, none⟩) rfl _), ?_, hj⟩
 have h9 := blk_set (blk_set (blk_set (blk_set hb 0 a) 1 b) 2 c) 3 e
 simpa using h9
theorem GoAt.no {B' : List Nat} {g1 off1 cap1 : Nat} {vo : Value} {ys : List Nat} {used : Nat} {nmb : ByteArray} {w2 : World} (h : GoAt k most w Rb w0 g1 off1 cap1 f d D X P B' q lv v nm 3 vo ys used nmb w2) : used = 0 := by
 obtain ⟨_, _, _, _, _, _, _, _, _, _, ⟨b, _⟩ | ⟨_, b, _⟩⟩ := h
 ·exact absurd rfl b
 ·exact b
theorem RLive.lt_w (h : RLive k most w Rb B pre nm Own w0 g off cap f d D X P F q lv v) {j : Nat} (hj : WrS Rb D d f X lv v j) : j < w.heap.size := by
 obtain ⟨_, A, t, hb, _⟩ := h.plain hj
 exact lt_of_block hb
theorem wr_dead (h : RLive k most w Rb B pre nm Own w0 g off cap f d D X P F q lv v) {B' : List Nat} (hbk : Bk k B' most (rq0 k most) q) {g1 off1 cap1 x : Nat} {vo : Value} {ys : List Nat} {used : Nat} {nmb : ByteArray} {w3 w4 : World} (hg : GoAt k most w Rb w0 g1 off1 cap1 f d D X P B' q lv v nm x vo ys used nmb w3) (hx : x ≠ 3) (hs : Step (· = Rb) w3 w4) (hb : RdB w4 Rb none none (x : Nat) (used : Nat) nmb) : WrP k most w Rb B' pre Own vo x ys w4 := by
 obtain ⟨a1, a2, a3, pt, n, a4, a5, nm', b1, b2, ⟨_, b3⟩ | ⟨b3, _⟩⟩ := hg
 ·have c1 := h.rs.f4; have c2 := h.rs.fd; have c3 := h.rs.dD; have c4 := h.rs.DP; have c5 := h.rs.PN
  have hrb := h.rb
  have hvo : vo.ownBlock ≠ some Rb := taken_ne a1 a2 (by decide)
  subst b1
  refine ⟨taken_step a1 hs (fun j hj y => hvo (by rw [hj, y])), ⟨used, nm', (· = Rb), .inr ⟨hb, hx, fun Y => ?_, fun _ => Iff.rfl, by omega⟩, fun j hj => .inl ?_, fun j hj y => hvo (by rw [hj, y])⟩, WrS Rb D d f X lv v, (a3.mono (fun j y => .inr y)).trans (hs.mono (fun j y => .inl y)), fun j hj => h.plain hj⟩
  ·have := hbk Y _ _ _ _ (b3 Y)
   rw [h.epre] at this
   exact this
  ·exact (h.plain (j := j) (.inl hj)).1
 ·exact absurd b3 hx
theorem wr_end (h : RLive k most w Rb B pre nm Own w0 g off cap f d D X P F q lv v) {B' : List Nat} (hbk : Bk k B' most (rq0 k most) q) {g1 off1 cap1 : Nat} {vo : Value} {ys : List Nat} {used : Nat} {nmb : ByteArray} {w3 : World} (hg : GoAt k most w Rb w0 g1 off1 cap1 f d D X P B' q lv v nm 3 vo ys used nmb w3) (hfc : (off1 = 4611686018427387904 → cap1 = 0) ∧ (B'.drop q.z).length ≤ cap1 ∧ (off1 = 0 ∨ off1 = 4611686018427387904)) (hg1 : Rb ≠ g1) (hL : B'.length ≤ 4000000) {w4 : World} (hs : Step (· = Rb) w3 w4) (hb : RdB w4 Rb (some ⟨f, 0, none⟩) (some ⟨D, 0, none⟩) 3 0 nmb) :
  Calls Tryz.prog 65 #[.pointer (some ⟨f, 0, none⟩)] w4 fun r w' => r = .returned (.tuple #[]) ∧ WrP k most w Rb B' pre Own vo 3 ys w' ∧ Step (· = f) w4 w' := by
 obtain ⟨a1, a2, a3, pt, n, a4, a5, nm', b1, b2, ⟨b3, _⟩ | ⟨_, b4, q', lv', v', b5, b6, b7, b8, b9, b10, b11, b12, b13, b14⟩⟩ := hg
 ·exact absurd rfl b3
 ·subst b1 b4 b6
  have c1 := h.rs.f4; have c2 := h.rs.fd; have c3 := h.rs.dD; have c4 := h.rs.DP; have c5 := h.rs.PN
  have hrb := h.rb
  have hRl := lt_of_block h.blk
  have hbig := h.m.big
  have hvo : vo.ownBlock ≠ some Rb := taken_ne a1 a2 (by decide)
  have z3 := a3.size
  have z4 := hs.size
  have hROr : ¬ RO D d f X lv v Rb := fun y => by
   rcases y with y | y | y | y | y | y
   ·omega
   ·omega
   ·omega
   ·by_cases e0 : k = 0
    ·have := h.rs.X0 e0; omega
    ·have := h.rs.XP e0; omega
   ·exact h.rbo.2.1 y
   ·exact h.rbo.2.2 y
  have hown' : ∀ j, lv'.ownBlock = some j ∨ v'.ownBlock = some j → j ≠ Rb := fun j hj e => by
   rcases b9 j hj with y | y
   ·exact hROr (by rw [← e]; exact y)
   ·omega
  have hm4 := b5.frame h.rs hs (fun j hj hl => by
   subst hj
   exact ⟨by omega, fun y => by omega, hg1, fun y => hown' _ (.inl y) rfl, fun y => hown' _ (.inr y) rfl, _, _, a2, by decide⟩)
  have hzp := hm4.zp; have hhe := hm4.here
  rw [b12] at hzp
  have hf4 := hm4.feed
  have hs4 := hm4.src
  rw [b12] at hf4 hs4
  have hfed4 : FedIn w4 w0.heap.size f g1 off1 cap1 (B'.drop q.z) := ⟨hs4, hm4.gin, hm4.glt, hfc.1, hfc.2.1, hfc.2.2⟩
  have hdl : (B'.drop q.z).length = B'.length - q.z := List.length_drop
  refine (feedForget_any f g1 off1 cap1 (q'.p - 8 * q.z) q.z w0.heap.size (B'.drop q.z) w4 hf4 hfed4 (by omega) (by omega) (by omega) (by omega) hm4.big).mono ?_
  rintro r w5 ⟨rfl, g5, off5, cap5, d1, d2, d3, d4⟩
  refine ⟨rfl, ?_, d4⟩
  obtain ⟨z', hz'⟩ : ∃ z', z' = q.z + (q'.p - 8 * q.z) / 8 := ⟨_, rfl⟩
  have e1 : (B'.drop q.z).drop ((q'.p - 8 * q.z) / 8) = B'.drop z' := by rw [List.drop_drop, hz']
  have e2 : q'.p - 8 * q.z - 8 * ((q'.p - 8 * q.z) / 8) = q'.p - 8 * z' := by omega
  rw [e1, e2, ← hz'] at d1
  rw [e1] at d2
  have hm5 := (hm4.refeed h.rs d4 d1 d2 d3 hhe (by omega)).flush
  have z5 := d4.size
  have hdec : WAtN w5 D f d (partsAt P q'.i (np k)) (.slice none 0 0) (baOf q'.nm) := by
   rw [b8]
   exact d4.at_ (hs.at_ a4 (by omega)) (by omega)
  have hbk' : Bk k B' most (rq0 k most) ({ q' with z := z' } : RQ).flush := fun Y e out us name y => by
   rw [rRest_flush, rRest_at] at y
   exact hbk Y e out us name (b10 Y e out us name y)
  have hrow : Taken w5 w.heap.size vo ys := taken_step (taken_step a1 hs (fun j hj y => hvo (by rw [hj, y]))) d4 (fun j hj y => by have := (a1.lt j hj).1; omega)
  refine ⟨hrow, ⟨0, nm', fun j => 4 ≤ j ∧ (j = Rb ∨ (f ≤ j ∧ j < w0.heap.size) ∨ j = g5 ∨ lv'.ownBlock = some j ∨ v'.ownBlock = some j), .inl ⟨rfl, rfl, w0, g5, off5, cap5, f, d, D, X, P, F, ({ q' with z := z' } : RQ).flush, lv', v', h.rs, hm5, hdec, (b11.at_ z').flush, rfl, d2, hbk', ?_, ?_, b8, d4.at_ hb (by omega), hrb, ⟨by rcases d3 with y | y <;> omega, fun y => hown' _ (.inl y) rfl, fun y => hown' _ (.inr y) rfl⟩, fun _ => Iff.rfl⟩, fun j hj => ?_, fun j hj y => ?_⟩, WrS Rb D d f X lv v, ((a3.mono (fun j y => .inr y)).trans (hs.mono (fun j y => .inl y))).trans (d4.mono (fun j y => .inr (.inr (.inr (.inl y))))), fun j hj => h.plain hj⟩
  ·have h9 := hbk [] 3 (q.pre ++ ys) 0 nm' (by rw [List.append_nil]; exact b2)
   rw [List.append_nil, h.epre] at h9
   exact h9
  ·show q'.pre ++ q'.o = pre ++ ys
   rw [b13, b7, h.epre]
  ·obtain ⟨j4, y | y | y | y | y⟩ := hj
   ·exact .inl (h.plain (j := j) (.inl y)).1
   ·exact .inl ((h.own j).2 ⟨j4, .inr (.inl y)⟩)
   ·rcases d3 with z | z
    ·omega
    ·exact .inr (by omega)
   ·rcases b9 j (.inl y) with z | z
    ·exact .inl (h.plain (j := j) (.inr z)).1
    ·exact .inr (by omega)
   ·rcases b9 j (.inr y) with z | z
    ·exact .inl (h.plain (j := j) (.inr z)).1
    ·exact .inr (by omega)
  ·have h1 := a1.lt j hj
   obtain ⟨j4, y | y | y | y | y⟩ := y
   ·exact hvo (by rw [hj, y])
   ·omega
   ·rcases d3 with z | z <;> omega
   ·obtain ⟨_, ⟨hv, _⟩ | ⟨g', cap', cur, hv, _, hh, _⟩⟩ := hrow
    ·rw [hv] at hj; cases hj
    ·rw [hv] at hj
     cases hj
     exact let_ne hm5.lets hh (by decide) y
   ·exact b14 j hj y
theorem write_live (h : RLive k most w Rb B pre nm Own w0 g off cap f d D X P F q lv v) (gm om cm : Nat) (M : List Nat) (hM : Go.Bel.Src w gm om M) (hcm : om = 4611686018427387904 → cm = 0) (hB : AllB (B ++ M)) (hL : (B ++ M).length ≤ 4000000) (hmo : most ≤ 1048576) :
  Calls Tryz.prog 29 #[.pointer (some ⟨Rb, 0, none⟩), .slice (fedA gm om M.length) M.length cm] w fun r w' => ∃ (vo : Value) (e : Nat) (ys : List Nat), r = .returned (.tuple #[vo, .int .i64 ((if e = 3 then 0 else e : Nat) : Int)]) ∧ WrP k most w Rb (B ++ M) pre Own vo e ys w' := by
 have c1 := h.rs.f4; have c2 := h.rs.fd; have c3 := h.rs.dD; have c4 := h.rs.DP; have c5 := h.rs.PN
 have hbig := h.m.big
 have hrb := h.rb
 have hzp := h.m.zp; have hh := h.m.here
 have hRl := lt_of_block h.blk
 have k0 : w.cell? ⟨Rb, 0, none⟩ = some (.pointer (some ⟨f, 0, none⟩)) := blk_cell h.blk 0 _ rfl
 have k1 : w.cell? ⟨Rb, 1, none⟩ = some (.pointer (some ⟨D, 0, none⟩)) := blk_cell h.blk 1 _ rfl
 have hlen : (B.drop q.z ++ M).length ≤ 4000000 := by rw [List.length_append, List.length_drop]; rw [List.length_append] at hL; omega
 have HADD := hide (feedAdd_any f g off cap (q.p - 8 * q.z) q.z gm om cm w0.heap.size (B.drop q.z) M w h.m.feed h.fed hM hcm hlen (by omega) hbig)
 /- goOn -/
 have HGO := hide (show ∀ w1 g1 off1 cap1, FeedAt w1 f (.slice (fedA g1 off1 (B.drop q.z ++ M).length) (B.drop q.z ++ M).length cap1) (q.p - 8 * q.z) q.z → FedIn w1 w0.heap.size f g1 off1 cap1 (B.drop q.z ++ M) → (g1 = 0 ∨ w.heap.size ≤ g1) → Step (· = f) w w1 → RdB w1 Rb (some ⟨f, 0, none⟩) (some ⟨D, 0, none⟩) 3 0 (baOf nm) ∧ ∀ W, Step (fun _ => False) w1 W → Calls Tryz.prog 38 #[.pointer (some ⟨D, 0, none⟩), .pointer (some ⟨f, 0, none⟩)] W fun r w' => ∃ (x : Nat) (va : Option Addr) (len vc : Nat) (ys : List Nat) (used : Nat) (nmb : ByteArray), r = .returned (.agg #[.int .i64 (x : Nat), .slice va len vc, .int .i64 (used : Nat), .string nmb]) ∧ GoAt k most w Rb w0 g1 off1 cap1 f d D X P (B ++ M) q lv v nm x (.slice va len vc) ys used nmb w' ∧ Step (· < w.heap.size) W w' from fun w1 g1 off1 cap1 hF hfed hg hs => by
  obtain ⟨a1, a2, a3, a4, a5⟩ := h.added hF hfed hg hs
  have hb1 := hs.at_ h.blk (by omega)
  refine ⟨hb1, fun W hW => ?_⟩
  refine (goLive h.rs (a1.frame h.rs hW (fun _ x => x.elim)) (hW.at_ a2 (fun x => x)) a3 h.o hB (by omega) hmo).mono ?_
  rintro r w' ⟨x, vo, ys, used, nmb, pt, rfl, b1, b2, b3, b4⟩
  obtain ⟨va, vc, hv⟩ := b1.slice
  have z1 := hs.size; have z2 := hW.size
  refine ⟨x, va, ys.length, vc, ys, used, nmb, by rw [hv], ?_, b3.mono (fun j y => (h.lt_w (.inr y)))⟩
  rw [← hv]
  have hst : Step (RO D d f X lv v) w w' := ((hs.mono (fun j y => .inr (.inr (.inl y)))).trans (hW.mono (fun _ y => y.elim))).trans b3
  refine ⟨b1.mono (by omega), b3.at_ (hW.at_ hb1 (fun y => y)) (fun y => ?_), hst, pt, W.heap.size, b2, by omega, b4⟩
  rcases y with y | y | y | y | y | y
  ·omega
  ·omega
  ·omega
  ·by_cases e0 : k = 0
   ·have := h.rs.X0 e0; omega
   ·have := h.rs.XP e0; omega
  ·exact h.rbo.2.1 y
  ·exact h.rbo.2.2 y)
 have HBK := hide (show ∀ w1 g1 off1 cap1, FeedAt w1 f (.slice (fedA g1 off1 (B.drop q.z ++ M).length) (B.drop q.z ++ M).length cap1) (q.p - 8 * q.z) q.z → FedIn w1 w0.heap.size f g1 off1 cap1 (B.drop q.z ++ M) → (g1 = 0 ∨ w.heap.size ≤ g1) → Step (· = f) w w1 → Bk k (B ++ M) most (rq0 k most) q ∧ ((off1 = 4611686018427387904 → cap1 = 0) ∧ ((B ++ M).drop q.z).length ≤ cap1 ∧ (off1 = 0 ∨ off1 = 4611686018427387904)) ∧ Rb ≠ g1 from fun w1 g1 off1 cap1 hF hfed hg hs => by
  obtain ⟨_, _, _, a4, a5⟩ := h.added hF hfed hg hs
  exact ⟨a5, ⟨a4.capn, a4.le, a4.offb⟩, by rcases hg with y | y <;> omega⟩)
 have HH := hide h
 have HL := hide hL
 obtain ⟨am, ham⟩ : ∃ a, a = fedA gm om M.length := ⟨_, rfl⟩
 obtain ⟨nm2, hnm2⟩ : ∃ n, n = M.length := ⟨_, rfl⟩
 rw [← ham, ← hnm2] at HADD ⊢
 clear h hB hL hlen hM hcm hzp hh ham hnm2
 go_enter Tryz.func29, Tryz.ntmps29
 go_wp2_with fail
 refine (unhide HADD).mono ?_
 rintro r w1 ⟨rfl, g1, off1, cap1, hF1, hfed1, hg1, hs1⟩
 obtain ⟨hb1, hgo⟩ := unhide HGO w1 g1 off1 cap1 hF1 hfed1 hg1 hs1
 have HB := hide (unhide HBK w1 g1 off1 cap1 hF1 hfed1 hg1 hs1)
 have q0 : w1.cell? ⟨Rb, 0, none⟩ = some (.pointer (some ⟨f, 0, none⟩)) := blk_cell hb1 0 _ rfl
 have q1 : w1.cell? ⟨Rb, 1, none⟩ = some (.pointer (some ⟨D, 0, none⟩)) := blk_cell hb1 1 _ rfl
 have HG := hide hgo
 have hz1 := hs1.size
 have hRl1 : Rb < w1.heap.size := by omega
 clear HGO HBK HADD hgo hF1 hfed1 hg1 hs1 hb1 k0 k1
 go_upto_region 4 with fail
 go_cut [6, 31] (fun p r wc => ∃ (R1 x : Nat) (va : Option Addr) (len vc : Nat) (ys : List Nat) (used : Nat) (nmb : ByteArray), p = .pointer (some ⟨R1, 0, none⟩) ∧ r = .agg #[.int .i64 (x : Nat), .slice va len vc, .int .i64 (used : Nat), .string nmb] ∧ GoAt k most w Rb w0 g1 off1 cap1 f d D X P (B ++ M) q lv v nm x (.slice va len vc) ys used nmb wc ∧ wc.heap[R1]? = some (.cells #[.int .i64 (x : Nat), .slice va len vc, .int .i64 (used : Nat), .string nmb] 45 (0, 0)) ∧ w.heap.size ≤ R1)
 case first =>
  go_region_with
   (first
    | (go_at_call 38; refine (unhide HG _ ((Step.refl (fun _ => False) w1).drew)).mono ?_; rintro e w2 ⟨x, va, len, vc, ys, used, nmb, rfl, hat, hsw⟩; have hz2 : w1.heap.size ≤ w2.heap.size := hsw.size)
    | (go_at_call 38; refine (unhide HG _ (((Step.refl (fun _ => False) w1).alloc _).drew)).mono ?_; rintro e w2 ⟨x, va, len, vc, ys, used, nmb, rfl, hat, hsw⟩; have hbz := (hsw.at_ (show (w1.alloc (.cells #[.int .i64 0, .slice none 0 0, .int .i64 0, .string ⟨#[]⟩] 45)).drew.heap[w1.heap.size]? = some _ from heap_alloc_new _ _) (by omega)); have hzl := lt_of_block hbz; have y0 := blk_cell hbz 0 _ rfl; have y1 := blk_cell hbz 1 _ rfl; have y2 := blk_cell hbz 2 _ rfl; have y3 := blk_cell hbz 3 _ rfl; have x0 := blk_free hbz 0; have x1 := blk_free hbz 1; have x2 := blk_free hbz 2; have x3 := blk_free hbz 3))
  all_goals
   go_wp2_with fail
   go_meet
  all_goals
   first
   | exact ⟨w2.heap.size, x, va, len, vc, ys, used, nmb, rfl, rfl, hat.step (unhide HH).rs ((Step.refl (fun _ => False) w2).alloc _), heap_alloc_new _ _, by omega⟩
   | exact ⟨w1.heap.size, x, va, len, vc, ys, used, nmb, rfl, rfl, hat.store (unhide HH).rs hbz (by omega) (by omega) _ _ _ _⟩
 case rest =>
  obtain ⟨R1, x, va, len, vc, ys, used, nmb, rfl, rfl, hat, hbz, hR1⟩ := hcut
  obtain ⟨w3, h⟩ : ∃ W, W = wc := ⟨_, rfl⟩
  subst h
  have hzl := lt_of_block hbz
  have z0 := blk_cell hbz 0 _ rfl
  have z1 := blk_cell hbz 1 _ rfl
  have z2 := blk_cell hbz 2 _ rfl
  have z3 := blk_cell hbz 3 _ rfl
  by_cases hx : x = 3
  ·subst hx
   have hu := hat.no
   subst hu
   obtain ⟨b1, b2, b3⟩ := unhide HB
   have HKE := hide (keep_end w3 Rb f D 3 0 (baOf nm) nmb va len vc hat.2.1 (fun w4 w' => WrP k most w Rb (B ++ M) pre Own (.slice va len vc) 3 ys w' ∧ Step (· = f) w4 w') (fun w4 hs hb => wr_end (unhide HH) b1 hat b2 b3 (unhide HL) hs hb))
   have HBZ := hide hbz
   clear hat hbz b1 b2 b3 HG HB
   go_wp2_with fail
   refine (unhide HKE).mono ?_
   rintro r w5 ⟨rfl, w4, hs4, hb4, hw5, hs5⟩
   have hbz5 := hs5.at_ (hs4.at_ (unhide HBZ) (by omega)) (by omega)
   have y0 := blk_cell hbz5 0 _ rfl
   have y1 := blk_cell hbz5 1 _ rfl
   have HW := hide hw5
   clear hw5 hs4 hb4 hs5 HKE z0 z1 z2 z3 HBZ hbz5
   go_wp2_with fail
   go_ret2
   exact ⟨_, 3, ys, rfl, unhide HW⟩
  ·obtain ⟨b1, _⟩ := unhide HB
   have HKD := hide (keep_dead w3 Rb x used _ _ 3 0 (baOf nm) nmb va len vc hx hat.2.1)
   have HAT := hide hat
   have HBZ := hide hbz
   have HB1 := hide b1
   have heb : ((x : Int) == 3) = false := beq_eq_false_iff_ne.2 (by omega)
   clear hat hbz HG HB b1
   go_wp2_with fail
   refine (unhide HKD).mono ?_
   rintro r w5 ⟨rfl, hs5, hb5⟩
   have hw5 := wr_dead (unhide HH) (unhide HB1) (unhide HAT) hx hs5 hb5
   have hbz5 := hs5.at_ (unhide HBZ) (by omega)
   have y0 := blk_cell hbz5 0 _ rfl
   have y1 := blk_cell hbz5 1 _ rfl
   have HW := hide hw5
   clear hw5 hs5 hb5 HKD z0 z1 z2 z3 HBZ hbz5 HAT HB1
   go_wp2_with fail
   go_quiet (fail)
   all_goals
    go_wp2_with fail
    go_ret2
    refine ⟨_, x, ys, ?_, (unhide HW).step0 ((Step.refl (fun _ => False) _).drewN _)⟩
    rw [if_neg hx]
    rfl
theorem write_dead {e used : Nat} (h : RDead k most w Rb B pre e used nm Own) (am : Option Addr) (n cm : Nat) (M : List Nat) :
  Calls Tryz.prog 29 #[.pointer (some ⟨Rb, 0, none⟩), .slice am n cm] w fun r w' => ∃ (vo : Value) (e : Nat) (ys : List Nat), r = .returned (.tuple #[vo, .int .i64 ((if e = 3 then 0 else e : Nat) : Int)]) ∧ WrP k most w Rb (B ++ M) pre Own vo e ys w' := by
 have k1 : w.cell? ⟨Rb, 1, none⟩ = some (.pointer none) := blk_cell h.blk 1 _ rfl
 have k2 : w.cell? ⟨Rb, 2, none⟩ = some (.int .i64 (e : Nat)) := blk_cell h.blk 2 _ rfl
 have hl := lt_of_block h.blk
 have HFIN := hide (show WrP k most w Rb (B ++ M) pre Own (.slice none 0 0) e [] w from by
  refine ⟨World.ownsRow_nil _ _ _ _, ⟨used, nm, Own, .inr ⟨h.blk, h.e3, fun Y => ?_, h.own, h.rb4⟩, fun j hj => .inl hj, fun j hj => by simp [Value.ownBlock] at hj⟩, fun _ => False, Step.refl _ _, fun _ x => x.elim⟩
  rw [List.append_nil, List.append_assoc]
  exact h.all (M ++ Y))
 have he3 := h.e3
 clear h
 go_enter Tryz.func29, Tryz.ntmps29
 go_wp2_with fail
 go_quiet (fail)
 all_goals
  go_wp2_with fail
  go_ret2
  refine ⟨_, e, [], ?_, (unhide HFIN).step0 ((Step.refl (fun _ => False) _).drewN _)⟩
  rw [if_neg he3]
  rfl
theorem write_ok {e used : Nat} (h : Rd k most w Rb B pre e used nm Own) (gm om cm : Nat) (M : List Nat) (hM : Go.Bel.Src w gm om M) (hcm : om = 4611686018427387904 → cm = 0) (hB : AllB (B ++ M)) (hL : (B ++ M).length ≤ 4000000) (hmo : most ≤ 1048576) :
  Calls Tryz.prog 29 #[.pointer (some ⟨Rb, 0, none⟩), .slice (fedA gm om M.length) M.length cm] w fun r w' => ∃ (vo : Value) (e : Nat) (ys : List Nat), r = .returned (.tuple #[vo, .int .i64 ((if e = 3 then 0 else e : Nat) : Int)]) ∧ WrP k most w Rb (B ++ M) pre Own vo e ys w' := by
 rcases h with ⟨rfl, rfl, w0, g, off, cap, f, d, D, X, P, F, q, lv, v, h⟩ | h
 ·exact write_live h gm om cm M hM hcm hB hL hmo
 ·exact write_dead h _ _ _ M
end Go.Proofs.YtbpahojchgpdnaaGreatDoor
namespace Go.Bel
open Go Go.RowKit Go.Proofs.YtbpahojchgpdnaaGreatDoor
theorem gRun_one {B : List Nat} {n e : Nat} {s : GS} {out : List Nat} {q : Nat} (h : GRun B n s e out q) : ∀ {n' e' : Nat} {out' : List Nat} {q' : Nat}, GRun B n' s e' out' q' → e = e' ∧ out = out' ∧ q = q' := by
 induction h with
 | done s h =>
  intro n' e' out' q' h'
  cases h' with
  | done _ _ => exact ⟨rfl, rfl, rfl⟩
  | no _ _ _ h3 _ => exact absurd h h3
  | miss _ h3 _ => exact absurd h h3
  | go _ _ _ _ _ _ h3 _ _ => exact absurd h h3
 | no s e out h3 h =>
  intro n' e' out' q' h'
  cases h' with
  | done _ x => exact absurd x h3
  | no _ _ _ _ x => rw [h] at x; cases x; exact ⟨rfl, rfl, rfl⟩
  | miss _ _ x => rw [h] at x; cases x
  | go _ _ _ _ _ _ _ x _ => rw [h] at x; cases x
 | miss s h3 h =>
  intro n' e' out' q' h'
  cases h' with
  | done _ x => exact absurd x h3
  | no _ _ _ _ x => rw [h] at x; cases x
  | miss _ _ _ => exact ⟨rfl, rfl, rfl⟩
  | go _ _ _ _ _ _ _ x _ => rw [h] at x; cases x
 | go n s s1 e out q h3 h k ih =>
  intro n' e' out' q' h'
  cases h' with
  | done _ x => exact absurd x h3
  | no _ _ _ _ x => rw [h] at x; cases x
  | miss _ _ x => rw [h] at x; cases x
  | go _ _ _ _ _ _ _ x k' => rw [h] at x; cases x; exact ih k'
end Go.Bel
namespace Go.Proofs.YtbpahojchgpdnaaGreatDoor
open Go.RowKit Go.Bel Go.Maps
theorem textR_one {B : List Nat} {p q : Nat} {l : List Nat} {ok : Bool} (h : TextR B p l ok q) : ∀ {q' : Nat} {l' : List Nat} {ok' : Bool}, TextR B p l' ok' q' → l = l' ∧ ok = ok' ∧ q = q' := by
 induction h with
 | miss p h =>
  intro q' l' ok' h'
  cases h' with
  | miss _ _ => exact ⟨rfl, rfl, rfl⟩
  | zero _ x _ => omega
  | more _ _ _ _ x _ _ => omega
 | zero p h hz =>
  intro q' l' ok' h'
  cases h' with
  | miss _ _ => omega
  | zero _ x _ => exact ⟨rfl, rfl, rfl⟩
  | more _ _ _ _ x y _ => exact absurd hz y
 | more p l ok q h hz ht ih =>
  intro q' l' ok' h'
  cases h' with
  | miss _ _ => omega
  | zero _ x y => exact absurd y hz
  | more _ _ _ _ x y k =>
   obtain ⟨rfl, rfl, rfl⟩ := ih k
   exact ⟨rfl, rfl, rfl⟩
def Uq (K : Nat → List Nat → Nat → List Nat → Prop) : Prop := ∀ e o u n e' o' u' n', K e o u n → K e' o' u' n' → e = e' ∧ o = o' ∧ u = u' ∧ n = n'
theorem uq_no (x : Nat) (nm : List Nat) : Uq (gzNo x nm) := by
 rintro e o u n e' o' u' n' ⟨rfl, rfl, rfl, rfl⟩ ⟨rfl, rfl, rfl, rfl⟩
 exact ⟨rfl, rfl, rfl, rfl⟩
theorem uq_if {c : Prop} [Decidable c] {K L : Nat → List Nat → Nat → List Nat → Prop} (h1 : Uq K) (h2 : Uq L) : Uq (fun e o u n => if c then K e o u n else L e o u n) := fun e o u n e' o' u' n' a b => by
 by_cases hc : c
 ·simp only [if_pos hc] at a b; exact h1 _ _ _ _ _ _ _ _ a b
 ·simp only [if_neg hc] at a b; exact h2 _ _ _ _ _ _ _ _ a b
theorem uq_fix (x : Nat) (o : List Nat) (y : Nat) (nm : List Nat) : Uq (fun e out used name => e = x ∧ out = o ∧ used = y ∧ name = nm) := by
 rintro e o u n e' o' u' n' ⟨rfl, rfl, rfl, rfl⟩ ⟨rfl, rfl, rfl, rfl⟩
 exact ⟨rfl, rfl, rfl, rfl⟩
theorem uq_size (B : List Nat) (q : Nat) (o nm : List Nat) : Uq (gzSize B q o nm) := by
 rintro e out u n e' out' u' n' ⟨a1, a2, a⟩ ⟨b1, b2, b⟩
 by_cases h1 : q + 32 ≤ 8 * B.length
 ·rw [if_pos h1] at a b
  by_cases h2 : numAt B q 32 = o.length
  ·rw [if_pos h2] at a b; exact ⟨a.1.trans b.1.symm, a1.trans b1.symm, a.2.trans b.2.symm, a2.trans b2.symm⟩
  ·rw [if_neg h2] at a b; exact ⟨a.1.trans b.1.symm, a1.trans b1.symm, a.2.trans b.2.symm, a2.trans b2.symm⟩
 ·rw [if_neg h1] at a b; exact ⟨a.1.trans b.1.symm, a1.trans b1.symm, a.2.trans b.2.symm, a2.trans b2.symm⟩
theorem uq_tail (B : List Nat) (q : Nat) (o nm : List Nat) : Uq (gzTail B q o nm) := uq_if (uq_if (uq_size _ _ _ _) (uq_fix _ _ _ _)) (uq_fix _ _ _ _)
theorem uq_run {B : List Nat} {s : GS} {T : Nat → List Nat → Nat → List Nat → Nat → List Nat → Prop} {nm : List Nat} (hT : ∀ q o, Uq (T q o)) : Uq (fun e out used name => ∃ n e1 o1 q1, GRun B n s e1 o1 q1 ∧ if e1 = 0 then T q1 o1 e out used name else e = e1 ∧ out = o1 ∧ used = 0 ∧ name = nm) := by
 rintro e o u n e' o' u' n' ⟨m, e1, o1, q1, hr, a⟩ ⟨m', e2, o2, q2, hr', b⟩
 obtain ⟨rfl, rfl, rfl⟩ := gRun_one hr hr'
 by_cases he : e1 = 0
 ·rw [if_pos he] at a b; exact hT _ _ _ _ _ _ _ _ _ _ a b
 ·rw [if_neg he] at a b; exact uq_fix _ _ _ _ _ _ _ _ _ _ _ _ a b
theorem uq_body (B : List Nat) (most p : Nat) (nm : List Nat) : Uq (gzBody B most p nm) := uq_run (fun q o => uq_tail B q o nm)
theorem uq_check (B : List Nat) (most fl p : Nat) (nm : List Nat) : Uq (gzCheck B most fl p nm) := uq_if (uq_if (uq_if (uq_body _ _ _ _) (uq_no _ _)) (uq_no _ _)) (uq_body _ _ _ _)
theorem uq_text {B : List Nat} {p : Nat} {T : List Nat → Nat → Nat → List Nat → Nat → List Nat → Prop} {L : Nat → List Nat → Nat → List Nat → Prop} (h1 : ∀ l q, Uq (T l q)) (h2 : Uq L) : Uq (fun e out used name => ∃ l ok q, TextR B p l ok q ∧ if ok = true then T l q e out used name else L e out used name) := by
 rintro e o u n e' o' u' n' ⟨l, ok, q, ht, a⟩ ⟨l', ok', q', ht', b⟩
 obtain ⟨rfl, rfl, rfl⟩ := textR_one ht ht'
 by_cases hk : ok = true
 ·rw [if_pos hk] at a b; exact h1 _ _ _ _ _ _ _ _ _ _ a b
 ·rw [if_neg hk] at a b; exact h2 _ _ _ _ _ _ _ _ a b
theorem uq_remark (B : List Nat) (most fl p : Nat) (nm : List Nat) : Uq (gzRemark B most fl p nm) := uq_if (uq_text (fun _ _ => uq_check _ _ _ _ _) (uq_no _ _)) (uq_check _ _ _ _ _)
theorem uq_name (B : List Nat) (most fl p : Nat) (l0 : List Nat) : Uq (gzName B most fl p l0) := uq_if (uq_text (fun _ _ => uq_remark _ _ _ _ _) (uq_no _ _)) (uq_remark _ _ _ _ _)
theorem uq_pass (B : List Nat) (most fl p left : Nat) : Uq (gzPass B most fl p left) := uq_if (uq_if (uq_name _ _ _ _ _) (uq_no _ _)) (uq_name _ _ _ _ _)
theorem uq_extra (B : List Nat) (most fl p : Nat) : Uq (gzExtra B most fl p) := uq_if (uq_if (uq_pass _ _ _ _ _) (uq_no _ _)) (uq_name _ _ _ _ _)
theorem uq_flags (B : List Nat) (most p : Nat) : Uq (gzFlags B most p) := uq_if (uq_if (uq_if (uq_extra _ _ _ _) (uq_no _ _)) (uq_no _ _)) (uq_no _ _)
theorem uq_gz (B : List Nat) (most : Nat) : Uq (gzAll B most) := uq_if (uq_if (uq_if (uq_if (uq_if (uq_if (uq_flags _ _ _) (uq_no _ _)) (uq_no _ _)) (uq_no _ _)) (uq_no _ _)) (uq_no _ _)) (uq_no _ _)
theorem uq_z (B : List Nat) (most : Nat) : Uq (fun e out used name => zAll B most e out used ∧ name = []) := by
 have h0 : ∀ x : Nat, Uq (fun e out used name => (e = x ∧ out = [] ∧ used = 0) ∧ name = []) := fun x => by
  rintro e o u n e' o' u' n' ⟨⟨rfl, rfl, rfl⟩, rfl⟩ ⟨⟨rfl, rfl, rfl⟩, rfl⟩
  exact ⟨rfl, rfl, rfl, rfl⟩
 rintro e o u n e' o' u' n' ⟨a, rfl⟩ ⟨b, rfl⟩
 unfold zAll zSec at a b
 by_cases h1 : 0 + 8 ≤ 8 * B.length
 ·rw [if_pos h1] at a b
  by_cases h2 : zOk1 (numAt B 0 8)
  ·rw [if_pos h2] at a b
   by_cases h3 : 0 + 8 + 8 ≤ 8 * B.length
   ·rw [if_pos h3] at a b
    by_cases h4 : zOk2 (numAt B 0 8) (numAt B (0 + 8) 8)
    ·rw [if_pos h4] at a b
     obtain ⟨m, e1, o1, q1, hr, a⟩ := a
     obtain ⟨m', e2, o2, q2, hr', b⟩ := b
     obtain ⟨rfl, rfl, rfl⟩ := gRun_one hr hr'
     by_cases he : e1 = 0
     ·rw [if_pos he] at a b
      obtain ⟨a1, a⟩ := a
      obtain ⟨b1, b⟩ := b
      by_cases h5 : q1 + 32 ≤ 8 * B.length
      ·rw [if_pos h5] at a b
       by_cases h6 : bigAt B q1 4 = adWith 1 o1
       ·rw [if_pos h6] at a b; exact ⟨a.1.trans b.1.symm, a1.trans b1.symm, a.2.trans b.2.symm, rfl⟩
       ·rw [if_neg h6] at a b; exact ⟨a.1.trans b.1.symm, a1.trans b1.symm, a.2.trans b.2.symm, rfl⟩
      ·rw [if_neg h5] at a b; exact ⟨a.1.trans b.1.symm, a1.trans b1.symm, a.2.trans b.2.symm, rfl⟩
     ·rw [if_neg he] at a b; exact ⟨a.1.trans b.1.symm, a.2.1.trans b.2.1.symm, a.2.2.trans b.2.2.symm, rfl⟩
    ·rw [if_neg h4] at a b; exact h0 4 _ _ _ _ _ _ _ _ ⟨a, rfl⟩ ⟨b, rfl⟩
   ·rw [if_neg h3] at a b; exact h0 3 _ _ _ _ _ _ _ _ ⟨a, rfl⟩ ⟨b, rfl⟩
  ·rw [if_neg h2] at a b; exact h0 4 _ _ _ _ _ _ _ _ ⟨a, rfl⟩ ⟨b, rfl⟩
 ·rw [if_neg h1] at a b; exact h0 3 _ _ _ _ _ _ _ _ ⟨a, rfl⟩ ⟨b, rfl⟩
theorem rAll_0 {B : List Nat} {most e : Nat} {out : List Nat} {used : Nat} {name : List Nat} : rAll 0 B most e out used name = rBody 0 B (gAt most 0) [] e out used name := by
 unfold rAll rRest
 rw [if_pos (show (rq0 0 most).i = bi 0 from rfl)]
 rfl
theorem rAll_1 {B : List Nat} {most e : Nat} {out : List Nat} {used : Nat} {name : List Nat} : rAll 1 B most e out used name = (((0 : Nat) = 0 ∧ zAll B most e out used) ∧ name = []) := by
 unfold rAll rRest
 rw [if_neg (show ¬ (rq0 1 most).i = bi 1 from (by decide : ¬ (0 : Nat) = bi 1)), if_neg (by omega), if_pos rfl]
 rfl
theorem rAll_2 {B : List Nat} {most e : Nat} {out : List Nat} {used : Nat} {name : List Nat} : rAll 2 B most e out used name = ((0 : Nat) = 0 ∧ gzAll B most e out used name) := by
 unfold rAll
 rw [rest_0 rfl]
 rfl
theorem rAll_one {k : Nat} (hk : k ≤ 2) (B : List Nat) (most : Nat) : Uq (rAll k B most) := by
 have hc : k = 0 ∨ k = 1 ∨ k = 2 := by omega
 rintro e o u n e' o' u' n' a b
 rcases hc with rfl | rfl | rfl
 ·rw [rAll_0] at a b
  obtain ⟨m, e1, o1, q1, hr, a⟩ := a
  obtain ⟨m', e2, o2, q2, hr', b⟩ := b
  obtain ⟨rfl, rfl, rfl⟩ := gRun_one hr hr'
  unfold rTail at a b
  by_cases he : e1 = 0
  ·rw [if_pos he, if_pos rfl] at a b; exact ⟨a.1.trans b.1.symm, a.2.1.trans b.2.1.symm, by omega, a.2.2.2.trans b.2.2.2.symm⟩
  ·rw [if_neg he] at a b; exact ⟨a.1.trans b.1.symm, a.2.1.trans b.2.1.symm, a.2.2.1.trans b.2.2.1.symm, a.2.2.2.trans b.2.2.2.symm⟩
 ·rw [rAll_1] at a b
  exact uq_z B most _ _ _ _ _ _ _ _ ⟨a.1.2, a.2⟩ ⟨b.1.2, b.2⟩
 ·rw [rAll_2] at a b
  exact uq_gz B most _ _ _ _ _ _ _ _ a.2 b.2
end Go.Proofs.YtbpahojchgpdnaaGreatDoor
namespace Go.Proofs.YtbpahojchgpdnaaGreatDoor
open Go.RowKit Go.Bel Go.Maps
theorem NewK.start {k most : Nat} {w w4 : World} {f d D X P : Nat} {F : Nat → Value} (h : NewK k most w w4 f d D X P F) {g off cap : Nat} {B : List Nat} (hO : OrderAt w4) (hS : Go.Bel.Src w4 g off B) (hg : g < f) (hF : FeedAt w4 f (.slice (fedA g off B.length) B.length cap) 0 0) : RM0 k w4 w4 g off cap f d D X B most (rq0 k most) (.slice none 0 0) (.slice none 0 0) := by
 have c1 := h.rs.f4; have c2 := h.rs.fd; have c3 := h.rs.dD; have c4 := h.rs.DP; have c5 := h.rs.PN
 exact ⟨fun a _ _ a3 => rfl, hS, .inl hg, by omega, hO, h.xat, World.ownsRow_nil _ _ _ _, fun _ => rfl, hF, Nat.le_refl _, fun _ => ⟨h.dec, rfl⟩, fun _ => .inl ⟨h.dec, rfl, rfl, rfl, rfl⟩, fun j hj => by simp [Value.ownBlock] at hj, fun _ => rfl, Nat.zero_le _, Nat.le_refl _, _, h.dec⟩
theorem unpackR (k g off cap : Nat) (most : Int) (B : List Nat) (w : World) (hk : k ≤ 2) (hS : Go.Bel.Src w g off B) (hg : g < w.heap.size) (hO : OrderAt w) (h4 : 4 ≤ w.heap.size) (hB : AllB B) (hL : B.length ≤ 8388608) :
  Calls Tryz.prog 25 #[.int .i64 (k : Nat), .slice (fedA g off B.length) B.length cap, .int .i64 most] w
   fun r w' => ∃ (e : Nat) (out : List Nat) (used : Nat) (nm : List Nat) (v' : Value), r = .returned (.agg #[.int .i64 (e : Nat), v', .int .i64 (used : Nat), .string (baOf nm)]) ∧ rAll k B (asked most) e out used nm ∧ w'.ownsRow w.heap.size 5 1 v' out.length (u8s out) ∧ Step (fun _ => False) w w' := by
 have hmuch := hS.much
 have HNEW := hide (fun f w3 h1 h2 => newK k f (asked most) w3 hk h1 h2)
 have HS := hide hS
 have HO := hide hO
 clear hS hO
 go_enter Tryz.func25, Tryz.ntmps25
 go_wp2_with fail
 obtain ⟨R, hR⟩ : ∃ R, R = w.heap.size := ⟨_, rfl⟩
 obtain ⟨w1, hw1⟩ : ∃ w1, w1 = w.alloc (.cells #[.int .i64 0, .slice none 0 0, .int .i64 0, .string ⟨#[]⟩] 45) := ⟨_, rfl⟩
 have hs1 : Step (fun _ => False) w w1 := by rw [hw1]; exact (Step.refl _ _).alloc _
 have hz1 : w1.heap.size = R + 1 := by rw [hw1, hR]; simp
 have hr1 : w1.heap[R]? = some (.cells #[.int .i64 0, .slice none 0 0, .int .i64 0, .string ⟨#[]⟩] 45 (0, 0)) := by rw [hw1, hR]; exact heap_alloc_new _ _
 have hRw : w.heap.size ≤ R := by omega
 have hRe : R ≤ w.heap.size := by omega
 rw [← hw1, ← hR]
 clear hw1 hR
 refine (feedNew_any (.slice (fedA g off B.length) B.length cap) w1 ⟨_, _, _, rfl⟩).mono ?_
 rintro e1 w2 ⟨rfl, hw2⟩
 rw [hz1]
 have hz2 : w2.heap.size = R + 1 + 1 := by rw [hw2]; simp [hz1]
 have hs2 : Step (fun _ => False) w1 w2 := by rw [hw2]; exact (Step.refl _ _).alloc _
 have hF2 : w2.heap[R + 1]? = some (.cells #[.slice (fedA g off B.length) B.length cap, .int .i64 ((0 : Nat) : Int), .int .i64 ((0 : Nat) : Int)] 91 (0, 0)) := by rw [hw2, ← hz1]; exact heap_alloc_new _ _
 clear hw2
 go_wp2_with fail
 refine (askedG most w2).mono ?_
 rintro e2 w3 ⟨rfl, rfl⟩
 have hs12 := hs1.trans hs2
 have HN := hide (unhide HNEW (R + 1) w3 (by omega) (by omega))
 have HF2 := hide hF2
 clear hF2 HNEW
 go_wp2_with fail
 refine (unhide HN).mono ?_
 rintro e2 w4 ⟨d, D, X, P, F, rfl, hN⟩
 have hs4 := hN.step
 have hz4 := hs4.size
 have hs14 := hs12.trans hs4
 have hr4 := (hs2.trans hs4).at_ hr1 (fun x => x)
 have hlow := hN.low
 have HGO := hide (show Calls Tryz.prog 38 #[.pointer (some ⟨D, 0, none⟩), .pointer (some ⟨R + 1, 0, none⟩)] w4 fun r w5 => ∃ (x : Nat) (vo : Value) (ys : List Nat) (used : Nat) (nm : List Nat), r = .returned (.agg #[.int .i64 (x : Nat), vo, .int .i64 (used : Nat), .string (baOf nm)]) ∧ Taken w5 w4.heap.size vo ys ∧ Step (fun j => R + 1 ≤ j) w4 w5 ∧ rAll k B (asked most) x ys used nm from by
  have c2 := hN.rs.fd; have c3 := hN.rs.dD; have c4 := hN.rs.DP
  have hrv : RV k ([] ++ B) (asked most) (rq0 k (asked most)) := (RV.start k (asked most)).more (Nat.zero_le _) B
  rw [List.nil_append] at hrv
  refine (goLive hN.rs (hN.start ((unhide HO).step hs14 (fun _ _ x => x)) ((unhide HS).step hs14 (fun x => x)) (by omega) (hs4.at_ (unhide HF2) (fun x => x))) hN.wrap hrv rfl hB hL (asked_le most)).mono ?_
  rintro r w5 ⟨x, vo, ys, used, nmb, pt, rfl, a1, _, a3, nm', rfl, a5, _⟩
  refine ⟨x, vo, ys, used, nm', rfl, a1, a3.mono (fun j hj => ?_), a5⟩
  rcases hj with y | y | y | y | y | y
  ·omega
  ·omega
  ·omega
  ·by_cases k0 : k = 0
   ·have := hN.rs.X0 k0; omega
   ·have := hN.rs.XP k0; omega
  ·simp [Value.ownBlock] at y
  ·simp [Value.ownBlock] at y)
 have HS14 := hide hs14
 clear hs14 hs1 hs2 hs4 hs12 hr1 HN HF2 HS HO hN
 go_wp2_with fail
 refine (unhide HGO).mono ?_
 rintro r w5 ⟨e, vo, out, used, nm, rfl, htk, hst5, hall⟩
 obtain ⟨va, vc, hv⟩ := htk.slice
 have hr5 := hst5.at_ hr4 (by omega)
 have q0 : w5.cell? ⟨R, 0, none⟩ = some (.int .i64 0) := blk_cell hr5 0 _ rfl
 have q1 : w5.cell? ⟨R, 1, none⟩ = some (.slice none 0 0) := blk_cell hr5 1 _ rfl
 have q2 : w5.cell? ⟨R, 2, none⟩ = some (.int .i64 0) := blk_cell hr5 2 _ rfl
 have q3 : w5.cell? ⟨R, 3, none⟩ = some (.string ⟨#[]⟩) := blk_cell hr5 3 _ rfl
 have g0 := blk_free hr5 0
 have g1 := blk_free hr5 1
 have g2 := blk_free hr5 2
 have g3 := blk_free hr5 3
 have hrl := lt_of_block hr5
 have hne : vo.ownBlock ≠ some R := taken_ne htk hr5 (by decide)
 have HNE := hide hne
 have HTK := hide htk
 have HALL := hide hall
 have HS5 := hide (show Step (fun _ => False) w w5 from (unhide HS14).trans' hst5 (fun k hk x => by omega))
 rw [hv] at HTK HNE
 rw [hv]
 obtain ⟨len, hlen⟩ : ∃ len, len = out.length := ⟨_, rfl⟩
 have HLEN := hide hlen
 rw [← hlen] at HTK HNE ⊢
 clear htk hst5 hv hne hr4 hr5 HGO HS14 hall hlen
 generalize hnb : baOf nm = nmb
 have HNB := hide hnb
 clear hnb
 go_wp2_with fail
 have hfin : Step (· = R) w5 ((((w5.setCell ⟨R, 0, none⟩ (.int .i64 (e : Nat))).setCell ⟨R, 1, none⟩ (.slice va len vc)).setCell ⟨R, 2, none⟩ (.int .i64 (used : Nat))).setCell ⟨R, 3, none⟩ (.string nmb)) :=
  ((((Step.refl (· = R) w5).setCell (p := ⟨R, 0, none⟩) rfl _).setCell (p := ⟨R, 1, none⟩) rfl _).setCell (p := ⟨R, 2, none⟩) rfl _).setCell (p := ⟨R, 3, none⟩) rfl _
 refine bodyPost_ret (v := .agg #[.int .i64 (e : Nat), .slice va len vc, .int .i64 (used : Nat), .string nmb]) (by simp [results, Tryz.results25, go_sem, q0, q1, q2, q3]) rfl ⟨e, out, used, nm, .slice va len vc, by rw [unhide HNB], unhide HALL, ?_, ?_⟩
 ·exact ownsRow_mono (taken_step (unhide HTK) hfin (fun j hj x => unhide HNE (by rw [hj, x]))) (by omega)
 ·exact (unhide HS5).trans' hfin (fun k hk x => by omega)
end Go.Proofs.YtbpahojchgpdnaaGreatDoor
