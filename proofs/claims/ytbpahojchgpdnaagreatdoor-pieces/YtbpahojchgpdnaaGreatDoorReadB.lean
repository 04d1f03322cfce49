/- Said here: where a reader's decoder of any kind stands, in numbers and in memory, and what is still to come. -/
import Derived.Test.YtbpahojchgpdnaaGreatDoorReadA
import Derived.Test.YtbpahojchgpdnaaGreatDoorGzipC
set_option maxRecDepth 20000
set_option maxHeartbeats 4000000
namespace Go.Proofs.YtbpahojchgpdnaaGreatDoor
open Go.RowKit Go.Bel Go.Maps
structure RQ where
 i : Nat
 p : Nat
 z : Nat
 fl : Nat
 left : Nat
 head : Nat
 check : Nat
 size : Nat
 ls : List Nat
 o : List Nat
 nm : List Nat
 pre : List Nat
 s : GS
def np (k : Nat) : Nat := if k = 0 then 1 else if k = 1 then 4 else 13
def bi (k : Nat) : Nat := if k = 0 then 0 else if k = 1 then 2 else 10
theorem bi_lt (k : Nat) : bi k < np k := by
 unfold bi np
 by_cases h0 : k = 0
 ·rw [if_pos h0, if_pos h0]; omega
 ·rw [if_neg h0, if_neg h0]
  by_cases h1 : k = 1
  ·rw [if_pos h1, if_pos h1]; omega
  ·rw [if_neg h1, if_neg h1]; omega
theorem np_le (k : Nat) : np k ≤ 13 := by
 unfold np
 by_cases h0 : k = 0
 ·rw [if_pos h0]; omega
 ·rw [if_neg h0]
  by_cases h1 : k = 1
  ·rw [if_pos h1]; omega
  ·rw [if_neg h1]; omega
def XwAt (k : Nat) (w : World) (X D : Nat) (q : RQ) (lv : Value) : Prop :=
 if k = 0 then True else if k = 1 then ZAt w X D q.fl q.check else GzAt w X D q.fl q.left q.head lv q.check q.size
theorem XwAt.step {k : Nat} {w w' : World} {X D : Nat} {q : RQ} {lv : Value} {S : Nat → Prop} (h : XwAt k w X D q lv) (hs : Step S w w') (hn : k ≠ 0 → ¬ S X) : XwAt k w' X D q lv := by
 unfold XwAt at h ⊢
 by_cases h0 : k = 0
 ·rw [if_pos h0]; trivial
 ·rw [if_neg h0] at h ⊢
  by_cases h1 : k = 1
  ·rw [if_pos h1] at h ⊢; exact hs.at_ h (hn h0)
  ·rw [if_neg h1] at h ⊢; exact hs.at_ h (hn h0)
theorem XwAt.blk {k : Nat} {w : World} {X D : Nat} {q : RQ} {lv : Value} (h : XwAt k w X D q lv) (h0 : k ≠ 0) : ∃ A t, w.heap[X]? = some (.cells A t (0, 0)) ∧ (t = 132 ∨ t = 137) := by
 unfold XwAt at h
 rw [if_neg h0] at h
 by_cases h1 : k = 1
 ·rw [if_pos h1] at h; exact ⟨_, _, h, .inl rfl⟩
 ·rw [if_neg h1] at h; exact ⟨_, _, h, .inr rfl⟩
def KParts (k : Nat) (w0 : World) (D X : Nat) (F : Nat → Value) : Prop :=
 if k = 0 then F 0 = .func (.func 50) #[.pointer (some ⟨D, 0, none⟩)] #[] else if k = 1 then ∀ j, j < 4 → F j = zPart X j else GzParts w0 X F
structure RS (k : Nat) (w0 : World) (f d D X P : Nat) (F : Nat → Value) : Prop where
 kk : k ≤ 2
 f4 : 4 ≤ f
 fd : f < d
 dD : d < D
 DP : D < P
 PN : P < w0.heap.size
 X0 : k = 0 → X = D
 XP : k ≠ 0 → D < X ∧ X < P
 parts : ∀ j, j < np k → w0.cell? ⟨P, j, none⟩ = some (F j)
 kp : KParts k w0 D X F
structure RM0 (k : Nat) (w0 w : World) (g off cap f d D X : Nat) (B : List Nat) (most : Nat) (q : RQ) (lv v : Value) : Prop where
 old : ∀ a, D < a → a ≠ X → a < w0.heap.size → w.heap[a]? = w0.heap[a]?
 src : Go.Bel.Src w g off (B.drop q.z)
 gin : g < f ∨ (w0.heap.size ≤ g ∧ ∃ A, w.heap[g]? = some (.cells A 5 (0, 0)))
 glt : g < w.heap.size
 order : OrderAt w
 xat : XwAt k w X D q lv
 lets : LetAt w w0.heap.size lv q.ls
 nolets : q.ls = [] → lv = .slice none 0 0
 feed : FeedAt w f (.slice (fedA g off (B.drop q.z).length) (B.drop q.z).length cap) (q.p - 8 * q.z) q.z
 big : w0.heap.size ≤ w.heap.size
 fresh : q.i < bi k → w.heap[d]? = some (freshD f most) ∧ v = .slice none 0 0
 inner : q.i = bi k → (w.heap[d]? = some (freshD f most) ∧ v = .slice none 0 0 ∧ q.s = gAt most q.p ∧ q.pre = [] ∧ q.o = []) ∨ ∃ sr : GS, HoldsG w d f w0.heap.size g off cap q.z (B.drop q.z) sr v ∧ q.s = sr.sh (8 * q.z) ∧ sr.taken = (q.pre ++ q.o).length ∧ sr.out = q.pre ++ q.o ∧ sr.most = most ∧ q.p = q.s.p
 vown : ∀ j, v.ownBlock = some j → w0.heap.size ≤ j ∧ j < w.heap.size ∧ j ≠ g
 behind : bi k < q.i → v = .slice none 0 0
 here : q.p ≤ 8 * B.length
 zp : 8 * q.z ≤ q.p
 dat : ∃ A, w.heap[d]? = some (.cells A 128 (0, 0))
structure RM (k : Nat) (w0 : World) (n0 : Nat) (w : World) (g off cap f d D X P : Nat) (B : List Nat) (most : Nat) (q : RQ) (lv vo v : Value) : Prop where
 m : RM0 k w0 w g off cap f d D X B most q lv v
 dec : WAtN w D f d (partsAt P q.i (np k)) vo (baOf q.nm)
 row : Taken w n0 vo q.o
def RO (D d f X : Nat) (lv v : Value) (j : Nat) : Prop := j = D ∨ j = d ∨ j = f ∨ j = X ∨ lv.ownBlock = some j ∨ v.ownBlock = some j
structure RD (D d f X : Nat) (w : World) (lv v : Value) (w' : World) (lv' v' : Value) : Prop where
 step : Step (RO D d f X lv v) w w'
 own : ∀ j, lv'.ownBlock = some j ∨ v'.ownBlock = some j → RO D d f X lv v j ∨ w.heap.size ≤ j
theorem RD.refl (D d f X : Nat) (w : World) (lv v : Value) : RD D d f X w lv v w lv v := ⟨Step.refl _ _, fun j h => .inl (by rcases h with h | h; exact .inr (.inr (.inr (.inr (.inl h)))); exact .inr (.inr (.inr (.inr (.inr h)))))⟩
theorem RD.ro {D d f X : Nat} {w w' : World} {lv v lv' v' : Value} (h : RD D d f X w lv v w' lv' v') (j : Nat) (hj : RO D d f X lv' v' j) : RO D d f X lv v j ∨ w.heap.size ≤ j := by
 rcases hj with x | x | x | x | x | x
 ·exact .inl (.inl x)
 ·exact .inl (.inr (.inl x))
 ·exact .inl (.inr (.inr (.inl x)))
 ·exact .inl (.inr (.inr (.inr (.inl x))))
 ·exact h.own j (.inl x)
 ·exact h.own j (.inr x)
theorem RD.trans {D d f X : Nat} {w w1 w2 : World} {lv v lv1 v1 lv2 v2 : Value} (h : RD D d f X w lv v w1 lv1 v1) (h' : RD D d f X w1 lv1 v1 w2 lv2 v2) : RD D d f X w lv v w2 lv2 v2 := by
 have hz := h.step.size
 refine ⟨h.step.trans' h'.step (fun j hj x => (h.ro j x).elim id (fun y => by omega)), fun j hj => ?_⟩
 rcases h'.own j hj with x | x
 ·exact h.ro j x
 ·exact .inr (by omega)
def rTail (k : Nat) (B : List Nat) (p : Nat) (o nm : List Nat) (e : Nat) (out : List Nat) (used : Nat) (name : List Nat) : Prop :=
 if k = 0 then e = 0 ∧ out = o ∧ p = 8 * used ∧ name = nm else if k = 1 then zTail B p o e out used ∧ name = nm else gzTail B p o nm e out used name
def rBody (k : Nat) (B : List Nat) (s : GS) (nm : List Nat) (e : Nat) (out : List Nat) (used : Nat) (name : List Nat) : Prop :=
 ∃ n e1 o1 q1, GRun B n s e1 o1 q1 ∧ if e1 = 0 then rTail k B q1 o1 nm e out used name else e = e1 ∧ out = o1 ∧ used = 0 ∧ name = nm
def RQ.g (q : RQ) : GQ := ⟨q.i, q.p, q.fl, q.left, q.head, q.check, q.size, q.ls, q.pre ++ q.o, q.nm⟩
def rRest (k : Nat) (B : List Nat) (most : Nat) (q : RQ) (e : Nat) (out : List Nat) (used : Nat) (name : List Nat) : Prop :=
 if q.i = bi k then rBody k B q.s q.nm e out used name
 else if k = 0 then e = 0 ∧ q.p = 8 * used ∧ q.pre ++ q.o = out ∧ name = q.nm
 else if k = 1 then zRest B most q.i q.p q.fl q.check (q.pre ++ q.o) e out used ∧ name = q.nm
 else gzRest B most q.g e out used name
def Bk (k : Nat) (B : List Nat) (most : Nat) (q q' : RQ) : Prop := ∀ Y e out used name, rRest k (B ++ Y) most q' e out used name → rRest k (B ++ Y) most q e out used name
structure RV (k : Nat) (B : List Nat) (most : Nat) (q : RQ) : Prop where
 bytes : AllB (q.pre ++ q.o)
 len : (q.pre ++ q.o).length ≤ most
 sum1 : k = 1 → q.check = adWith 1 (q.pre ++ q.o)
 sum2 : k = 2 → q.check = crcWith 0 (q.pre ++ q.o) ∧ q.size = (q.pre ++ q.o).length
 al8 : bi k < q.i → q.p % 8 = 0
 nopre : q.i < bi k → q.pre = [] ∧ q.o = []
 ile : q.i ≤ np k
 sat : q.i = bi k → q.s.place ≠ 3 ∧ q.s.p = q.p ∧ q.s.out = q.pre ++ q.o ∧ q.s.most = most
 k1 : k = 1 → 1 ≤ q.i → q.fl < 256
 p0 : k = 1 → q.i = 0 → q.p = 0
 p2 : k = 2 → q.i ≤ 3 → q.p = 8 * q.i
 k2 : k = 2 → GV B q.g
 k01 : k ≠ 2 → q.ls = [] ∧ q.nm = []
 hh : q.head < 4294967296
def rMeas (k : Nat) (B : List Nat) (q : RQ) : Nat := (13 - q.i) + (8 * B.length - q.p) + if q.i ≤ bi k then 8 * B.length else 0
def RRound (k : Nat) (w0 : World) (n0 : Nat) (g off cap f d D X P : Nat) (B : List Nat) (most : Nat) (q : RQ) (lv v : Value) (w : World) (r : Ending) (w2 : World) : Prop :=
  ∃ x : Nat, r = .returned (.int .i64 (x : Nat)) ∧
    ((x = 0 ∧ ∃ q' lv' vo' v', RM k w0 n0 w2 g off cap f d D X P B most q' lv' vo' v' ∧ (q'.i ≤ bi k → vo' = .slice none 0 0 ∧ q'.o = []) ∧ RD D d f X w lv v w2 lv' v' ∧ Bk k B most q q' ∧ RV k B most q' ∧ rMeas k B q' < rMeas k B q ∧ q'.z = q.z ∧ q'.pre = q.pre) ∨
     (x = 3 ∧ ∃ q' lv' vo' v', RM k w0 n0 w2 g off cap f d D X P B most q' lv' vo' v' ∧ RD D d f X w lv v w2 lv' v' ∧ Bk k B most q q' ∧ RV k B most q' ∧ rRest k B most q' 3 (q'.pre ++ q'.o) 0 q'.nm ∧ q'.z = q.z ∧ q'.pre = q.pre ∧ Apart vo' v') ∨
     (x ≠ 0 ∧ x ≠ 3 ∧ ∃ parts vo' o' nm', WAtN w2 D f d parts vo' (baOf nm') ∧ Taken w2 n0 vo' o' ∧ Step (RO D d f X lv v) w w2 ∧ ∀ Y, rRest k (B ++ Y) most q x (q.pre ++ o') 0 nm'))
end Go.Proofs.YtbpahojchgpdnaaGreatDoor
namespace Go.Bel
open Go Go.RowKit Go.Proofs.YtbpahojchgpdnaaGreatDoor
def G.tk (t : Nat) : G → G
 | .go s => .go { s with taken := t }
 | .no e out => .no e out
 | .miss => .miss
theorem gPut_tk (s : GS) (xs : List Nat) (p t : Nat) : gPut { s with taken := t } xs p = (gPut s xs p).tk t := by
 unfold gPut
 by_cases h : s.out.length + xs.length ≤ s.most
 ·rw [if_pos h, if_pos (by exact h)]; rfl
 ·rw [if_neg h, if_neg (by exact h)]; rfl
theorem gStep_tk (B : List Nat) (s : GS) (t : Nat) : gStep B { s with taken := t } = (gStep B s).tk t := by
 unfold gStep
 rw [show ({ s with taken := t } : GS).place = s.place from rfl]
 by_cases h1 : s.place = 1
 ·rw [if_pos h1, if_pos h1]
  unfold gByte
  rw [show ({ s with taken := t } : GS).left = s.left from rfl, show ({ s with taken := t } : GS).p = s.p from rfl]
  by_cases h2 : s.left = 0
  ·rw [if_pos h2, if_pos h2]; rfl
  ·rw [if_neg h2, if_neg h2]
   by_cases h3 : s.p + 8 ≤ 8 * B.length
   ·rw [if_pos h3, if_pos h3]; exact gPut_tk { s with left := s.left - 1 } _ _ t
   ·rw [if_neg h3, if_neg h3]; rfl
 ·rw [if_neg h1, if_neg h1]
  by_cases h2 : s.place = 2
  ·rw [if_pos h2, if_pos h2]
   unfold gSym
   rw [show ({ s with taken := t } : GS).ls = s.ls from rfl, show ({ s with taken := t } : GS).p = s.p from rfl, show ({ s with taken := t } : GS).out = s.out from rfl]
   cases rSym (dealAll s.ls) B s.p with
   | no e => rfl
   | miss => rfl
   | ok c q =>
    dsimp only
    by_cases h3 : c < 256
    ·rw [if_pos h3, if_pos h3]; exact gPut_tk s _ _ t
    ·rw [if_neg h3, if_neg h3]
     by_cases h4 : c = 256
     ·rw [if_pos h4, if_pos h4]; rfl
     ·rw [if_neg h4, if_neg h4]
      unfold gCopy
      cases rLength B q c with
      | no e => rfl
      | miss => rfl
      | ok n q1 =>
       dsimp only
       rw [show ({ s with taken := t } : GS).ld = s.ld from rfl]
       cases rDist (dealAll s.ld) B q1 with
       | no e => rfl
       | miss => rfl
       | ok dist q2 =>
        dsimp only
        by_cases h5 : s.out.length < dist
        ·rw [if_pos h5, if_pos h5]; rfl
        ·rw [if_neg h5, if_neg h5]; exact gPut_tk s _ _ t
  ·rw [if_neg h2, if_neg h2]
   unfold gHead
   rw [show ({ s with taken := t } : GS).p = s.p from rfl, show ({ s with taken := t } : GS).out = s.out from rfl]
   by_cases h3 : s.p + 3 ≤ 8 * B.length
   ·rw [if_pos h3, if_pos h3]
    by_cases h4 : numAt B (s.p + 1) 2 = 0
    ·rw [if_pos h4, if_pos h4]
     by_cases h5 : (s.p + 3 + 7) / 8 * 8 + 32 ≤ 8 * B.length
     ·rw [if_pos h5, if_pos h5]
      by_cases h6 : numAt B ((s.p + 3 + 7) / 8 * 8 + 16) 16 = 65535 - numAt B ((s.p + 3 + 7) / 8 * 8) 16
      ·rw [if_pos h6, if_pos h6]; rfl
      ·rw [if_neg h6, if_neg h6]; rfl
     ·rw [if_neg h5, if_neg h5]; rfl
    ·rw [if_neg h4, if_neg h4]
     by_cases h5 : numAt B (s.p + 1) 2 = 1
     ·rw [if_pos h5, if_pos h5]; rfl
     ·rw [if_neg h5, if_neg h5]
      by_cases h6 : numAt B (s.p + 1) 2 = 2
      ·rw [if_pos h6, if_pos h6]
       cases rCoding B (s.p + 3) with
       | no e => rfl
       | miss => rfl
       | ok ab q => rfl
      ·rw [if_neg h6, if_neg h6]; rfl
   ·rw [if_neg h3, if_neg h3]; rfl
theorem gRun_tk {B : List Nat} {n e : Nat} {s : GS} {out : List Nat} {q : Nat} (t : Nat) (h : GRun B n s e out q) : GRun B n { s with taken := t } e out q := by
 induction h with
 | done s h => exact .done { s with taken := t } h
 | no s e out h3 h => exact .no { s with taken := t } e out h3 (by rw [gStep_tk, h]; rfl)
 | miss s h3 h => exact .miss { s with taken := t } h3 (by rw [gStep_tk, h]; rfl)
 | go n s s1 e out q h3 h k ih => exact .go n { s with taken := t } _ e out q h3 (by rw [gStep_tk, h]; rfl) ih
theorem sees_app (B Y : List Nat) : Sees (B ++ Y) B 0 := by
 have h := Sees.part [] B Y
 simpa using h
theorem sees_drop (B Y : List Nat) {z : Nat} (hz : z ≤ B.length) : Sees (B ++ Y) (B.drop z) (8 * z) := by
 have h := Sees.part (B.take z) (B.drop z) Y
 rw [← List.append_assoc, List.take_append_drop, List.length_take, Nat.min_eq_left hz] at h
 exact h
theorem run_more {B : List Nat} (Y : List Nat) {n e : Nat} {s : GS} {out : List Nat} {q : Nat} (h : GRun B n s e out q) (he : e ≠ 3) : GRun (B ++ Y) n s e out q := by
 induction h with
 | done s h => exact .done s h
 | no s e out h3 h =>
  refine .no s e out h3 ?_
  rcases gStep_sees (sees_app B Y) s with x | x
  ·rw [h] at x; cases x
  ·rw [h] at x; exact x
 | miss s h3 h => exact absurd rfl he
 | go n s s1 e out q h3 h k ih =>
  refine .go n s s1 e out q h3 ?_ (ih he)
  rcases gStep_sees (sees_app B Y) s with x | x
  ·rw [h] at x; cases x
  ·rw [h] at x; exact x
theorem num_more {B : List Nat} (Y : List Nat) {p n : Nat} (h : p + n ≤ 8 * B.length) : numAt (B ++ Y) p n = numAt B p n := (sees_app B Y).num h
theorem bit_drop (B : List Nat) (z p : Nat) : bitAt (B.drop z) p = bitAt B (p + 8 * z) := by
 unfold bitAt
 rw [List.getElem?_drop, show (p + 8 * z) / 8 = z + p / 8 by omega, show (p + 8 * z) % 8 = p % 8 by omega]
theorem num_drop (B : List Nat) (z : Nat) : ∀ n p, numAt (B.drop z) p n = numAt B (p + 8 * z) n := by
 intro n
 induction n with
 | zero => intro p; rfl
 | succ n ih => intro p; rw [numAt, numAt, ih, bit_drop, show p + n + 8 * z = p + 8 * z + n by omega]
theorem num_at_drop (B : List Nat) {z p : Nat} (n : Nat) (h : 8 * z ≤ p) : numAt (B.drop z) (p - 8 * z) n = numAt B p n := by
 rw [num_drop, Nat.sub_add_cancel h]
theorem gStop_most {B : List Nat} {n : Nat} {s s' : GS} (h : GStop B n s s') (hm : s.out.length ≤ s.most) : s'.most = s.most ∧ s'.out.length ≤ s.most := by
 induction h with
 | here s h3 h => exact ⟨rfl, hm⟩
 | go n s s1 s2 h3 h k ih =>
  obtain ⟨h1, h2⟩ := (gStep_most hm).1 _ h
  obtain ⟨h4, h5⟩ := ih h1
  exact ⟨h4.trans h2, by rw [← h2]; exact h5⟩
end Go.Bel
namespace Go.Proofs.YtbpahojchgpdnaaGreatDoor
open Go.RowKit Go.Bel Go.Maps
theorem adFold_append (p : Nat × Nat) (xs ys : List Nat) : adFold p (xs ++ ys) = adFold (adFold p xs) ys := by simp [adFold]
theorem adWith_append (s : Nat) (hs : s < 4294967296) (xs ys : List Nat) : adWith s (xs ++ ys) = adWith (adWith s xs) ys := by
 have h := adFold_lt (s % 65536, s / 65536) (by show s % 65536 < _; omega) (by show s / 65536 < _; omega) xs
 unfold adWith
 rw [adFold_append]
 have e1 : (65536 * (adFold (s % 65536, s / 65536) xs).2 + (adFold (s % 65536, s / 65536) xs).1) % 65536 = (adFold (s % 65536, s / 65536) xs).1 := by omega
 have e2 : (65536 * (adFold (s % 65536, s / 65536) xs).2 + (adFold (s % 65536, s / 65536) xs).1) / 65536 = (adFold (s % 65536, s / 65536) xs).2 := by omega
 rw [e1, e2]
theorem lastAs_run {B : List Nat} {s s2 : GS} (hl : LastAs s s2) (k t : Nat) (h3 : s.place ≠ 3) {n e : Nat} {out : List Nat} {q : Nat} (h : GRun B n (({ s2 with taken := t } : GS).sh k) e out q) : GRun B n (s.sh k) e out q := by
 obtain ⟨l, h1, rfl⟩ := hl
 have h4 := gRun_tk s.taken h
 by_cases hp : s.place = 1 ∨ s.place = 2
 ·rw [h1 hp] at h4
  exact h4
 ·exact gRun_last (s := ({ s with last := l } : GS).sh k) s.last (fun x => hp (.inl x)) (fun x => hp (.inr x)) h3 h4
theorem lastAs_step {B : List Nat} {s s2 : GS} (hl : LastAs s s2) (k t : Nat) (h : Go.Bel.gStep B (s.sh k) = .miss) : Go.Bel.gStep B (({ s2 with taken := t } : GS).sh k) = .miss := by
 obtain ⟨l, h1, rfl⟩ := hl
 have h4 := gStep_tk B (({ s with last := l } : GS).sh k) t
 by_cases hp : s.place = 1 ∨ s.place = 2
 ·rw [h1 hp] at h4 ⊢
  exact h4.trans (by show (Go.Bel.gStep B (s.sh k)).tk t = .miss; rw [h]; rfl)
 ·have h5 := gStep_last (B := B) (s := s.sh k) l (fun x => hp (.inl x)) (fun x => hp (.inr x))
  refine h4.trans ?_
  rw [show ({ s with last := l } : GS).sh k = { s.sh k with last := l } from rfl, h5, h]
  rfl
end Go.Proofs.YtbpahojchgpdnaaGreatDoor
namespace Go.Proofs.YtbpahojchgpdnaaGreatDoor
open Go.RowKit Go.Bel Go.Maps
def RPart (k nb f d D X P : Nat) (s : Value) (Bd : List Nat) (N0 : Nat) (q q' : RQ) (thr : Bool) (x : Nat) (lv vo : Value) (w1 : World) : Ending → World → Prop :=
 ReadsTo nb (q.p - 8 * q.z) Bd f s q.z w1 fun r w' => r = .returned (.tuple #[.bool thr, .int .i64 (x : Nat)]) ∧ ∃ lv', XwAt k w' X D q' lv' ∧ LetAt w' N0 lv' q'.ls ∧ (∀ j, lv'.ownBlock = some j → lv.ownBlock = some j ∨ w1.heap.size ≤ j) ∧ WAtN w' D f d (partsAt P q.i (np k)) vo (baOf q'.nm) ∧ (q'.ls = [] → lv' = .slice none 0 0) ∧ Step (GS' f X D lv) w1 w'
variable {k : Nat} {w0 w : World} {n0 g off cap f d D X P : Nat} {F : Nat → Value} {B : List Nat} {most : Nat} {q : RQ} {lv vo v : Value}
theorem RM0.lvk (h : RM0 k w0 w g off cap f d D X B most q lv v) {j : Nat} (hj : lv.ownBlock = some j) (hS : RS k w0 f d D X P F) : w0.heap.size ≤ j ∧ j < w.heap.size ∧ j ≠ g := by
 have h1 := h.lets.lt j hj
 have := hS.fd; have := hS.dD; have := hS.DP; have := hS.PN
 refine ⟨h1.1, h1.2, fun e => ?_⟩
 rcases h.gin with x | ⟨_, A, x⟩
 ·omega
 ·exact let_ne h.lets x (by decide) (by rw [hj, e])
theorem rRead (hS : RS k w0 f d D X P F) (h : RM k w0 n0 w g off cap f d D X P B most q lv vo v) (hvn : q.i < bi k → vo = .slice none 0 0) (hv : RV k B most q) (hi : q.i < np k) (hib : q.i ≠ bi k) {q' : RQ} (nb id : Nat) (first caps : Array Value) (hF : F q.i = .func (.func id) first caps)
  (hcf : ∀ w, (callFunc id (first ++ caps)).run Tryz.prog w = .ok (.enter id (first ++ caps)) w) (thr : Bool) (x : Nat)
  (hc : ∀ w1, Step (fun _ => False) w w1 → Calls Tryz.prog id (first ++ caps) w1 (RPart k nb f d D X P (.slice (fedA g off (B.drop q.z).length) (B.drop q.z).length cap) (B.drop q.z) w0.heap.size q q' thr x lv vo w1))
  (ei : q'.i = if thr then q.i + 1 else q.i) (ep : q'.p = q.p + nb) (eo : q'.o = q.o) (epre : q'.pre = q.pre) (ez : q'.z = q.z) (es : q'.s = gAt most q'.p) (hpos : thr = true ∨ 0 < nb)
  (hok : q.p + nb ≤ 8 * B.length → (x = 0 ∧ RV k B most q' ∧ Bk k B most q q') ∨ (x ≠ 0 ∧ x ≠ 3 ∧ ∀ Y, rRest k (B ++ Y) most q x (q.pre ++ q.o) 0 q'.nm))
  (hmiss : 8 * B.length < q.p + nb → rRest k B most q 3 (q.pre ++ q.o) 0 q.nm) :
  ZW f D w (RRound k w0 n0 g off cap f d D X P B most q lv v w) := by
 have hm := h.m
 have c1 := hS.f4; have c2 := hS.fd; have c3 := hS.dD; have c4 := hS.DP; have c5 := hS.PN
 have hk0 : k ≠ 0 := fun e => by
  subst e
  have e1 : np 0 = 1 := rfl
  have e2 : bi 0 = 0 := rfl
  omega
 obtain ⟨c6, c7⟩ := hS.XP hk0
 have hbn := bi_lt k
 have hnp := np_le k
 have hb := hm.big
 have hlvk : ∀ j, lv.ownBlock = some j → w0.heap.size ≤ j ∧ j < w.heap.size ∧ j ≠ g := fun j hj => hm.lvk hj hS
 have hd := h.dec
 have hdl := lt_of_block hd
 rw [partsAt_lt hi] at hd
 have hvnil : v = .slice none 0 0 := by
  by_cases y : q.i < bi k
  ·exact (hm.fresh y).2
  ·exact hm.behind (by omega)
 have hgn : g ≠ f ∧ g ≠ D ∧ g ≠ X ∧ g < w.heap.size := ⟨by rcases hm.gin with y | y <;> omega, by rcases hm.gin with y | y <;> omega, by rcases hm.gin with y | y <;> omega, hm.glt⟩
 have hXb := hm.xat.blk hk0
 have hlsn : bi k < q.i → q.ls = [] := fun y => by
  by_cases hk2 : k = 2
  ·subst hk2
   exact (hv.k2 rfl).ls (by have e2 : bi 2 = 10 := rfl; show q.i ≠ 7; omega)
  ·exact (hv.k01 hk2).1
 have hvok : ∀ j, vo.ownBlock = some j → j ≠ D ∧ j ≠ f ∧ j ≠ X ∧ lv.ownBlock ≠ some j ∧ j < w.heap.size := by
  intro j hj
  refine ⟨fun e => taken_ne h.row h.dec (by decide) (by rw [hj, e]), fun e => taken_ne h.row hm.feed (by decide) (by rw [hj, e]), fun e => ?_, fun e => ?_, (h.row.lt j hj).2⟩
  ·obtain ⟨A, t, hb2, ht⟩ := hXb
   exact taken_ne h.row hb2 (by rcases ht with rfl | rfl <;> decide) (by rw [hj, e])
  ·by_cases y : q.i < bi k
   ·rw [hvn y] at hj; cases hj
   ·rw [hm.nolets (hlsn (by omega))] at e; cases e
 have hdr : (B.drop q.z).length = B.length - q.z := List.length_drop
 have hzp := hm.zp
 have hhere := hm.here
 /- what any such step leaves -/
 have hany : ∀ w2, Step (fun j => j = D ∨ GS' f X D lv j ∨ j = w.heap.size + 1) w w2 → (∀ a, D < a → a ≠ X → a < w0.heap.size → w2.heap[a]? = w0.heap[a]?) ∧ Go.Bel.Src w2 g off (B.drop q.z) ∧ (g < f ∨ (w0.heap.size ≤ g ∧ ∃ A, w2.heap[g]? = some (.cells A 5 (0, 0)))) ∧ g < w2.heap.size ∧ OrderAt w2 ∧ w0.heap.size ≤ w2.heap.size ∧ Taken w2 n0 vo q.o ∧ (∀ o, w.heap[d]? = some o → w2.heap[d]? = some o) ∧ Step (RO D d f X lv v) w w2 := fun w2 hs => by
  have hz := hs.size
  have hgS : ¬ (g = D ∨ GS' f X D lv g ∨ g = w.heap.size + 1) := fun y => by
   rcases y with y | (y | y | y | y) | y
   ·exact hgn.2.1 y
   ·exact hgn.1 y
   ·exact hgn.2.2.1 y
   ·exact hgn.2.1 y
   ·exact (hlvk g y).2.2 rfl
   ·omega
  refine ⟨fun a a1 a2 a3 => ?_, hm.src.step hs hgS, ?_, by omega, hm.order.step hs (fun j hj y => ?_), by omega, taken_step h.row hs (fun j hj y => ?_), fun o y => hs.at_ y (fun z => ?_), ⟨hs.os, hs.tape, hs.output, hs.size, fun j hj y => hs.block j hj (fun z => y ?_)⟩⟩
  ·rw [← hm.old a a1 a2 a3]
   refine hs.block a (by omega) (fun y => ?_)
   rcases y with y | (y | y | y | y) | y
   ·omega
   ·omega
   ·exact a2 y
   ·omega
   ·have := hlvk a y; omega
   ·omega
  ·rcases hm.gin with y | ⟨y, A, z⟩
   ·exact .inl y
   ·exact .inr ⟨y, A, hs.at_ z hgS⟩
  ·rcases y with y | (y | y | y | y) | y
   ·omega
   ·omega
   ·omega
   ·omega
   ·have := hlvk j y; omega
   ·omega
  ·obtain ⟨a1, a2, a3, a4, a5⟩ := hvok j hj
   rcases y with y | (y | y | y | y) | y
   ·exact a1 y
   ·exact a2 y
   ·exact a3 y
   ·exact a1 y
   ·exact a4 y
   ·omega
  ·rcases z with y | (y | y | y | y) | y
   ·omega
   ·omega
   ·omega
   ·omega
   ·have := hlvk d y; omega
   ·omega
  ·rcases z with z | (z | z | z | z) | z
   ·exact .inl z
   ·exact .inr (.inr (.inl z))
   ·exact .inr (.inr (.inr (.inl z)))
   ·exact .inl z
   ·exact .inr (.inr (.inr (.inr (.inl z))))
   ·omega
 have hparts : w.cell? ⟨P, q.i, none⟩ = some (.func (.func id) first caps) := by
  rw [← hF]
  exact (World.cell?_of_block (a := ⟨P, q.i, none⟩) (hm.old P c4 (by omega) c5)).trans (hS.parts q.i hi)
 refine (wwhole_part D f d P q.i (np k - q.i - 1) (q.p - 8 * q.z) id first caps (.slice (fedA g off (B.drop q.z).length) (B.drop q.z).length cap) vo q.z (baOf q.nm) (GS' f X D lv)
  (fun t y w' => q.p + nb ≤ 8 * B.length ∧ t = thr ∧ y = x ∧ FeedAt w' f (.slice (fedA g off (B.drop q.z).length) (B.drop q.z).length cap) (q.p + nb - 8 * q.z) q.z ∧ ∃ lv', XwAt k w' X D q' lv' ∧ LetAt w' w0.heap.size lv' q'.ls ∧ (∀ j, lv'.ownBlock = some j → lv.ownBlock = some j ∨ w.heap.size + 3 ≤ j) ∧ WAtN w' D f d (partsAt P q.i (np k)) vo (baOf q'.nm) ∧ (q'.ls = [] → lv' = .slice none 0 0))
  (fun w' => 8 * B.length < q.p + nb ∧ WAtN w' D f d (partsAt P q.i (np k)) vo (baOf q.nm) ∧ XwAt k w' X D q lv ∧ LetAt w' w0.heap.size lv q.ls)
  w hcf hd hparts (by omega) hm.feed (fun j y => by
   rcases y with y | y | y | y
   ·omega
   ·omega
   ·omega
   ·exact (hlvk j y).2.1) (by omega) ?_).mono ?_
 ·intro w1 hs1 hsz1
  refine (hc w1 hs1).mono ?_
  rintro r w' (⟨k1, k2, rfl, lv', k3, k4, k5, k6, k7, k8⟩ | ⟨k1, rfl, k2, k3⟩)
  ·refine ⟨k8, ⟨_, k2⟩, ⟨vo, _, by rw [← partsAt_lt hi]; exact k6⟩, .inl ⟨thr, x, rfl, by omega, rfl, rfl, ?_, lv', k3, k4, by rw [← hsz1]; exact k5, k6, k7⟩⟩
   rw [show q.p + nb - 8 * q.z = q.p - 8 * q.z + nb by omega]
   exact k2
  ·have k4 : WAtN w' D f d (partsAt P q.i (np k)) vo (baOf q.nm) := k3.at_ (hs1.at_ h.dec (fun y => y)) (by omega)
   exact ⟨k3.mono (fun j y => .inl y), ⟨_, k2⟩, ⟨vo, _, by rw [← partsAt_lt hi]; exact k4⟩, .inr ⟨rfl, ⟨by omega, k4, (hm.xat.step hs1 (fun _ y => y)).step k3 (fun _ y => by omega), let_step (let_step hm.lets hs1 (fun _ _ y => y)) k3 (fun j hj y => by have := hlvk j hj; omega)⟩⟩⟩
 ·intro r w2 hw
  have hst := whole_step hw (.inl rfl)
  obtain ⟨e1, e2, e3, e4, e5, e6, e7, e8, e9⟩ := hany w2 hst
  obtain ⟨w1, w', vo', nm', s1, z1, s2, d1, ⟨t, y, rfl, ⟨k1, rfl, rfl, k2, lv', k3, k4, k5, k6, k7⟩, d2, d3⟩ | ⟨rfl, ⟨k0, k1, k2, k3⟩, d2, d3, d4⟩⟩ := hw.ex
  ·rw [← partsAt_lt hi] at d1
   obtain ⟨rfl, rfl⟩ := watn_inj d1 k6
   have z2 := s1.size
   have hlk : ∀ j, lv'.ownBlock = some j → j ≠ D ∧ j ≠ w.heap.size + 1 := fun j hj => by
    have := (k4.lt j hj).1
    rcases k5 j hj with y | y
    ·have := hlvk j y; omega
    ·omega
   have hdec2 : WAtN w2 D f d (partsAt P q'.i (np k)) vo' (baOf q'.nm) := by
    rw [ei]
    rw [← partsAt_lt hi, partsAt_next hi] at d2
    cases t with
    | true => exact d2
    | false => exact d2
   rcases hok k1 with ⟨hx, hv', hbk⟩ | ⟨hx, hx3, hall⟩
   ·refine ⟨y, rfl, .inl ⟨hx, q', lv', vo', .slice none 0 0, ⟨⟨e1, by rw [ez]; exact e2, e3, e4, e5, k3.step d3 (fun _ z => by rcases z with z | z <;> omega), let_step k4 d3 (fun j hj z => by
      have := hlk j hj
      rcases z with z | z
      ·exact this.1 z
      ·exact this.2 z), k7, ?_, e6, fun z => ?_, fun z => ?_, fun j hj => (by simp [Value.ownBlock] at hj), fun _ => rfl, by omega, by rw [ez]; omega, hm.dat.imp fun A y => e8 _ y⟩, hdec2, by rw [eo]; exact e7⟩, fun z => ?_, ⟨e9, fun j hj => ?_⟩, hbk, hv', ?_, ez, epre⟩⟩
    ·rw [ez, ep]
     exact d3.at_ k2 (fun z => by rcases z with z | z <;> omega)
    ·have hlt : q.i < bi k := by rw [ei] at z; cases t <;> simp at z <;> omega
     exact ⟨e8 _ (hm.fresh hlt).1, rfl⟩
    ·have hlt : q.i < bi k := by rw [ei] at z; cases t <;> simp at z <;> omega
     exact .inl ⟨e8 _ (hm.fresh hlt).1, rfl, es, by rw [epre]; exact (hv.nopre hlt).1, by rw [eo]; exact (hv.nopre hlt).2⟩
    ·have hlt : q.i < bi k := by rw [ei] at z; cases t <;> simp at z <;> omega
     exact ⟨hvn hlt, by rw [eo]; exact (hv.nopre hlt).2⟩
    ·rcases hj with hj | hj
     ·rcases k5 j hj with z | z
      ·exact .inl (.inr (.inr (.inr (.inr (.inl z)))))
      ·exact .inr (by omega)
     ·simp [Value.ownBlock] at hj
    ·unfold rMeas
     rw [ei, ep]
     have hif : ∀ a b : Nat, a ≤ b → (if b ≤ bi k then 8 * B.length else 0) ≤ (if a ≤ bi k then 8 * B.length else 0) := fun a b hab => by
      by_cases z : b ≤ bi k
      ·rw [if_pos z, if_pos (by omega)]; exact Nat.le_refl _
      ·rw [if_neg z]; exact Nat.zero_le _
     have hif1 := hif q.i (q.i + 1) (by omega)
     cases t with
     | true => show 13 - (q.i + 1) + (8 * B.length - (q.p + nb)) + (if q.i + 1 ≤ bi k then 8 * B.length else 0) < _; omega
     | false =>
      rcases hpos with z | z
      ·cases z
      ·show 13 - q.i + (8 * B.length - (q.p + nb)) + (if q.i ≤ bi k then 8 * B.length else 0) < _; omega
   ·exact ⟨y, rfl, .inr (.inr ⟨hx, hx3, _, vo', q.o, q'.nm, hdec2, e7, e9, hall⟩)⟩
  ·refine ⟨3, rfl, .inr (.inl ⟨rfl, q, lv, vo, v, ⟨⟨e1, e2, e3, e4, e5, k2.step d4 (fun _ z => by rcases z with z | z <;> omega), let_step k3 d4 (fun j hj z => by
     have := hlvk j hj
     rcases z with z | z <;> omega), hm.nolets, d3, e6, fun z => ⟨e8 _ (hm.fresh z).1, (hm.fresh z).2⟩, fun z => absurd z hib, fun j hj => (by rw [hvnil] at hj; simp [Value.ownBlock] at hj), hm.behind, hm.here, hm.zp, hm.dat.imp fun A y => e8 _ y⟩, d4.at_ k1 (fun z => by rcases z with z | z <;> omega), e7⟩, ⟨e9, fun j hj => .inl ?_⟩, fun _ _ _ _ _ z => z, hv, hmiss k0, rfl, rfl, fun j _ hj => by rw [hvnil] at hj; simp [Value.ownBlock] at hj⟩)⟩
   rcases hj with hj | hj
   ·exact .inr (.inr (.inr (.inr (.inl hj))))
   ·exact .inr (.inr (.inr (.inr (.inr hj))))
end Go.Proofs.YtbpahojchgpdnaaGreatDoor
namespace Go.Proofs.YtbpahojchgpdnaaGreatDoor
open Go.RowKit Go.Bel Go.Maps
structure WWholeB (D f d P i n : Nat) (S : Nat → Prop) (Q : Bool → Nat → World → Prop) (w : World) (r : Ending) (w2 : World) : Prop where
 ex : ∃ w1 w' vo nm A, Step (fun _ => False) w w1 ∧ w1.heap.size = w.heap.size + 3 ∧ Step S w1 w' ∧ WAtN w' D f d (partsV P i (n + 1)) vo nm ∧ w'.heap[w.heap.size + 1]? = some (.cells A 43 (0, 0)) ∧
  ∃ (thr : Bool) (e : Nat), r = .returned (.int .i64 (e : Nat)) ∧ Q thr e w' ∧ w2 = (if thr then w'.setCell ⟨D, 2, none⟩ (partsN P i n) else w').setCell ⟨w.heap.size + 1, 0, none⟩ (.int .i64 (e : Nat))
theorem wwhole_bare (D f d P i n p id : Nat) (first caps : Array Value) (s vo : Value) (z : Nat) (nm : ByteArray) (S : Nat → Prop) (Q : Bool → Nat → World → Prop) (w : World) (hcf : ∀ w, (callFunc id (first ++ caps)).run Tryz.prog w = .ok (.enter id (first ++ caps)) w)
  (hD : WAtN w D f d (partsV P i (n + 1)) vo nm) (hP : w.cell? ⟨P, i, none⟩ = some (.func (.func id) first caps)) (hn : n ≤ 100) (hF : FeedAt w f s p z) (hS : ∀ k, S k → k < w.heap.size) (hfD : f ≠ D)
  (hc : ∀ w1, Step (fun _ => False) w w1 → w1.heap.size = w.heap.size + 3 → Calls Tryz.prog id (first ++ caps) w1 fun r w' => PartP D f d P i n s z S Q (fun _ => False) w1 r w') :
  ZW f D w fun r w2 => WWholeB D f d P i n S Q w r w2 := by
 have hDl := lt_of_block hD
 have hFl := lt_of_block hF
 refine (whole_wrap (z := z) f D p s w (fun w1 r w2 => WStepP D f d P i n s z S Q (fun _ => False) w1 r w2 ∧ w1.heap[w.heap.size + 1]? = some (.cells #[.int .i64 0] 43 (0, 0))) hF ?_ ?_).mono ?_
 ·intro w1 hs hsz hr1
  refine (wstep_part D f d P i n id first caps s vo z nm S Q (fun _ => False) w1 hcf (hs.at_ hD (fun x => x)) (hs.cell hP (fun x => x)) hn (hc w1 hs hsz)).mono ?_
  intro r w2 h
  obtain ⟨w', vo', nm', h1, h2, h3, ⟨thr, e, rfl, _⟩ | ⟨rfl, _⟩⟩ := h.ex
  ·exact ⟨.inl ⟨e, rfl⟩, h, hr1⟩
  ·exact ⟨.inr rfl, h, hr1⟩
 ·rintro w1 r w2 hs hsz ⟨h, _⟩
  obtain ⟨w', vo', nm', h1, ⟨q, h2⟩, h3, h4⟩ := h.ex
  have hst : Step (fun k => S k ∨ k = D) w1 w2 := by
   rcases h4 with ⟨thr, e, _, _, rfl⟩ | ⟨_, _, rfl⟩
   ·cases thr with
    | true => exact (h1.mono (fun k x => .inl x)).setCell (p := ⟨D, 2, none⟩) (.inr rfl) _
    | false => exact h1.mono (fun k x => .inl x)
   ·exact h1.mono (fun k x => .inl x)
  have hnot : ∀ k, w.heap.size ≤ k → ¬ (S k ∨ k = D) := fun k hk x => by
   rcases x with x | x
   ·have := hS k x; omega
   ·omega
  have hf2 : FeedAt w2 f s q z := by
   rcases h4 with ⟨thr, e, _, _, rfl⟩ | ⟨_, _, rfl⟩
   ·cases thr with
    | true => exact ((Step.refl (· = D) w').setCell (p := ⟨D, 2, none⟩) rfl _).at_ h2 (fun x => hfD x)
    | false => exact h2
   ·exact h2
  exact ⟨hst.block _ (by omega) (hnot _ (by omega)), hst.block _ (by omega) (hnot _ (by omega)), hst.block _ (by omega) (hnot _ (by omega)), q, hf2⟩
 ·rintro r w2 ⟨w1, e1, w3, hs, hsz, ⟨h, hr1⟩, hend⟩
  obtain ⟨w', vo', nm', h1, ⟨q, h2⟩, h3, h4⟩ := h.ex
  rcases h4 with ⟨thr, e, he, hq, rfl⟩ | ⟨_, hf, _⟩
  ·rcases hend with ⟨y, hy, rfl, rfl⟩ | ⟨hy, _⟩
   ·rw [he] at hy
    have hye : e = y := by
     simp only [Ending.returned.injEq, Value.int.injEq, true_and] at hy
     omega
    subst hye
    exact ⟨⟨w1, w', vo', nm', _, hs, hsz, h1, h3, h1.at_ hr1 (fun x => by have := hS _ x; omega), thr, e, rfl, hq, rfl⟩⟩
   ·rw [he] at hy; cases hy
  ·exact hf.elim
theorem holdsG_new {w : World} {f d base g off cap z most p : Nat} {B : List Nat} (hS : Go.Bel.Src w g off B) (hO : OrderAt w) (hm : most ≤ 1048576) (hgf : g ≠ f) (hgd : g ≠ d) (hgl : g < w.heap.size) (hf0 : 4 ≤ f) (hfd : f < d) (hdb : d < base) (hsz : base ≤ w.heap.size) (hp : p ≤ 8 * B.length)
  (hF : FeedAt w f (.slice (fedA g off B.length) B.length cap) p z) (hD : w.heap[d]? = some (freshD f most)) : HoldsG w d f base g off cap z B (gAt most p) (.slice none 0 0) := by
 refine ⟨⟨⟨.slice none 0 0, [], 0, most, 0, false, 0, .map none, 0, .map none, 0, .pointer none⟩, rfl, ⟨⟨hD, World.ownsRow_nil _ _ _ _, by omega, by omega, by omega, by omega⟩, hF, hS, ⟨by omega, by omega, by simp [Value.ownBlock]⟩, by omega⟩, ⟨⟨[], rfl, .inl rfl⟩, rfl, Nat.le_refl _⟩, rfl, rfl, rfl, rfl, ⟨_, rfl⟩, ⟨_, rfl⟩, .inl rfl, fun h => by simp [gAt, gInit] at h⟩, hO, ⟨by omega, by omega⟩, by omega, hm, by simp [gAt, gInit], by simp [gAt, gInit], by simpa [gAt] using hp⟩
variable {k : Nat} {w0 w : World} {n0 g off cap f d D X P : Nat} {F : Nat → Value} {B : List Nat} {most : Nat} {q : RQ} {lv vo v : Value}
def RQ.bared (k : Nat) (q : RQ) (ys : List Nat) : RQ := { q with check := if k = 1 then adWith q.check ys else crcWith q.check ys, size := q.size + ys.length, o := ys }
theorem RM0.holds (hS : RS k w0 f d D X P F) (h : RM0 k w0 w g off cap f d D X B most q lv v) (hi : q.i = bi k) (ho : q.o = []) (hm : most ≤ 1048576) : ∃ sr : GS, HoldsG w d f w0.heap.size g off cap q.z (B.drop q.z) sr v ∧ q.s = sr.sh (8 * q.z) ∧ sr.taken = q.pre.length ∧ sr.out = q.pre ∧ sr.most = most ∧ q.p = q.s.p := by
 have c1 := hS.f4; have c2 := hS.fd; have c3 := hS.dD; have c4 := hS.DP; have c5 := hS.PN
 have hz := h.zp; have hh := h.here
 have hdr : (B.drop q.z).length = B.length - q.z := List.length_drop
 rcases h.inner hi with ⟨h1, rfl, h3, h4, h5⟩ | ⟨sr, h1, h2, h3, h4, h5, h6⟩
 ·refine ⟨gAt most (q.p - 8 * q.z), holdsG_new h.src h.order hm (by rcases h.gin with y | y <;> omega) (by rcases h.gin with y | y <;> omega) h.glt c1 c2 (by omega) h.big (by omega) h.feed h1, ?_, by rw [h4]; rfl, by rw [h4]; rfl, rfl, by rw [h3]; rfl⟩
  rw [h3]
  unfold gAt GS.sh
  simp only
  congr 1
  omega
 ·rw [ho, List.append_nil] at h3 h4
  exact ⟨sr, h1, h2, h3, h4, h5, h6⟩
theorem cf_bare0 (args : Array Value) (w : World) : (callFunc 50 args).run Tryz.prog w = .ok (.enter 50 args) w := by kernel_rfl
theorem bare_part (hS : RS k w0 f d D X P F) (h : RM0 k w0 w g off cap f d D X B most q lv v) (hd : WAtN w D f d (partsAt P q.i (np k)) (.slice none 0 0) (baOf q.nm)) (hv : RV k B most q) (hi : q.i = bi k) (ho : q.o = []) (hm : most ≤ 1048576) {sr : GS} (hH : HoldsG w d f w0.heap.size g off cap q.z (B.drop q.z) sr v) (e1 : q.s = sr.sh (8 * q.z)) (e4 : sr.out = q.pre) (e5 : sr.most = most) :
  ∃ id first caps, F q.i = .func (.func id) first caps ∧ (∀ w, (callFunc id (first ++ caps)).run Tryz.prog w = .ok (.enter id (first ++ caps)) w) ∧ ∀ w1, Step (fun _ => False) w w1 → Calls Tryz.prog id (first ++ caps) w1 fun r w' => ∃ (e : Nat) (vo : Value) (ys : List Nat), r = .returned (.tuple #[.bool (e == 0), .int .i64 (e : Nat)]) ∧ WAtN w' D f d (partsAt P q.i (np k)) vo (baOf q.nm) ∧ Taken w' w1.heap.size vo ys ∧ Step (fun j => (j = D ∨ j = d ∨ j = f ∨ v.ownBlock = some j) ∨ j = X) w1 w' ∧ XwAt k w' X D (q.bared k ys) lv ∧ AllB ys ∧ ys.length ≤ most ∧ InnerK d f w0.heap.size g off cap q.z (B.drop q.z) sr v w1.heap.size e vo ys w' := by
 have c1 := hS.f4; have c2 := hS.fd; have c3 := hS.dD; have c4 := hS.DP; have c5 := hS.PN
 have hpre := hv.bytes
 have hlen := hv.len
 rw [ho, List.append_nil] at hpre hlen
 obtain ⟨hs3, _⟩ := hv.sat hi
 have hs3 : sr.place ≠ 3 := by rw [e1] at hs3; exact hs3
 have hDo : DOff d f v D := ⟨by omega, by omega, fun y => by have := h.vown D y; omega⟩
 have hgD : g ≠ D := by rcases h.gin with y | y <;> omega
 have hB : ∀ w1, Step (fun _ => False) w w1 → Calls Tryz.prog 50 #[.pointer (some ⟨D, 0, none⟩)] w1 fun r w' => ∃ (e : Nat) (vo : Value) (ys : List Nat), r = .returned (.tuple #[.bool (e == 0), .int .i64 (e : Nat)]) ∧ WAtN w' D f d (partsAt P q.i (np k)) vo (baOf q.nm) ∧ Taken w' w1.heap.size vo ys ∧ Step (fun j => j = D ∨ j = d ∨ j = f ∨ v.ownBlock = some j) w1 w' ∧ AllB ys ∧ ys.length ≤ 1048576 ∧ (ys.length ≤ most ∧ AllB ys ∧ InnerK d f w0.heap.size g off cap q.z (B.drop q.z) sr v w1.heap.size e vo ys w') := fun w1 hs1 => by
  refine (bareK D d f w0.heap.size g off cap q.z _ _ _ sr v w1 (hs1.at_ hd (fun x => x)) hDo (by omega) (by omega) hgD (hH.step0 hs1)).mono ?_
  rintro r w' ⟨e, vo, ys, rfl, a1, a2, a3, a4⟩
  obtain ⟨b1, b2⟩ := a4.bytes (by rw [e4]; exact hpre) (fun x => absurd x hs3) (by rw [e4, e5]; exact hlen)
  rw [e5] at b2
  exact ⟨e, vo, ys, rfl, a1, a2, a3, b1, by omega, b2, b1, a4⟩
 have hkp := hS.kp
 unfold KParts at hkp
 by_cases k0 : k = 0
 ·subst k0
  rw [if_pos rfl] at hkp
  refine ⟨50, #[.pointer (some ⟨D, 0, none⟩)], #[], by rw [hi]; exact hkp, cf_bare0 _, fun w1 hs1 => (hB w1 hs1).mono ?_⟩
  rintro r w' ⟨e, vo, ys, rfl, a1, a2, a3, a4, a5, a6, a7, a8⟩
  exact ⟨e, vo, ys, rfl, a1, a2, a3.mono (fun j x => .inl x), trivial, a4, a6, a8⟩
 ·rw [if_neg k0] at hkp
  obtain ⟨c6, c7⟩ := hS.XP k0
  have hSX : ¬ (X = D ∨ X = d ∨ X = f ∨ v.ownBlock = some X) := fun y => by
   rcases y with y | y | y | y
   ·omega
   ·omega
   ·omega
   ·have := h.vown X y; omega
  have hgX : g ≠ X := by rcases h.gin with y | y <;> omega
  have hx := h.xat
  unfold XwAt at hx
  rw [if_neg k0] at hx
  by_cases k1 : k = 1
  ·subst k1
   rw [if_pos rfl] at hkp hx
   refine ⟨77, #[.pointer (some ⟨X, 0, none⟩)], #[], by rw [hi]; exact hkp 2 (by omega), cf_bare _, fun w1 hs1 => ?_⟩
   refine (zBareK X D d f q.fl q.check _ _ w1 _ (fun e vo ys w' => ys.length ≤ most ∧ AllB ys ∧ InnerK d f w0.heap.size g off cap q.z (B.drop q.z) sr v w1.heap.size e vo ys w') (hs1.at_ hx (fun x => x)) hSX (by omega) (by rw [hv.sum1 rfl]; exact adWith_lt 1 (by omega) _) (fun e vo ys w2 w3 A hb hs2 hk => ⟨hk.1, hk.2.1, hk.2.2.other hs2 hb (by decide) (by decide) (by decide) (by decide) hgX (by omega)⟩) (hB w1 hs1)).mono ?_
   rintro r w' ⟨e, vo, ys, rfl, a1, a2, a3, a4, a5, a6, a7⟩
   exact ⟨e, vo, ys, rfl, a1, a2, a3, a4, a6, a5, a7⟩
  ·rw [if_neg k1] at hkp hx
   have hk2 : k = 2 := by have := hS.kk; omega
   subst hk2
   refine ⟨87, #[.pointer (some ⟨X, 0, none⟩)], #[], by rw [hi]; exact hkp.p10, cf_gbare _, fun w1 hs1 => ?_⟩
   refine (gBareK X D d f q.fl q.left q.head q.check q.size lv _ _ w1 _ (fun e vo ys w' => ys.length ≤ most ∧ AllB ys ∧ InnerK d f w0.heap.size g off cap q.z (B.drop q.z) sr v w1.heap.size e vo ys w') (hs1.at_ hx (fun x => x)) hSX (by omega) (by rw [(hv.sum2 rfl).1]; exact crcWith_lt _ _) (by rw [(hv.sum2 rfl).2, ho, List.append_nil]; omega) (fun e vo ys w2 w3 A hb hs2 hk => ⟨hk.1, hk.2.1, hk.2.2.other hs2 hb (by decide) (by decide) (by decide) (by decide) hgX (by omega)⟩) (hB w1 hs1)).mono ?_
   rintro r w' ⟨e, vo, ys, rfl, a1, a2, a3, a4, a5, a6, a7⟩
   exact ⟨e, vo, ys, rfl, a1, a2, a3, a4, a6, a5, a7⟩
end Go.Proofs.YtbpahojchgpdnaaGreatDoor
namespace Go.Proofs.YtbpahojchgpdnaaGreatDoor
open Go.RowKit Go.Bel Go.Maps
variable {k : Nat} {w0 w : World} {n0 g off cap f d D X P : Nat} {F : Nat → Value} {B : List Nat} {most : Nat} {q : RQ} {lv vo v : Value}
theorem rest_tail {k : Nat} {B : List Nat} {most : Nat} {q : RQ} (hk : k ≤ 2) (hi : q.i = bi k + 1) {e : Nat} {out : List Nat} {used : Nat} {name : List Nat} (h : rRest k B most q e out used name) : rTail k B q.p (q.pre ++ q.o) q.nm e out used name := by
 unfold rRest at h
 rw [if_neg (by omega)] at h
 unfold rTail
 by_cases k0 : k = 0
 ·subst k0
  rw [if_pos rfl] at h ⊢
  exact ⟨h.1, h.2.2.1.symm, h.2.1, h.2.2.2⟩
 ·rw [if_neg k0] at h ⊢
  by_cases k1 : k = 1
  ·subst k1
   rw [if_pos rfl] at h ⊢
   have e3 : q.i = 3 := hi
   rw [e3] at h
   exact ⟨h.1.2.2, h.2⟩
  ·rw [if_neg k1] at h ⊢
   have k2 : k = 2 := by omega
   subst k2
   have e3 : q.g.i = 11 := hi
   unfold gzRest at h
   rw [e3] at h
   exact h.2.2.2
theorem begins_drop {pre out : List Nat} (h : pre <+: out) : pre ++ out.drop pre.length = out := by
 obtain ⟨t, rfl⟩ := h
 rw [List.drop_left]
theorem RV.bared (hv : RV k B most q) (ho : q.o = []) (ys : List Nat) (hl : (q.pre ++ ys).length ≤ most) (hy : AllB ys) (i' p' : Nat) (s' : GS) (hi : q.i = bi k) (hi' : bi k ≤ i' ∧ i' ≤ bi k + 1) (h8 : bi k < i' → p' % 8 = 0) (hs : i' = bi k → s'.place ≠ 3 ∧ s'.p = p' ∧ s'.out = q.pre ++ ys ∧ s'.most = most) : RV k B most { q.bared k ys with i := i', p := p', s := s' } := by
 have hb := hv.bytes
 have hbn := bi_lt k
 rw [ho, List.append_nil] at hb
 refine ⟨hb.append hy, hl, fun e => ?_, fun e => ?_, h8, fun y => by have y : i' < bi k := y; omega, by show i' ≤ np k; omega, hs, fun e y => hv.k1 e (by subst e; have : bi 1 = 2 := rfl; omega), fun e y => by
  subst e
  have : bi 1 = 2 := rfl
  have y : i' = 0 := y
  omega, fun e y => by
  subst e
  have : bi 2 = 10 := rfl
  have y : i' ≤ 3 := y
  omega, fun e => ?_, hv.k01, hv.hh⟩
 ·show (if k = 1 then adWith q.check ys else crcWith q.check ys) = adWith 1 (q.pre ++ ys)
  rw [if_pos e, hv.sum1 e, ho, List.append_nil, adWith_append 1 (by omega)]
 ·refine ⟨?_, ?_⟩
  ·show (if k = 1 then adWith q.check ys else crcWith q.check ys) = crcWith 0 (q.pre ++ ys)
   rw [if_neg (by omega), (hv.sum2 e).1, ho, List.append_nil, crcWith_append 0 _ _ hb]
  ·show q.size + ys.length = (q.pre ++ ys).length
   rw [(hv.sum2 e).2, ho, List.append_nil, List.length_append]
 ·subst e
  have hg := hv.k2 rfl
  have hb2 : bi 2 = 10 := rfl
  have hls : q.ls = [] := hg.ls (by show q.i ≠ 7; omega)
  exact ⟨fun y => by have y : i' ≤ 9 := y; omega, fun _ => hg.fl (by show 4 ≤ q.i; omega), hg.lf, fun _ => hls, hg.lb, by show 8 * q.ls.length ≤ p'; rw [hls]; simp, fun y => by have y : i' ≤ 7 := y; omega, fun y => by have y : i' ≤ 3 := y; omega, fun _ => hls⟩
theorem rBare (hS : RS k w0 f d D X P F) (h : RM k w0 n0 w g off cap f d D X P B most q lv vo v) (hvo : vo = .slice none 0 0) (ho : q.o = []) (hv : RV k B most q) (hi : q.i = bi k) (hm : most ≤ 1048576) (hn0 : n0 ≤ w.heap.size) :
  ZW f D w (RRound k w0 n0 g off cap f d D X P B most q lv v w) := by
 have hm0 := h.m
 have c1 := hS.f4; have c2 := hS.fd; have c3 := hS.dD; have c4 := hS.DP; have c5 := hS.PN
 have hbn := bi_lt k
 have hnp := np_le k
 have hb := hm0.big
 have hzp := hm0.zp
 have hhere := hm0.here
 have hin : q.i < np k := by omega
 have hX : X = D ∨ (D < X ∧ X < P) := by
  by_cases k0 : k = 0
  ·exact .inl (hS.X0 k0)
  ·exact .inr (hS.XP k0)
 obtain ⟨sr, hH, e1, e2, e4, e5, e6⟩ := hm0.holds hS hi ho hm
 have hd := h.dec
 rw [hvo] at hd
 obtain ⟨id, first, caps, hF, hcf, hcall⟩ := bare_part hS hm0 hd hv hi ho hm hH e1 e4 e5
 have hlsn : q.ls = [] := by
  by_cases hk2 : k = 2
  ·subst hk2
   exact (hv.k2 rfl).ls (by have e2 : bi 2 = 10 := rfl; show q.i ≠ 7; omega)
  ·exact (hv.k01 hk2).1
 have hlv := hm0.nolets hlsn
 have hgn : g ≠ f ∧ g ≠ D ∧ g ≠ X ∧ g ≠ d := ⟨by rcases hm0.gin with y | y <;> omega, by rcases hm0.gin with y | y <;> omega, by rcases hm0.gin with y | y <;> omega, by rcases hm0.gin with y | y <;> omega⟩
 have hdr : (B.drop q.z).length = B.length - q.z := List.length_drop
 have hparts : w.cell? ⟨P, q.i, none⟩ = some (.func (.func id) first caps) := by
  rw [← hF]
  exact (World.cell?_of_block (a := ⟨P, q.i, none⟩) (hm0.old P c4 (by omega) c5)).trans (hS.parts q.i hin)
 have hdl := lt_of_block hd
 have hfl := lt_of_block hm0.feed
 have hdl2 := hH.place.2.2.2.1
 have hd1 := hd
 rw [partsAt_lt hin] at hd1
 refine (wwhole_bare D f d P q.i (np k - q.i - 1) (q.p - 8 * q.z) id first caps (.slice (fedA g off (B.drop q.z).length) (B.drop q.z).length cap) _ q.z (baOf q.nm) (fun j => (j = D ∨ j = d ∨ j = f ∨ v.ownBlock = some j) ∨ j = X)
  (fun t y w' => t = (y == 0) ∧ ∃ vo' ys, WAtN w' D f d (partsAt P q.i (np k)) vo' (baOf q.nm) ∧ Taken w' (w.heap.size + 3) vo' ys ∧ XwAt k w' X D (q.bared k ys) lv ∧ AllB ys ∧ ys.length ≤ most ∧ InnerK d f w0.heap.size g off cap q.z (B.drop q.z) sr v (w.heap.size + 3) y vo' ys w')
  w hcf hd1 hparts (by omega) hm0.feed (fun j y => by
   rcases y with (y | y | y | y) | y
   ·omega
   ·omega
   ·omega
   ·exact (hm0.vown j y).2.1
   ·omega) (by omega) ?_).mono ?_
 ·intro w1 hs1 hsz1
  refine (hcall w1 hs1).mono ?_
  rintro r w' ⟨e, vo', ys, rfl, a1, a2, a3, a4, a5, a6, a7⟩
  exact ⟨a3, a7.feed, ⟨vo', _, by rw [← partsAt_lt hin]; exact a1⟩, .inl ⟨_, e, rfl, rfl, vo', ys, a1, by rw [← hsz1]; exact a2, a4, a5, a6, by rw [← hsz1]; exact a7⟩⟩
 ·intro r w2 hw
  obtain ⟨w1, w', vo', nm', A, s1, z1, s2, d1, d2, t, y, rfl, ⟨rfl, vo2, ys, a1, a2, a4, a5, a6, a7⟩, hw2⟩ := hw.ex
  rw [← partsAt_lt hin] at d1
  obtain ⟨rfl, rfl⟩ := watn_inj d1 a1
  have z2 := s1.size
  have z3 := s2.size
  have hXl : X < w.heap.size := by omega
  have hst0 : Step (fun j => j = D ∨ j = w.heap.size + 1) w' w2 := by
   rw [hw2]
   cases (y == 0) with
   | true => exact ((Step.refl _ w').setCell (p := ⟨D, 2, none⟩) (.inl rfl) _).setCell (p := ⟨w.heap.size + 1, 0, none⟩) (.inr rfl) _
   | false => exact (Step.refl _ w').setCell (p := ⟨w.heap.size + 1, 0, none⟩) (.inr rfl) _
  have hst : Step (RO D d f X lv v) w w2 := by
   refine (((s1.mono (S' := RO D d f X lv v) (fun _ x => x.elim)).trans' s2 (fun j _ x => ?_)).trans' hst0 (fun j hj x => ?_))
   ·rcases x with (x | x | x | x) | x
    ·exact .inl x
    ·exact .inr (.inl x)
    ·exact .inr (.inr (.inl x))
    ·exact .inr (.inr (.inr (.inr (.inr x))))
    ·exact .inr (.inr (.inr (.inl x)))
   ·rcases x with x | x
    ·exact .inl x
    ·omega
  have hRO : ∀ j, RO D d f X lv v j → j = D ∨ j = d ∨ j = f ∨ j = X ∨ (w0.heap.size ≤ j ∧ j < w.heap.size ∧ j ≠ g) := fun j x => by
   rcases x with x | x | x | x | x | x
   ·exact .inl x
   ·exact .inr (.inl x)
   ·exact .inr (.inr (.inl x))
   ·exact .inr (.inr (.inr (.inl x)))
   ·rw [hlv] at x; cases x
   ·exact .inr (.inr (.inr (.inr (hm0.vown j x))))
  have hold : ∀ a, D < a → a ≠ X → a < w0.heap.size → w2.heap[a]? = w0.heap[a]? := fun a b1 b2 b3 => by
   rw [← hm0.old a b1 b2 b3]
   exact hst.block a (by omega) (fun x => by rcases hRO a x with x | x | x | x | x <;> omega)
  have hgS : ¬ RO D d f X lv v g := fun x => by
   rcases hRO g x with x | x | x | x | x
   ·exact hgn.2.1 x
   ·exact hgn.2.2.2 x
   ·exact hgn.1 x
   ·exact hgn.2.2.1 x
   ·exact x.2.2 rfl
  have hsrc := hm0.src.step hst hgS
  have hgin : g < f ∨ (w0.heap.size ≤ g ∧ ∃ A, w2.heap[g]? = some (.cells A 5 (0, 0))) := by
   rcases hm0.gin with x | ⟨x, A, z⟩
   ·exact .inl x
   ·exact .inr ⟨x, A, hst.at_ z hgS⟩
  have hglt := hm0.glt
  have z4 := hst.size
  have hord := hm0.order.step hst (fun j hj x => by rcases hRO j x with x | x | x | x | x <;> omega)
  have hxat : XwAt k w2 X D (q.bared k ys) lv := a4.step hst0 (fun k0 x => by
   have := hS.XP k0
   rcases x with x | x <;> omega)
  have hrow : Taken w2 n0 vo' ys := (taken_step a2 hst0 (fun j hj x => by
   have := (a2.lt j hj).1
   rcases x with x | x <;> omega)).mono (by omega)
  have hlets : LetAt w2 w0.heap.size lv q.ls := by
   rw [hlv, hlsn]
   exact World.ownsRow_nil _ _ _ _
  have hdec : WAtN w2 D f d (if (y == 0) = true then partsAt P (q.i + 1) (np k) else partsAt P q.i (np k)) vo' (baOf q.nm) := by
   rw [hw2]
   cases (y == 0) with
   | true =>
    have h9 := blk_set d1 2 (partsN P q.i (np k - q.i - 1))
    rw [partsAt_next hin] at h9
    refine ((Step.refl (· = w.heap.size + 1) _).setCell (p := ⟨w.heap.size + 1, 0, none⟩) rfl _).at_ (k := D) ?_ (by omega)
    rw [partsAt_next hin]
    simpa using h9
   | false => exact ((Step.refl (· = w.heap.size + 1) _).setCell (p := ⟨w.heap.size + 1, 0, none⟩) rfl _).at_ (k := D) d1 (by omega)
  have hsame := Same.drop B (z := q.z) (by omega)
  have hnov : ∀ j, (Value.slice none 0 0).ownBlock = some j → False := fun j hj => by simp [Value.ownBlock] at hj
  rcases a7 with ⟨n, out, q1, hy3, hr, rfl, q', hf', hq', hda⟩ | ⟨rfl, n, s', s2', v', b1, b2, rfl, b4, b5, b6⟩
  ·/- no bit is missing -/
   have hpre : q.pre ++ out.drop sr.taken = out := by
    have := hr.begins
    rw [e4] at this
    rw [e2]
    exact begins_drop this
   have hrB := run_same hsame hr
   rw [← e1] at hrB
   have hlen : (q.pre ++ out.drop sr.taken).length ≤ most := by
    rw [hpre, ← e5]
    exact hr.most (by rw [e4, e5]; have := hv.len; rw [ho, List.append_nil] at this; exact this)
   by_cases hy0 : y = 0
   ·subst hy0
    obtain ⟨rfl, hq1⟩ := hq' rfl
    rw [if_pos rfl] at hrB
    have h8 : (q' + 8 * q.z) % 8 = 0 := by
     have := (hr.bytes (by rw [e4]; have := hv.bytes; rw [ho, List.append_nil] at this; exact this) (fun x => absurd x (by have := (hv.sat hi).1; rw [e1] at this; exact this))).2
     omega
    refine ⟨0, rfl, .inl ⟨rfl, { q.bared k (out.drop sr.taken) with i := bi k + 1, p := q' + 8 * q.z }, lv, vo', .slice none 0 0, ⟨⟨hold, hsrc, hgin, by omega, hord, hxat, hlets, hm0.nolets, ?_, by omega, fun z => by have z : bi k + 1 < bi k := z; omega, fun z => by have z : bi k + 1 = bi k := z; omega, fun j hj => (hnov j hj).elim, fun _ => rfl, by show q' + 8 * q.z ≤ _; omega, by show 8 * q.z ≤ q' + 8 * q.z; omega, hda.imp fun A y => hst0.at_ y (fun x => by rcases x with x | x <;> omega)⟩, ?_, hrow⟩, fun z => by have z : bi k + 1 ≤ bi k := z; omega, ⟨hst, fun j hj => ?_⟩, ?_, ?_, ?_, rfl, rfl⟩⟩
    ·show FeedAt w2 f _ (q' + 8 * q.z - 8 * q.z) q.z
     rw [Nat.add_sub_cancel]
     exact hst0.at_ hf' (fun x => by rcases x with x | x <;> omega)
    ·show WAtN w2 D f d (partsAt P (bi k + 1) (np k)) vo' (baOf q.nm)
     rw [hi] at hdec
     exact hdec
    ·rcases hj with hj | hj
     ·exact .inl (.inr (.inr (.inr (.inr (.inl hj)))))
     ·exact (hnov j hj).elim
    ·intro Y e out' used name hrest
     have ht := rest_tail (q := { q.bared k (out.drop sr.taken) with i := bi k + 1, p := q' + 8 * q.z }) hS.kk rfl hrest
     unfold rRest
     rw [if_pos hi]
     refine ⟨n, 0, out, _, run_more Y hrB (by omega), ?_⟩
     rw [if_pos rfl]
     have ht : rTail k (B ++ Y) (q' + 8 * q.z) (q.pre ++ out.drop sr.taken) q.nm e out' used name := ht
     rw [hpre] at ht
     exact ht
    ·exact hv.bared ho _ hlen a5 (bi k + 1) _ q.s hi ⟨by omega, by omega⟩ (fun _ => h8) (fun z => by omega)
    ·unfold rMeas
     show 13 - (bi k + 1) + (8 * B.length - (q' + 8 * q.z)) + (if bi k + 1 ≤ bi k then 8 * B.length else 0) < 13 - q.i + (8 * B.length - q.p) + (if q.i ≤ bi k then 8 * B.length else 0)
     rw [if_neg (by omega), if_pos (by omega)]
     omega
   ·rw [if_neg hy0] at hrB
    refine ⟨y, rfl, .inr (.inr ⟨hy0, hy3, _, vo', out.drop sr.taken, q.nm, hdec, hrow, hst, fun Y => ?_⟩)⟩
    unfold rRest
    rw [if_pos hi]
    refine ⟨n, y, out, 0, run_more Y hrB hy3, ?_⟩
    rw [if_neg hy0]
    exact ⟨rfl, hpre, rfl, rfl⟩
  ·/- bits are missing -/
   obtain ⟨m3, m4⟩ := b1.miss
   obtain ⟨nr, hrun⟩ := b1.run
   have hlen0 : sr.out.length ≤ sr.most := by rw [e4, e5]; have := hv.len; rw [ho, List.append_nil] at this; exact this
   obtain ⟨hmo, hle⟩ := gStop_most b1 hlen0
   have hso : s2'.out = s'.out ∧ s2'.most = s'.most ∧ s2'.place = s'.place ∧ s2'.p = s'.p := by
    obtain ⟨l, _, rfl⟩ := b2
    exact ⟨rfl, rfl, rfl, rfl⟩
   have hpre : q.pre ++ s'.out.drop sr.taken = s'.out := by
    have := hrun.begins
    rw [e4] at this
    rw [e2]
    exact begins_drop this
   have hH2 : HoldsG w2 d f w0.heap.size g off cap q.z (B.drop q.z) { s2' with taken := s2'.out.length } v' := by
    rw [hw2]
    have hs3 : Step (· = w.heap.size + 1) w' (w'.setCell ⟨w.heap.size + 1, 0, none⟩ (.int .i64 ((3 : Nat) : Int))) := (Step.refl (· = w.heap.size + 1) w').setCell (p := ⟨w.heap.size + 1, 0, none⟩) rfl _
    exact b4.other hs3 d2 (by decide) (by decide) (by decide) (by decide) (by omega) (by omega)
   have hbits := b4.bits
   have hbits : s2'.p ≤ 8 * (B.drop q.z).length := hbits
   have hv' : RV k B most { q.bared k (s'.out.drop sr.taken) with i := q.i, p := s2'.p + 8 * q.z, s := ({ s2' with taken := s2'.out.length } : GS).sh (8 * q.z) } := hv.bared ho _ (by rw [hpre, ← e5]; exact hle) a5 q.i _ _ hi ⟨by omega, by omega⟩ (fun z => by omega) (fun _ => ⟨by show s2'.place ≠ 3; rw [hso.2.2.1]; exact m3, rfl, by show s2'.out = _; rw [hpre, hso.1], by show s2'.most = most; rw [hso.2.1, hmo, e5]⟩)
   refine ⟨3, rfl, .inr (.inl ⟨rfl, { q.bared k (s'.out.drop sr.taken) with i := q.i, p := s2'.p + 8 * q.z, s := ({ s2' with taken := s2'.out.length } : GS).sh (8 * q.z) }, lv, vo', v', ⟨⟨hold, hsrc, hgin, by omega, hord, hxat, hlets, hm0.nolets, ?_, by omega, fun z => by have z : q.i < bi k := z; omega, fun _ => .inr ⟨_, hH2, rfl, ?_, ?_, ?_, rfl⟩, fun j hj => ?_, fun z => by have z : bi k < q.i := z; omega, by show s2'.p + 8 * q.z ≤ _; omega, by show 8 * q.z ≤ s2'.p + 8 * q.z; omega, by obtain ⟨st, _, hon, _⟩ := hH2.ex; exact ⟨_, hon.dec.blk⟩⟩, ?_, hrow⟩, ⟨hst, fun j hj => ?_⟩, ?_, hv', ?_, rfl, rfl, b6⟩)⟩
   ·show FeedAt w2 f _ (s2'.p + 8 * q.z - 8 * q.z) q.z
    rw [Nat.add_sub_cancel]
    exact hH2.place.2.2.1
   ·show s2'.out.length = (q.pre ++ s'.out.drop sr.taken).length
    rw [hpre, hso.1]
   ·show s2'.out = q.pre ++ s'.out.drop sr.taken
    rw [hpre, hso.1]
   ·show s2'.most = most
    rw [hso.2.1, hmo, e5]
   ·obtain ⟨st, rfl, hon, _⟩ := hH2.ex
    have h1 := hon.dec.own.lt j hj
    exact ⟨h1.1, h1.2, fun e => hon.goff.row (by rw [hj, e])⟩
   ·exact hdec
   ·rcases hj with hj | hj
    ·exact .inl (.inr (.inr (.inr (.inr (.inl hj)))))
    ·rcases b5 j hj with x | x
     ·exact .inl (.inr (.inr (.inr (.inr (.inr x)))))
     ·exact .inr (by omega)
   ·intro Y e out' used name hrest
    unfold rRest at hrest ⊢
    rw [if_pos (by exact hi)] at hrest
    rw [if_pos hi]
    obtain ⟨n1, x1, o1, q1, hr1, hrest⟩ := hrest
    obtain ⟨m', hr2⟩ := b1.on (sees_drop B Y (by omega)) (lastAs_run b2 _ _ m3 hr1)
    rw [← e1] at hr2
    exact ⟨m', x1, o1, q1, hr2, hrest⟩
   ·unfold rRest
    rw [if_pos (by exact hi)]
    refine ⟨1, 3, _, 0, .miss _ (by show s2'.place ≠ 3; rw [hso.2.2.1]; exact m3) (lastAs_step b2 _ _ ?_), ?_⟩
    ·rw [gStep_same hsame, m4]; rfl
    ·rw [if_neg (by omega)]
     exact ⟨rfl, by show q.pre ++ s'.out.drop sr.taken = s2'.out; rw [hpre, hso.1], rfl, rfl⟩
end Go.Proofs.YtbpahojchgpdnaaGreatDoor
