/- Proved here: how the wrapping decoder goes through a Zlib. -/
import Derived.Test.YtbpahojchgpdnaaGreatDoorZlibA
set_option maxRecDepth 20000
set_option maxHeartbeats 4000000
namespace Go.Proofs.YtbpahojchgpdnaaGreatDoor
open Go.RowKit Go.Bel Go.Maps
def zPart (Z : Nat) : Nat → Value
 | 0 => .func (.func 75) #[.pointer (some ⟨Z, 0, none⟩)] #[]
 | 1 => .func (.func 76) #[.pointer (some ⟨Z, 0, none⟩)] #[]
 | 2 => .func (.func 77) #[.pointer (some ⟨Z, 0, none⟩)] #[]
 | _ => .func (.func 78) #[.pointer (some ⟨Z, 0, none⟩)] #[]
theorem cf_first (args : Array Value) (w : World) : (callFunc 75 args).run Tryz.prog w = .ok (.enter 75 args) w := by kernel_rfl
theorem cf_second (args : Array Value) (w : World) : (callFunc 76 args).run Tryz.prog w = .ok (.enter 76 args) w := by kernel_rfl
theorem cf_bare (args : Array Value) (w : World) : (callFunc 77 args).run Tryz.prog w = .ok (.enter 77 args) w := by kernel_rfl
theorem cf_sum (args : Array Value) (w : World) : (callFunc 78 args).run Tryz.prog w = .ok (.enter 78 args) w := by kernel_rfl
structure ZPl (base0 g f d D X P : Nat) : Prop where
 b4 : 4 ≤ base0
 gb : g < base0
 bf : base0 ≤ f
 fd : f < d
 dD : d < D
 DX : D < X
 XP : X < P
def freshD (f most : Nat) : Obj := .cells #[.pointer (some ⟨f, 0, none⟩), .slice none 0 0, .int .i64 0, .int .i64 (most : Nat), .int .i64 0, .bool false, .int .i64 0, .map none, .int .i64 0, .map none, .int .i64 0, .pointer none] 128 (0, 0)
def ZS (D d f X k : Nat) : Prop := k = D ∨ k = d ∨ k = f ∨ k = X
structure WEnv (w0 w : World) (D d f X g off P : Nat) (B : List Nat) (np : Nat) (F : Nat → Value) : Prop where
 src : Go.Bel.Src w g off B
 order : OrderAt w
 parts : ∀ j, j < np → w.cell? ⟨P, j, none⟩ = some (F j)
 step : Step (ZS D d f X) w0 w
theorem WEnv.go {w0 w w' : World} {base0 D d f X g off P : Nat} {B : List Nat} {np : Nat} {F : Nat → Value} {S : Nat → Prop} (h : WEnv w0 w D d f X g off P B np F) (hs : Step S w w') (hS : ∀ k, S k → base0 ≤ k ∧ k ≠ P ∧ (k < w0.heap.size → ZS D d f X k)) (hg : g < base0) (hb : 4 ≤ base0) : WEnv w0 w' D d f X g off P B np F :=
 ⟨h.src.step hs (fun x => by have := (hS g x).1; omega), h.order.step hs (fun k hk x => by have := (hS k x).1; omega), fun j hj => hs.cell (h.parts j hj) (fun x => (hS P x).2.1 rfl), h.step.trans' hs (fun k hk x => (hS k x).2.2 hk)⟩
structure ZFin (w0 w : World) (base0 f d D X : Nat) (s : Value) (e : Nat) (out : List Nat) (used : Nat) (nm : ByteArray) : Prop where
 dec : ∃ parts vo, WAtN w D f d parts vo nm ∧ Taken w base0 vo out
 feed : e = 0 → FeedAt w f s (8 * used) 0
 step : Step (ZS D d f X) w0 w
def partsAt (P i np : Nat) : Value := if i < np then partsV P i (np - i) else .slice (some ⟨P, np - 1, none⟩) 0 0
theorem partsAt_lt {P i np : Nat} (h : i < np) : partsAt P i np = partsV P i ((np - i - 1) + 1) := by
 unfold partsAt
 rw [if_pos h, show np - i - 1 + 1 = np - i by omega]
theorem partsAt_next {P i np : Nat} (h : i < np) : partsN P i (np - i - 1) = partsAt P (i + 1) np := by
 unfold partsAt partsN
 by_cases h1 : i + 1 < np
 ·rw [if_pos h1, if_neg (by omega)]
  unfold partsV
  rw [show np - (i + 1) = np - i - 1 by omega]
 ·rw [if_neg h1, if_pos (by omega), show np - 1 = i by omega]
structure WRead (D f d P i np p nb : Nat) (s : Value) (B : List Nat) (vo : Value) (nm : ByteArray) (S : Nat → Prop) (Q : Bool → Nat → World → Prop) (w : World) (r : Ending) (w2 : World) : Prop where
 out : (∃ (thr : Bool) (e : Nat) (w' : World) (vo' : Value) (nm' : ByteArray), r = .returned (.int .i64 (e : Nat)) ∧ p + nb ≤ 8 * B.length ∧ Q thr e w' ∧ Step (fun k => k = D ∨ k = w.heap.size + 1) w' w2 ∧ FeedAt w2 f s (p + nb) 0 ∧ WAtN w' D f d (partsAt P i np) vo' nm' ∧ WAtN w2 D f d (if thr then partsAt P (i + 1) np else partsAt P i np) vo' nm') ∨
  (r = .returned (.int .i64 3) ∧ 8 * B.length < p + nb ∧ FeedAt w2 f s p 0 ∧ WAtN w2 D f d (partsAt P i np) vo nm)
 step : Step (fun k => k = D ∨ S k ∨ k = w.heap.size + 1) w w2
theorem whole_step {D f d P i n p : Nat} {s : Value} {z : Nat} {S : Nat → Prop} {Q : Bool → Nat → World → Prop} {L : World → Prop} {w : World} {r : Ending} {w2 : World} (h : WWholeP D f d P i n p s z S Q L w r w2) (hfS : S f) : Step (fun k => k = D ∨ S k ∨ k = w.heap.size + 1) w w2 := by
 obtain ⟨w1, w', vo, nm, h1, _, h2, _, ⟨thr, e, _, _, _, h3⟩ | ⟨_, _, _, _, h3⟩⟩ := h.ex
 ·exact ((h1.mono (fun _ x => x.elim)).trans (h2.mono (fun k x => .inr (.inl x)))).trans (h3.mono (fun k x => x.elim .inl (fun y => .inr (.inr y))))
 ·exact ((h1.mono (fun _ x => x.elim)).trans (h2.mono (fun k x => .inr (.inl x)))).trans (h3.mono (fun k x => x.elim (fun y => .inr (.inl (y ▸ hfS))) (fun y => .inr (.inr y))))
theorem wread (D f d P i np p nb id : Nat) (first caps : Array Value) (s vo : Value) (B : List Nat) (nm : ByteArray) (S : Nat → Prop) (Q : Bool → Nat → World → Prop) (w : World) (hcf : ∀ w, (callFunc id (first ++ caps)).run Tryz.prog w = .ok (.enter id (first ++ caps)) w)
  (hi : i < np) (hnp : np ≤ 100) (hD : WAtN w D f d (partsAt P i np) vo nm) (hP : w.cell? ⟨P, i, none⟩ = some (.func (.func id) first caps)) (hF : FeedAt w f s p 0) (hS : ∀ k, S k → k < w.heap.size) (hfS : S f) (hfD : f ≠ D)
  (hc : ∀ w1, Step (fun _ => False) w w1 → Calls Tryz.prog id (first ++ caps) w1 (ReadsTo nb p B f s 0 w1 fun r w' => (∃ (thr : Bool) (e : Nat), r = .returned (.tuple #[.bool thr, .int .i64 (e : Nat)]) ∧ Q thr e w') ∧ (∃ vo' nm', WAtN w' D f d (partsAt P i np) vo' nm') ∧ Step S w1 w')) :
  Calls Tryz.prog 125 #[.pointer (some ⟨f, 0, none⟩), .func (.func 124) #[.pointer (some ⟨D, 0, none⟩)] #[]] w
   fun r w2 => WRead D f d P i np p nb s B vo nm S Q w r w2 := by
 rw [partsAt_lt hi] at hD
 refine (wwhole_part D f d P i (np - i - 1) p id first caps s vo 0 nm S (fun thr e w' => p + nb ≤ 8 * B.length ∧ FeedAt w' f s (p + nb) 0 ∧ Q thr e w') (fun w' => 8 * B.length < p + nb ∧ WAtN w' D f d (partsAt P i np) vo nm) w hcf hD hP (by omega) hF hS hfD ?_).mono ?_
 ·intro w1 hs1 _
  refine (hc w1 hs1).mono ?_
  rintro r w' (⟨h1, h2, ⟨thr, e, rfl, hq⟩, ⟨vo', nm', h3⟩, h4⟩ | ⟨h1, rfl, h2, h4⟩)
  ·rw [partsAt_lt hi] at h3
   exact ⟨h4, ⟨_, h2⟩, ⟨vo', nm', h3⟩, .inl ⟨thr, e, rfl, h1, h2, hq⟩⟩
  ·have h3 := h4.at_ (hs1.at_ hD (fun x => x)) (fun x => hfD x.symm)
   exact ⟨h4.mono (fun k x => by rw [x]; exact hfS), ⟨_, h2⟩, ⟨vo, nm, h3⟩, .inr ⟨rfl, h1, by rw [partsAt_lt hi]; exact h3⟩⟩
 ·intro r w2 h
  refine ⟨?_, whole_step h hfS⟩
  obtain ⟨w1, w', vo', nm', h1, _, h2, h3, ⟨thr, e, rfl, ⟨hq1, hq2, hq3⟩, h4, h5⟩ | ⟨rfl, ⟨hl1, hl2⟩, h4, h5, h6⟩⟩ := h.ex
  ·have hfl : f < w.heap.size := hS f hfS
   refine .inl ⟨thr, e, w', vo', nm', rfl, hq1, hq3, h5, h5.at_ hq2 (fun x => by rcases x with x | x; exact hfD x; omega), by rw [partsAt_lt hi]; exact h3, ?_⟩
   rw [← partsAt_next hi, partsAt_lt hi]
   exact h4
  ·refine .inr ⟨rfl, hl1, h5, ?_⟩
   have hDl := lt_of_block hD
   exact h6.at_ hl2 (fun x => by rcases x with x | x; exact hfD x.symm; omega)
end Go.Proofs.YtbpahojchgpdnaaGreatDoor
namespace Go.Proofs.YtbpahojchgpdnaaGreatDoor
open Go.RowKit Go.Bel Go.Maps
theorem taken_ne {w : World} {base h t : Nat} {v : Value} {ys : List Nat} {A : Array Value} (own : Taken w base v ys) (blk : w.heap[h]? = some (.cells A t (0, 0))) (ht : t ≠ 5) : v.ownBlock ≠ some h := fun x => by
 obtain ⟨_, ⟨hv, _⟩ | ⟨g, cap, cur, hv, _, hh, _⟩⟩ := own
 ·rw [hv] at x; cases x
 ·rw [hv] at x
  cases x
  rw [hh] at blk
  cases blk
  exact ht rfl
theorem taken_step {S : Nat → Prop} {w w' : World} {base : Nat} {v : Value} {ys : List Nat} (h : Taken w base v ys) (hs : Step S w w') (hn : ∀ k, v.ownBlock = some k → ¬ S k) : Taken w' base v ys :=
 ownsRow_of_block h fun k hk => hs.block k (h.lt k hk).2 (hn k hk)
structure ZM (w0 w : World) (base0 g off cap f d D Z P : Nat) (B : List Nat) (most i p first sum : Nat) (vo : Value) (o : List Nat) : Prop where
 env : WEnv w0 w D d f Z g off P B 4 (zPart Z)
 dec : WAtN w D f d (partsAt P i 4) vo ⟨#[]⟩
 zat : ZAt w Z D first sum
 feed : FeedAt w f (.slice (fedA g off B.length) B.length cap) p 0
 big : P < w.heap.size
 row : Taken w base0 vo o
 fresh : i ≤ 2 → w.heap[d]? = some (freshD f most) ∧ vo = .slice none 0 0 ∧ o = [] ∧ sum = 1
 here : p ≤ 8 * B.length
def zRest (B : List Nat) (most i p first sum : Nat) (o : List Nat) (e : Nat) (out : List Nat) (used : Nat) : Prop :=
 match i with
 | 0 => p = 0 ∧ zAll B most e out used
 | 1 => first < 256 ∧ zSec B most p first e out used
 | 2 => zBody B most p e out used
 | 3 => sum = adWith 1 o ∧ p % 8 = 0 ∧ zTail B p o e out used
 | _ => e = 0 ∧ p = 8 * used ∧ o = out
theorem ZM.env2 {w0 w w2 : World} {base0 g off cap f d D Z P : Nat} {B : List Nat} {most i p first sum : Nat} {vo : Value} {o : List Nat} (h : ZM w0 w base0 g off cap f d D Z P B most i p first sum vo o) (pl : ZPl base0 g f d D Z P) {S : Nat → Prop} (hs : Step (fun k => k = D ∨ S k ∨ k = w.heap.size + 1) w w2) (hS : ∀ k, S k → k = D ∨ k = d ∨ k = f ∨ k = Z) : WEnv w0 w2 D d f Z g off P B 4 (zPart Z) ∧ P < w2.heap.size := by
 have := pl.b4; have := pl.gb; have := pl.bf; have := pl.fd; have := pl.dD; have := pl.DX; have := pl.XP
 have hb := h.big
 have hz := h.env.step.size
 refine ⟨h.env.go hs (fun k x => ?_) pl.gb pl.b4, Nat.lt_of_lt_of_le hb hs.size⟩
 rcases x with x | x | x
 ·exact ⟨by omega, by omega, fun _ => .inl x⟩
 ·exact ⟨by rcases hS k x with y | y | y | y <;> omega, by rcases hS k x with y | y | y | y <;> omega, fun _ => hS k x⟩
 ·exact ⟨by omega, by omega, fun y => by omega⟩
theorem ZM.fin {w0 w w2 : World} {base0 g off cap f d D Z P : Nat} {B : List Nat} {most i p first sum : Nat} {vo : Value} {o : List Nat} (h : ZM w0 w base0 g off cap f d D Z P B most i p first sum vo o) (pl : ZPl base0 g f d D Z P) (hs : Step (fun k => k = D ∨ (k = f ∨ k = Z) ∨ k = w.heap.size + 1) w w2) {parts : Value} (hd : WAtN w2 D f d parts vo ⟨#[]⟩) {e used : Nat} (he : e ≠ 0) : ZFin w0 w2 base0 f d D Z (.slice (fedA g off B.length) B.length cap) e o used ⟨#[]⟩ := by
 have hb := h.big
 refine ⟨⟨parts, vo, hd, taken_step h.row hs (fun k hk x => ?_)⟩, fun x => absurd x he, (h.env2 pl hs (fun k x => x.elim (fun y => .inr (.inr (.inl y))) (fun y => .inr (.inr (.inr y))))).1.step⟩
 rcases x with x | (x | x) | x
 ·exact taken_ne h.row h.dec (by decide) (by rw [hk, x])
 ·exact taken_ne h.row h.feed (by decide) (by rw [hk, x])
 ·exact taken_ne h.row h.zat (by decide) (by rw [hk, x])
 ·have := (h.row.lt k hk).2; omega
theorem ZM.row2 {w0 w w2 : World} {base0 g off cap f d D Z P : Nat} {B : List Nat} {most i p first sum : Nat} {vo : Value} {o : List Nat} (h : ZM w0 w base0 g off cap f d D Z P B most i p first sum vo o) (hs : Step (fun k => k = D ∨ (k = f ∨ k = Z) ∨ k = w.heap.size + 1) w w2) : Taken w2 base0 vo o := taken_step h.row hs (fun k hk x => by
 rcases x with x | (x | x) | x
 ·exact taken_ne h.row h.dec (by decide) (by rw [hk, x])
 ·exact taken_ne h.row h.feed (by decide) (by rw [hk, x])
 ·exact taken_ne h.row h.zat (by decide) (by rw [hk, x])
 ·have := (h.row.lt k hk).2; omega)
def ZRound (w0 : World) (base0 g off cap f d D Z P : Nat) (B : List Nat) (most i : Nat) (e : Nat) (out : List Nat) (used : Nat) (r : Ending) (w2 : World) : Prop :=
 ∃ x : Nat, r = .returned (.int .i64 (x : Nat)) ∧ ((x = 0 ∧ ∃ p first sum vo o, ZM w0 w2 base0 g off cap f d D Z P B most (i + 1) p first sum vo o ∧ zRest B most (i + 1) p first sum o e out used) ∨ (x ≠ 0 ∧ x = e ∧ ZFin w0 w2 base0 f d D Z (.slice (fedA g off B.length) B.length cap) e out used ⟨#[]⟩))
abbrev ZW (f D : Nat) (w : World) (Q : Ending → World → Prop) : Prop := Calls Tryz.prog 125 #[.pointer (some ⟨f, 0, none⟩), .func (.func 124) #[.pointer (some ⟨D, 0, none⟩)] #[]] w Q
theorem watn_inj {w : World} {D f d : Nat} {p p' v v' : Value} {n n' : ByteArray} (h : WAtN w D f d p v n) (h' : WAtN w D f d p' v' n') : v = v' ∧ n = n' := by
 have e := h.symm.trans h'
 simp only [Option.some.injEq, Obj.cells.injEq, Array.mk.injEq, List.cons.injEq, Value.string.injEq, and_true, true_and] at e
 exact ⟨e.2.1, e.2.2⟩
theorem zRound0 {w0 w : World} {base0 g off cap f d D Z P : Nat} {B : List Nat} {most p first sum : Nat} {vo : Value} {o : List Nat} {e : Nat} {out : List Nat} {used : Nat} (h : ZM w0 w base0 g off cap f d D Z P B most 0 p first sum vo o) (pl : ZPl base0 g f d D Z P) (hr : zRest B most 0 p first sum o e out used) :
  ZW f D w (ZRound w0 base0 g off cap f d D Z P B most 0 e out used) := by
 have h1 := pl.b4; have h2 := pl.gb; have h3 := pl.bf; have h4 := pl.fd; have h5 := pl.dD; have h6 := pl.DX; have h7 := pl.XP
 have hb := h.big
 obtain ⟨rfl, hall⟩ := hr
 obtain ⟨hfr, hvo, ho, hsum⟩ := h.fresh (by omega)
 refine (wread D f d P 0 4 0 8 75 #[.pointer (some ⟨Z, 0, none⟩)] #[] _ vo B ⟨#[]⟩ (fun k => k = f ∨ k = Z) (fun thr x w' => thr = true ∧ x = (if zOk1 (numAt B 0 8) then 0 else 4) ∧ ZAt w' Z D (numAt B 0 8) sum ∧ WAtN w' D f d (partsAt P 0 4) vo ⟨#[]⟩) w (cf_first _) (by omega) (by omega) h.dec (h.env.parts 0 (by omega)) h.feed (fun k x => by rcases x with x | x <;> omega) (.inl rfl) (by omega) ?_).mono ?_
 ·intro w1 hs1
  refine (zFirst_any Z D f d g off cap 0 0 first sum B _ vo ⟨#[]⟩ w1 (hs1.at_ h.zat (fun x => x)) (hs1.at_ h.dec (fun x => x)) (hs1.at_ h.feed (fun x => x)) (h.env.src.step hs1 (fun x => x)) (by omega) (by omega) (by omega) _ rfl).mono ?_
  rintro r w' (⟨q1, q2, rfl, q3, q4⟩ | hx)
  ·have q5 := q4.at_ (hs1.at_ h.dec (fun x => x)) (fun x => by rcases x with x | x <;> omega)
   exact .inl ⟨q1, q2, ⟨true, _, rfl, rfl, rfl, q3, q5⟩, ⟨vo, _, q5⟩, q4⟩
  ·exact .inr hx
 ·intro r w2 hw
  obtain ⟨henv, hbig⟩ := h.env2 pl hw.step (fun k x => x.elim (fun y => .inr (.inr (.inl y))) (fun y => .inr (.inr (.inr y))))
  unfold zAll at hall
  rcases hw.out with ⟨thr, x, w', vo', nm', rfl, q1, ⟨rfl, rfl, q2, q7⟩, q3, q4, q5, q6⟩ | ⟨rfl, q1, q4, q6⟩
  ·obtain ⟨rfl, rfl⟩ := watn_inj q5 q7
   rw [if_pos rfl] at q6
   rw [if_pos q1] at hall
   by_cases hok : zOk1 (numAt B 0 8)
   ·rw [if_pos hok] at hall ⊢
    refine ⟨0, rfl, .inl ⟨rfl, 0 + 8, numAt B 0 8, sum, vo', o, ⟨henv, q6, q3.at_ q2 (fun x => by rcases x with x | x <;> omega), q4, hbig, h.row2 hw.step, fun _ => ⟨hw.step.at_ hfr (fun x => by rcases x with x | (x | x) | x <;> omega), hvo, ho, hsum⟩, q1⟩, numAt_lt B 0 8, hall⟩⟩
   ·rw [if_neg hok] at hall ⊢
    obtain ⟨rfl, rfl, rfl⟩ := hall
    refine ⟨4, rfl, .inr ⟨by omega, rfl, ?_⟩⟩
    have := h.fin pl hw.step q6 (e := 4) (used := 0) (by omega)
    rwa [ho] at this
  ·rw [if_neg (by omega)] at hall
   obtain ⟨rfl, rfl, rfl⟩ := hall
   refine ⟨3, rfl, .inr ⟨by omega, rfl, ?_⟩⟩
   have := h.fin pl hw.step q6 (e := 3) (used := 0) (by omega)
   rwa [ho] at this
theorem zRound1 {w0 w : World} {base0 g off cap f d D Z P : Nat} {B : List Nat} {most p first sum : Nat} {vo : Value} {o : List Nat} {e : Nat} {out : List Nat} {used : Nat} (h : ZM w0 w base0 g off cap f d D Z P B most 1 p first sum vo o) (pl : ZPl base0 g f d D Z P) (hr : zRest B most 1 p first sum o e out used) :
  ZW f D w (ZRound w0 base0 g off cap f d D Z P B most 1 e out used) := by
 have h1 := pl.b4; have h2 := pl.gb; have h3 := pl.bf; have h4 := pl.fd; have h5 := pl.dD; have h6 := pl.DX; have h7 := pl.XP
 have hb := h.big
 have hp := h.here
 obtain ⟨hfi, hall⟩ := hr
 obtain ⟨hfr, hvo, ho, hsum⟩ := h.fresh (by omega)
 refine (wread D f d P 1 4 p 8 76 #[.pointer (some ⟨Z, 0, none⟩)] #[] _ vo B ⟨#[]⟩ (fun k => k = f ∨ k = Z) (fun thr x w' => thr = true ∧ x = (if zOk2 first (numAt B p 8) then 0 else 4) ∧ ZAt w' Z D first sum ∧ WAtN w' D f d (partsAt P 1 4) vo ⟨#[]⟩) w (cf_second _) (by omega) (by omega) h.dec (h.env.parts 1 (by omega)) h.feed (fun k x => by rcases x with x | x <;> omega) (.inl rfl) (by omega) ?_).mono ?_
 ·intro w1 hs1
  refine (zSecond_any Z D f d g off cap 0 p first sum B _ vo ⟨#[]⟩ w1 (hs1.at_ h.zat (fun x => x)) (hs1.at_ h.dec (fun x => x)) (hs1.at_ h.feed (fun x => x)) (h.env.src.step hs1 (fun x => x)) (by omega) (by omega) hp hfi _ rfl).mono ?_
  rintro r w' (⟨q1, q2, rfl, q3, q4⟩ | hx)
  ·have q5 := q4.at_ (hs1.at_ h.dec (fun x => x)) (fun x => by rcases x with x | x <;> omega)
   exact .inl ⟨q1, q2, ⟨true, _, rfl, rfl, rfl, q3, q5⟩, ⟨vo, _, q5⟩, q4⟩
  ·exact .inr hx
 ·intro r w2 hw
  obtain ⟨henv, hbig⟩ := h.env2 pl hw.step (fun k x => x.elim (fun y => .inr (.inr (.inl y))) (fun y => .inr (.inr (.inr y))))
  unfold zSec at hall
  rcases hw.out with ⟨thr, x, w', vo', nm', rfl, q1, ⟨rfl, rfl, q2, q7⟩, q3, q4, q5, q6⟩ | ⟨rfl, q1, q4, q6⟩
  ·obtain ⟨rfl, rfl⟩ := watn_inj q5 q7
   rw [if_pos rfl] at q6
   rw [if_pos q1] at hall
   by_cases hok : zOk2 first (numAt B p 8)
   ·rw [if_pos hok] at hall ⊢
    refine ⟨0, rfl, .inl ⟨rfl, p + 8, first, sum, vo', o, ⟨henv, q6, q3.at_ q2 (fun x => by rcases x with x | x <;> omega), q4, hbig, h.row2 hw.step, fun _ => ⟨hw.step.at_ hfr (fun x => by rcases x with x | (x | x) | x <;> omega), hvo, ho, hsum⟩, q1⟩, hall⟩⟩
   ·rw [if_neg hok] at hall ⊢
    obtain ⟨rfl, rfl, rfl⟩ := hall
    refine ⟨4, rfl, .inr ⟨by omega, rfl, ?_⟩⟩
    have := h.fin pl hw.step q6 (e := 4) (used := 0) (by omega)
    rwa [ho] at this
  ·rw [if_neg (by omega)] at hall
   obtain ⟨rfl, rfl, rfl⟩ := hall
   refine ⟨3, rfl, .inr ⟨by omega, rfl, ?_⟩⟩
   have := h.fin pl hw.step q6 (e := 3) (used := 0) (by omega)
   rwa [ho] at this
theorem zRound3 {w0 w : World} {base0 g off cap f d D Z P : Nat} {B : List Nat} {most p first sum : Nat} {vo : Value} {o : List Nat} {e : Nat} {out : List Nat} {used : Nat} (h : ZM w0 w base0 g off cap f d D Z P B most 3 p first sum vo o) (pl : ZPl base0 g f d D Z P) (hr : zRest B most 3 p first sum o e out used) :
  ZW f D w (ZRound w0 base0 g off cap f d D Z P B most 3 e out used) := by
 have h1 := pl.b4; have h2 := pl.gb; have h3 := pl.bf; have h4 := pl.fd; have h5 := pl.dD; have h6 := pl.DX; have h7 := pl.XP
 have hb := h.big
 have hp := h.here
 obtain ⟨hsum, h8, hout, hall⟩ := hr
 refine (wread D f d P 3 4 p 32 78 #[.pointer (some ⟨Z, 0, none⟩)] #[] _ vo B ⟨#[]⟩ (fun k => k = f ∨ k = Z) (fun thr x w' => thr = true ∧ x = (if bigAt B p 4 = sum then 0 else 12) ∧ ZAt w' Z D first sum ∧ WAtN w' D f d (partsAt P 3 4) vo ⟨#[]⟩) w (cf_sum _) (by omega) (by omega) h.dec (h.env.parts 3 (by omega)) h.feed (fun k x => by rcases x with x | x <;> omega) (.inl rfl) (by omega) ?_).mono ?_
 ·intro w1 hs1
  refine (zSum_any Z D f d g off cap 0 p first sum B _ vo ⟨#[]⟩ w1 (hs1.at_ h.zat (fun x => x)) (hs1.at_ h.dec (fun x => x)) (hs1.at_ h.feed (fun x => x)) (h.env.src.step hs1 (fun x => x)) (by omega) (by omega) (by omega) hp _ rfl).mono ?_
  rintro r w' (⟨q1, q2, rfl, q4⟩ | hx)
  ·have q5 := q4.at_ (hs1.at_ h.dec (fun x => x)) (by omega)
   exact .inl ⟨q1, q2, ⟨true, _, rfl, rfl, rfl, q4.at_ (hs1.at_ h.zat (fun x => x)) (by omega), q5⟩, ⟨vo, _, q5⟩, q4.mono (fun k x => .inl x)⟩
  ·exact .inr hx
 ·intro r w2 hw
  obtain ⟨henv, hbig⟩ := h.env2 pl hw.step (fun k x => x.elim (fun y => .inr (.inr (.inl y))) (fun y => .inr (.inr (.inr y))))
  rcases hw.out with ⟨thr, x, w', vo', nm', rfl, q1, ⟨rfl, rfl, q2, q7⟩, q3, q4, q5, q6⟩ | ⟨rfl, q1, q4, q6⟩
  ·obtain ⟨rfl, rfl⟩ := watn_inj q5 q7
   rw [if_pos rfl] at q6
   rw [if_pos q1, ← hsum] at hall
   by_cases hok : bigAt B p 4 = sum
   ·rw [if_pos hok] at hall ⊢
    obtain ⟨rfl, rfl⟩ := hall
    exact ⟨0, rfl, .inl ⟨rfl, p + 32, first, sum, vo', o, ⟨henv, q6, q3.at_ q2 (fun x => by rcases x with x | x <;> omega), q4, hbig, h.row2 hw.step, fun x => by omega, q1⟩, rfl, by omega, hout.symm⟩⟩
   ·rw [if_neg hok] at hall ⊢
    obtain ⟨rfl, rfl⟩ := hall
    refine ⟨12, rfl, .inr ⟨by omega, rfl, ?_⟩⟩
    rw [hout]
    exact h.fin pl hw.step q6 (e := 12) (used := 0) (by omega)
  ·rw [if_neg (by omega)] at hall
   obtain ⟨rfl, rfl⟩ := hall
   refine ⟨3, rfl, .inr ⟨by omega, rfl, ?_⟩⟩
   rw [hout]
   exact h.fin pl hw.step q6 (e := 3) (used := 0) (by omega)
end Go.Proofs.YtbpahojchgpdnaaGreatDoor
namespace Go.Proofs.YtbpahojchgpdnaaGreatDoor
open Go.RowKit Go.Bel Go.Maps
theorem zRound2 {w0 w : World} {base0 g off cap f d D Z P : Nat} {B : List Nat} {most p first sum : Nat} {vo : Value} {o : List Nat} {e : Nat} {out : List Nat} {used : Nat} (h : ZM w0 w base0 g off cap f d D Z P B most 2 p first sum vo o) (pl : ZPl base0 g f d D Z P) (hmost : most ≤ 1048576) (hr : zRest B most 2 p first sum o e out used) :
  ZW f D w (ZRound w0 base0 g off cap f d D Z P B most 2 e out used) := by
 have h1 := pl.b4; have h2 := pl.gb; have h3 := pl.bf; have h4 := pl.fd; have h5 := pl.dD; have h6 := pl.DX; have h7 := pl.XP
 have hb := h.big
 have hp := h.here
 obtain ⟨n, e1, o1, q1, hrun, hall⟩ := hr
 obtain ⟨hfr, hvo, ho, hsum⟩ := h.fresh (by omega)
 obtain ⟨hob, hq8, hol⟩ := gAt_run hrun
 have hdec := h.dec
 rw [hvo] at hdec
 refine (wwhole_part D f d P 2 1 p 77 #[.pointer (some ⟨Z, 0, none⟩)] #[] (.slice (fedA g off B.length) B.length cap) vo 0 ⟨#[]⟩ (fun k => k = D ∨ k = d ∨ k = f ∨ k = Z) (fun thr x w' => thr = (e1 == 0) ∧ x = e1 ∧ ∃ v', WAtN w' D f d (partsV P 2 2) v' ⟨#[]⟩ ∧ Taken w' (w.heap.size + 3) v' o1 ∧ ZAt w' Z D first (adWith sum o1) ∧ ∃ q' : Nat, FeedAt w' f (.slice (fedA g off B.length) B.length cap) q' 0 ∧ (e1 = 0 → q' = q1 ∧ q1 ≤ 8 * B.length)) (fun _ => False) w (cf_bare _) h.dec (h.env.parts 2 (by omega)) (by omega) h.feed (fun k x => by rcases x with x | x | x | x <;> omega) (by omega) ?_).mono ?_
 ·intro w1 hs1 hsz
  have hH := holdsG_at (d := d) (base := w1.heap.size) (most := most) (h.env.src.step hs1 (fun x => x)) (h.env.order.step hs1 (fun _ _ x => x)) hmost (by omega) (by omega) (by omega) (by omega) (Nat.le_refl _) hp (hs1.at_ h.feed (fun x => x)) (hs1.at_ hfr (fun x => x))
  refine (zBare_any Z D d f w1.heap.size g off cap 0 n e1 first sum _ ⟨#[]⟩ B _ o1 q1 w1 (hs1.at_ h.zat (fun x => x)) (hs1.at_ hdec (fun x => x)) (by omega) (by omega) (by omega) (by omega) hH hrun rfl hob (by omega) (by omega) ⟨by omega, by omega, by omega⟩).mono ?_
  rintro r w' ⟨rfl, v', hbp, hz⟩
  obtain ⟨q', hq', hq2⟩ := hbp.feed
  exact ⟨hbp.step, ⟨q', hq'⟩, ⟨v', _, hbp.dec⟩, .inl ⟨_, _, rfl, rfl, rfl, v', hbp.dec, by rw [← hsz]; exact hbp.row, hz, q', hq', hq2⟩⟩
 ·intro r w2 hw
  have hst := whole_step hw (.inr (.inr (.inl rfl)))
  obtain ⟨henv, hbig⟩ := h.env2 pl hst (fun k x => x)
  obtain ⟨w1, w', vo', nm', hs1, hsz, hs2, q5, ⟨thr, x, rfl, ⟨rfl, rfl, v', k1, k2, k3, q', k4, k5⟩, q6, q3⟩ | ⟨_, hf, _⟩⟩ := hw.ex
  ·obtain ⟨rfl, rfl⟩ := watn_inj q5 k1
   have hz2 : ZAt w2 Z D first (adWith sum o1) := q3.at_ k3 (fun x => by rcases x with x | x <;> omega)
   have hrow : Taken w2 base0 vo' o1 := (taken_step k2 q3 (fun k hk x => by
    have := (k2.lt k hk).1
    rcases x with x | x <;> omega)).mono (by omega)
   have hf2 : FeedAt w2 f (.slice (fedA g off B.length) B.length cap) q' 0 := q3.at_ k4 (fun x => by rcases x with x | x <;> omega)
   by_cases he : x = 0
   ·subst he
    rw [if_pos rfl] at hall
    obtain ⟨rfl, hq⟩ := k5 rfl
    have q6 : WAtN w2 D f d (partsAt P 3 4) vo' ⟨#[]⟩ := q6
    refine ⟨0, rfl, .inl ⟨rfl, q', first, adWith sum o1, vo', o1, ⟨henv, q6, hz2, hf2, hbig, hrow, fun x => by omega, hq⟩, ?_, hq8, hall⟩⟩
    rw [hsum]
   ·rw [if_neg he] at hall
    obtain ⟨rfl, rfl, rfl⟩ := hall
    exact ⟨e, rfl, .inr ⟨he, rfl, ⟨_, vo', q6, hrow⟩, fun x => absurd x he, henv.step⟩⟩
  ·exact hf.elim
theorem zRun_any {w0 w : World} {base0 g off cap f d D Z P : Nat} {B : List Nat} {most : Nat} {e : Nat} {out : List Nat} {used : Nat} (h : ZM w0 w base0 g off cap f d D Z P B most 0 0 0 1 (.slice none 0 0) []) (pl : ZPl base0 g f d D Z P) (hmost : most ≤ 1048576) (hr : zAll B most e out used) :
  Calls Tryz.prog 90 #[.pointer (some ⟨D, 0, none⟩)] w fun r w' => r = .returned (.int .i64 (e : Nat)) ∧ ZFin w0 w' base0 f d D Z (.slice (fedA g off B.length) B.length cap) e out used ⟨#[]⟩ := by
 refine (wrun_loop D f (fun k wr => ∃ i p first sum vo o, k + i = 4 ∧ ZM w0 wr base0 g off cap f d D Z P B most i p first sum vo o ∧ zRest B most i p first sum o e out used) (fun x wr => x = e ∧ ZFin w0 wr base0 f d D Z (.slice (fedA g off B.length) B.length cap) e out used ⟨#[]⟩) 4 w ⟨0, 0, 0, 1, _, [], rfl, h, rfl, hr⟩ ?_).mono ?_
 ·rintro k wr ⟨i, p, first, sum, vo, o, hk, hm, hrest⟩
  have hround : i < 4 → ZW f D wr (ZRound w0 base0 g off cap f d D Z P B most i e out used) := fun hi => by
   match i, hi, hm, hrest with
   | 0, _, hm, hrest => exact zRound0 hm pl hrest
   | 1, _, hm, hrest => exact zRound1 hm pl hrest
   | 2, _, hm, hrest => exact zRound2 hm pl hmost hrest
   | 3, _, hm, hrest => exact zRound3 hm pl hrest
  have k2 : wr.cell? ⟨D, 2, none⟩ = some (partsAt P i 4) := blk_cell hm.dec 2 _ rfl
  have k0 : wr.cell? ⟨D, 0, none⟩ = some (.pointer (some ⟨f, 0, none⟩)) := blk_cell hm.dec 0 _ rfl
  by_cases hi : i < 4
  ·refine ⟨some ⟨P, i, none⟩, 4 - i, 4 - i, by rw [k2]; unfold partsAt; rw [if_pos hi]; rfl, k0, fun x => by omega, fun _ => ?_⟩
   refine (hround hi).mono ?_
   rintro r w' ⟨x, rfl, ⟨hx, p', first', sum', vo', o', hm', hr'⟩ | ⟨hx, rfl, hf⟩⟩
   ·exact ⟨x, rfl, .inl ⟨hx, k - 1, by omega, i + 1, p', first', sum', vo', o', by omega, hm', hr'⟩⟩
   ·exact ⟨x, rfl, .inr ⟨hx, rfl, hf⟩⟩
  ·obtain rfl : i = 4 := by omega
   obtain ⟨rfl, rfl, rfl⟩ := hrest
   refine ⟨some ⟨P, 3, none⟩, 0, 0, k2, k0, fun _ => ⟨rfl, ⟨_, vo, hm.dec, hm.row⟩, fun _ => hm.feed, hm.env.step⟩, fun x => absurd rfl x⟩
 ·rintro r w' ⟨x, rfl, rfl, hf⟩
  exact ⟨rfl, hf⟩
end Go.Proofs.YtbpahojchgpdnaaGreatDoor
namespace Go.Proofs.YtbpahojchgpdnaaGreatDoor
open Go.RowKit Go.Bel Go.Maps
structure RFin (w0 w : World) (base0 f d D X : Nat) (s vo : Value) (e : Nat) (out : List Nat) (used : Nat) (nm : ByteArray) : Prop where
 dec : ∃ parts, WAtN w D f d parts (.slice none 0 0) nm
 row : Taken w base0 vo out
 feed : e = 0 → FeedAt w f s (8 * used) 0
 step : Step (ZS D d f X) w0 w
theorem runN (w0 w : World) (base0 f d D X : Nat) (s : Value) (e : Nat) (out : List Nat) (used : Nat) (nm : ByteArray) (hDf : D ≠ f) (hrun : Calls Tryz.prog 90 #[.pointer (some ⟨D, 0, none⟩)] w fun r w' => r = .returned (.int .i64 (e : Nat)) ∧ ZFin w0 w' base0 f d D X s e out used nm) :
  Calls Tryz.prog 53 #[.pointer (some ⟨D, 0, none⟩)] w fun r w' => ∃ vo, r = .returned (.tuple #[vo, .int .i64 (e : Nat)]) ∧ RFin w0 w' base0 f d D X s vo e out used nm := by
 have HR := hide hrun
 clear hrun
 go_enter Tryz.func53, Tryz.ntmps53
 go_wp2_with fail
 refine (unhide HR).mono ?_
 rintro r w1 ⟨rfl, hf⟩
 obtain ⟨parts, vo, hA, htk⟩ := hf.dec
 obtain ⟨ao, co, hvo⟩ := htk.slice
 have HFIN := hide (show RFin w0 (w1.setCell ⟨D, 3, none⟩ (.slice none 0 0)) base0 f d D X s vo e out used nm from by
  have hs : Step (· = D) w1 (w1.setCell ⟨D, 3, none⟩ (.slice none 0 0)) := (Step.refl (· = D) w1).setCell (p := ⟨D, 3, none⟩) rfl _
  refine ⟨⟨parts, ?_⟩, taken_step htk hs (fun k hk x => taken_ne htk hA (by decide) (by rw [hk, x])), fun x => hs.at_ (hf.feed x) (fun y => hDf y.symm), hf.step.trans (hs.mono (fun k x => .inl x))⟩
  have h9 := blk_set hA 3 (.slice none 0 0)
  simpa using h9)
 have k3 := (show w1.cell? ⟨D, 3, none⟩ = some vo from blk_cell hA 3 _ rfl)
 have kf3 := (show w1.frozen? ⟨D, 3, none⟩ = false from blk_free hA 3)
 rw [hvo] at k3 HFIN
 clear hA htk hf HR hvo
 generalize out.length = no at *
 go_wp2_with fail
 go_ret2
 exact ⟨_, rfl, unhide HFIN⟩
theorem goOnN (w : World) (base0 f d D X : Nat) (s : Value) (e : Nat) (out : List Nat) (used : Nat) (nm : ByteArray) (hDf : D ≠ f) (hDl : D < w.heap.size ∧ d < w.heap.size ∧ f < w.heap.size ∧ X < w.heap.size) (hu : e ≠ 0 → used = 0) (hum : used ≤ 140737488351232)
  (hrun : ∀ w1, Step (fun _ => False) w w1 → Calls Tryz.prog 90 #[.pointer (some ⟨D, 0, none⟩)] w1 fun r w' => r = .returned (.int .i64 (e : Nat)) ∧ ZFin w1 w' base0 f d D X s e out used nm) :
  Calls Tryz.prog 38 #[.pointer (some ⟨D, 0, none⟩), .pointer (some ⟨f, 0, none⟩)] w fun r w' => ∃ vo, r = .returned (.agg #[.int .i64 (e : Nat), vo, .int .i64 (used : Nat), .string nm]) ∧ Taken w' base0 vo out ∧ Step (ZS D d f X) w w' := by
 have HRUN := hide hrun
 clear hrun
 go_enter Tryz.func38, Tryz.ntmps38
 go_wp2_with fail
 obtain ⟨R, hR⟩ : ∃ R, R = w.heap.size := ⟨_, rfl⟩
 obtain ⟨w0, hw0⟩ : ∃ w0, w0 = w.alloc (.cells #[.int .i64 0, .slice none 0 0, .int .i64 0, .string ⟨#[]⟩] 45) := ⟨_, rfl⟩
 have hs0 : Step (fun _ => False) w w0 := by rw [hw0]; exact (Step.refl _ _).alloc _
 have hz0 : w0.heap.size = R + 1 := by rw [hw0, hR]; simp
 have hr0 : w0.heap[R]? = some (.cells #[.int .i64 0, .slice none 0 0, .int .i64 0, .string ⟨#[]⟩] 45 (0, 0)) := by rw [hw0, hR]; exact heap_alloc_new _ _
 have hRe : R ≤ w.heap.size := by omega
 have hRl : w.heap.size ≤ R := by omega
 rw [← hw0, ← hR]
 clear hw0 hR
 refine (runN w0 w0 base0 f d D X s e out used nm hDf (unhide HRUN w0 hs0)).mono ?_
 rintro r w1 ⟨vo, rfl, hfin⟩
 obtain ⟨parts, hDa⟩ := hfin.dec
 obtain ⟨va, vc, hv⟩ := hfin.row.slice
 have hr1 : w1.heap[R]? = some (.cells #[.int .i64 0, .slice none 0 0, .int .i64 0, .string ⟨#[]⟩] 45 (0, 0)) := hfin.step.at_ hr0 (fun x => by rcases x with x | x | x | x <;> omega)
 have kD4 := (show w1.cell? ⟨D, 4, none⟩ = some (.string nm) from blk_cell hDa 4 _ rfl)
 have htk := hfin.row
 have hst : Step (ZS D d f X) w w1 := (hs0.mono (fun _ x => x.elim)).trans hfin.step
 have hne : vo.ownBlock ≠ some R := taken_ne htk hr1 (by decide)
 have HTK := hide htk
 have HST := hide hst
 have HFE := hide hfin.feed
 have HNE := hide hne
 rw [hv] at HTK HNE
 rw [hv]
 generalize out.length = len at *
 have q0 : w1.cell? ⟨R, 0, none⟩ = some (.int .i64 0) := blk_cell hr1 0 _ rfl
 have q1 : w1.cell? ⟨R, 1, none⟩ = some (.slice none 0 0) := blk_cell hr1 1 _ rfl
 have q2 : w1.cell? ⟨R, 2, none⟩ = some (.int .i64 0) := blk_cell hr1 2 _ rfl
 have q3 : w1.cell? ⟨R, 3, none⟩ = some (.string ⟨#[]⟩) := blk_cell hr1 3 _ rfl
 have g0 := blk_free hr1 0
 have g1 := blk_free hr1 1
 have g2 := blk_free hr1 2
 have g3 := blk_free hr1 3
 have hrl := lt_of_block hr1
 clear hfin hs0 hr0 hr1 hDa hv htk hst hne HRUN
 have HEND := hide (show ∀ w' : World, Step (fun k => k = R ∨ w1.heap.size ≤ k) w1 w' → Taken w' base0 (.slice va len vc) out ∧ Step (ZS D d f X) w w' from fun w' hs => ⟨taken_step (unhide HTK) hs (fun k hk x => by
  rcases x with x | x
  ·exact unhide HNE (by rw [hk, x])
  ·have := ((unhide HTK).lt k hk).2; omega), (unhide HST).trans' hs (fun k hk x => by
  have := (unhide HST).size
  rcases x with x | x <;> omega)⟩)
 go_wp2_with fail
 refine (wrapNameG D nm w1 kD4).mono ?_
 rintro r w2 ⟨rfl, rfl⟩
 by_cases he : e = 0
 ·subst he
  have hfe := unhide HFE rfl
  have HFE2 := hide hfe
  clear hfe HFE
  go_wp2_with fail
  refine (feedUsed_any f (8 * used) 0 _ _ ((Below.heap_alloc _ _ _ (lt_of_block (unhide HFE2))).trans (unhide HFE2)) (by omega) (by omega)).mono ?_
  rintro r w6 ⟨rfl, k, hw6⟩
  subst hw6
  go_wp2_with fail
  have hfin := (((((((Step.refl (fun k => k = R ∨ w2.heap.size ≤ k) w2).alloc (.cells #[.int .i64 0, .slice va len vc, .int .i64 0, .string nm] 45)).drewN k).setNew (p := ⟨w2.heap.size, 2, none⟩) (Nat.le_refl _) (.int .i64 ((8 * (used : Int) + 7) / 8))).setCell (p := ⟨R, 0, none⟩) (.inl rfl) (.int .i64 0)).setCell (p := ⟨R, 1, none⟩) (.inl rfl) (.slice va len vc)).setCell (p := ⟨R, 2, none⟩) (.inl rfl) (.int .i64 ((8 * (used : Int) + 7) / 8))).setCell (p := ⟨R, 3, none⟩) (.inl rfl) (.string nm)
  refine bodyPost_ret (v := .agg #[.int .i64 0, .slice va len vc, .int .i64 ((8 * (used : Int) + 7) / 8), .string nm]) (by simp [results, Tryz.results38, go_sem, q0, q1, q2, q3, hrl]) rfl ⟨.slice va len vc, ?_, unhide HEND _ hfin⟩
  have : (8 * (used : Int) + 7) / 8 = (used : Int) := by omega
  rw [this]
  rfl
 ·have he' : ((e : Int) == 0) = false := beq_eq_false_iff_ne.2 (by omega)
  have HU := hide (hu he)
  clear hu
  go_wp2_with fail
  have hfin := (((((Step.refl (fun k => k = R ∨ w2.heap.size ≤ k) w2).setCell (p := ⟨R, 0, none⟩) (.inl rfl) (.int .i64 (e : Nat))).setCell (p := ⟨R, 1, none⟩) (.inl rfl) (.slice va len vc)).setCell (p := ⟨R, 2, none⟩) (.inl rfl) (.int .i64 0)).setCell (p := ⟨R, 3, none⟩) (.inl rfl) (.string nm)).alloc (.cells #[.int .i64 (e : Nat), .slice va len vc, .int .i64 0, .string nm] 45)
  refine bodyPost_ret (v := .agg #[.int .i64 (e : Nat), .slice va len vc, .int .i64 0, .string nm]) (by simp [results, Tryz.results38, go_sem, q0, q1, q2, q3, hrl]) rfl ⟨.slice va len vc, ?_, unhide HEND _ hfin⟩
  rw [unhide HU]
  rfl
end Go.Proofs.YtbpahojchgpdnaaGreatDoor
namespace Go.Proofs.YtbpahojchgpdnaaGreatDoor
open Go.RowKit Go.Bel Go.Maps
def NewSaid (kind : Int) (f M base0 : Nat) (s : Value) (e : Nat) (out : List Nat) (used : Nat) (nm : ByteArray) (w3 : World) : Prop :=
 Calls Tryz.prog 36 #[.int .i64 kind, .pointer (some ⟨f, 0, none⟩), .int .i64 (M : Nat)] w3 fun r w4 => ∃ d D X, r = .returned (.tuple #[.pointer (some ⟨D, 0, none⟩), .int .i64 0]) ∧ Step (fun _ => False) w3 w4 ∧ f < w3.heap.size ∧ (w3.heap.size ≤ d ∧ w3.heap.size ≤ D ∧ w3.heap.size ≤ X) ∧ (d < w4.heap.size ∧ D < w4.heap.size ∧ X < w4.heap.size) ∧
  ∀ w5, Step (fun _ => False) w4 w5 → Calls Tryz.prog 90 #[.pointer (some ⟨D, 0, none⟩)] w5 fun r w' => r = .returned (.int .i64 (e : Nat)) ∧ ZFin w5 w' base0 f d D X s e out used nm
theorem unpackN (kind : Int) (g off cap e : Nat) (most : Int) (B : List Nat) (out : List Nat) (used : Nat) (nm : ByteArray) (w : World) (hS : Go.Bel.Src w g off B) (hO : OrderAt w) (hu : e ≠ 0 → used = 0) (hum : used ≤ 140737488351232)
  (hnew : ∀ w3, Step (fun _ => False) w w3 → w3.heap.size = w.heap.size + 1 + 1 → FeedAt w3 (w.heap.size + 1) (.slice (fedA g off B.length) B.length cap) 0 0 → Go.Bel.Src w3 g off B → OrderAt w3 → NewSaid kind (w.heap.size + 1) (asked most) w.heap.size (.slice (fedA g off B.length) B.length cap) e out used nm w3) :
  Calls Tryz.prog 25 #[.int .i64 kind, .slice (fedA g off B.length) B.length cap, .int .i64 most] w
   fun r w' => ∃ v', r = .returned (.agg #[.int .i64 (e : Nat), v', .int .i64 (used : Nat), .string nm]) ∧ w'.ownsRow w.heap.size 5 1 v' out.length (u8s out) ∧ Step (fun _ => False) w w' := by
 have hmuch := hS.much
 have HNEW := hide hnew
 clear hnew
 go_enter Tryz.func25, Tryz.ntmps25
 go_wp2_with fail
 obtain ⟨R, hR⟩ : ∃ R, R = w.heap.size := ⟨_, rfl⟩
 obtain ⟨w1, hw1⟩ : ∃ w1, w1 = w.alloc (.cells #[.int .i64 0, .slice none 0 0, .int .i64 0, .string ⟨#[]⟩] 45) := ⟨_, rfl⟩
 have hs1 : Step (fun _ => False) w w1 := by rw [hw1]; exact (Step.refl _ _).alloc _
 have hz1 : w1.heap.size = R + 1 := by rw [hw1, hR]; simp
 have hr1 : w1.heap[R]? = some (.cells #[.int .i64 0, .slice none 0 0, .int .i64 0, .string ⟨#[]⟩] 45 (0, 0)) := by rw [hw1, hR]; exact heap_alloc_new _ _
 have hRw : w.heap.size ≤ R := by omega
 rw [← hR] at HNEW
 rw [← hw1, ← hR]
 have hRe : R ≤ w.heap.size := by omega
 clear hw1 hR
 refine (feedNew_any (.slice (fedA g off B.length) B.length cap) w1 ⟨_, _, _, rfl⟩).mono ?_
 rintro e1 w2 ⟨rfl, hw2⟩
 rw [hz1]
 have hz2 : w2.heap.size = R + 1 + 1 := by rw [hw2]; simp [hz1]
 have hs2 : Step (fun _ => False) w1 w2 := by rw [hw2]; exact (Step.refl _ _).alloc _
 have hF2 : w2.heap[R + 1]? = some (.cells #[.slice (fedA g off B.length) B.length cap, .int .i64 ((0 : Nat) : Int), .int .i64 ((0 : Nat) : Int)] 91 (0, 0)) := by rw [hw2, ← hz1]; exact heap_alloc_new _ _
 clear hw2
 go_wp2_with fail
 refine (askedG most w2).mono ?_
 rintro e2 w3 ⟨rfl, rfl⟩
 have hs12 := hs1.trans hs2
 have hN := unhide HNEW w3 hs12 hz2 hF2 (hS.step hs12 (fun x => x)) (hO.step hs12 (fun _ _ x => x))
 have HN := hide hN
 have HF2 := hide hF2
 clear hN hF2 HNEW
 go_wp2_with fail
 refine (unhide HN).mono ?_
 rintro e2 w4 ⟨d, D, X, rfl, hs4, hfl, ⟨ld, lD, lX⟩, ⟨md, mD, mX⟩, hrun⟩
 have hz4 := hs4.size
 have hs14 := hs12.trans hs4
 have hr4 := (hs2.trans hs4).at_ hr1 (fun x => x)
 have hgo := goOnN w4 R (R + 1) d D X (.slice (fedA g off B.length) B.length cap) e out used nm (by omega) ⟨mD, md, by omega, mX⟩ hu hum hrun
 have HGO := hide hgo
 have HS14 := hide hs14
 clear hgo hs14 hs1 hs2 hs4 hs12 hr1 hrun HN HF2
 go_wp2_with fail
 refine (unhide HGO).mono ?_
 rintro r w5 ⟨vo, rfl, htk, hst⟩
 have hst5 : Step (fun k => R + 1 ≤ k) w4 w5 := hst.mono (fun k hk => by rcases hk with x | x | x | x <;> omega)
 obtain ⟨va, vc, hv⟩ := htk.slice
 have hr5 := hst5.at_ hr4 (by omega)
 have q0 : w5.cell? ⟨R, 0, none⟩ = some (.int .i64 0) := blk_cell hr5 0 _ rfl
 have q1 : w5.cell? ⟨R, 1, none⟩ = some (.slice none 0 0) := blk_cell hr5 1 _ rfl
 have q2 : w5.cell? ⟨R, 2, none⟩ = some (.int .i64 0) := blk_cell hr5 2 _ rfl
 have q3 : w5.cell? ⟨R, 3, none⟩ = some (.string ⟨#[]⟩) := blk_cell hr5 3 _ rfl
 have g0 := blk_free hr5 0
 have g1 := blk_free hr5 1
 have g2 := blk_free hr5 2
 have g3 := blk_free hr5 3
 have hrl := lt_of_block hr5
 have hne : vo.ownBlock ≠ some R := taken_ne htk hr5 (by decide)
 have HNE := hide hne
 have HTK := hide htk
 have HS5 := hide (show Step (fun _ => False) w w5 from (unhide HS14).trans' hst5 (fun k hk x => by omega))
 rw [hv] at HTK HNE
 rw [hv]
 generalize out.length = len at *
 clear htk hst hst5 hv hne hr4 hr5 HGO HS14 hS hO
 go_wp2_with fail
 have hfin : Step (· = R) w5 ((((w5.setCell ⟨R, 0, none⟩ (.int .i64 (e : Nat))).setCell ⟨R, 1, none⟩ (.slice va len vc)).setCell ⟨R, 2, none⟩ (.int .i64 (used : Nat))).setCell ⟨R, 3, none⟩ (.string nm)) :=
  ((((Step.refl (· = R) w5).setCell (p := ⟨R, 0, none⟩) rfl _).setCell (p := ⟨R, 1, none⟩) rfl _).setCell (p := ⟨R, 2, none⟩) rfl _).setCell (p := ⟨R, 3, none⟩) rfl _
 refine bodyPost_ret (v := .agg #[.int .i64 (e : Nat), .slice va len vc, .int .i64 (used : Nat), .string nm]) (by simp [results, Tryz.results25, go_sem, q0, q1, q2, q3]) rfl ⟨.slice va len vc, rfl, ?_, ?_⟩
 ·exact ownsRow_mono (taken_step (unhide HTK) hfin (fun j hj x => unhide HNE (by rw [hj, x]))) (by omega)
 ·exact (unhide HS5).trans' hfin (fun k hk x => by omega)
end Go.Proofs.YtbpahojchgpdnaaGreatDoor
namespace Go.Proofs.YtbpahojchgpdnaaGreatDoor
open Go.RowKit Go.Bel Go.Maps
theorem zlibParts_ok (D : Nat) (w : World) :
  Calls Tryz.prog 51 #[.pointer (some ⟨D, 0, none⟩)] w fun e w' => e = .returned (.slice (some ⟨w.heap.size + 1, 0, none⟩) 4 4) ∧
   w' = (w.alloc (.cells #[.pointer (some ⟨D, 0, none⟩), .int .i64 0, .int .u32 1] 132)).alloc (.cells #[zPart w.heap.size 0, zPart w.heap.size 1, zPart w.heap.size 2, zPart w.heap.size 3] 138) := by
 have hmf : ∀ (fn : Fn) (first cap : Array Value) (w : World), (Instr.makeFunc fn first cap).run Tryz.prog w = .ok (.func fn first cap) w := fun _ _ _ _ => rfl
 go_enter Tryz.func51, Tryz.ntmps51
 go_wp2_with fail
 go_ret
 exact ⟨rfl, rfl⟩
structure NewP (w w' : World) (f most np : Nat) (X : Obj) (F : Nat → Value) (P : Nat) : Prop where
 step : Step (fun _ => False) w w'
 size : w'.heap.size = P + 1
 lt : w.heap.size + 2 < P
 dec : w'.heap[w.heap.size]? = some (freshD f most)
 wrap : WAtN w' (w.heap.size + 1) f w.heap.size (partsAt P 0 np) (.slice none 0 0) ⟨#[]⟩
 kept : w'.heap[w.heap.size + 2]? = some X
 parts : ∀ j, j < np → w'.cell? ⟨P, j, none⟩ = some (F j)
theorem newWrapZ (f most : Nat) (w : World) :
  Calls Tryz.prog 36 #[.int .i64 1, .pointer (some ⟨f, 0, none⟩), .int .i64 (most : Nat)] w fun e w' => e = .returned (.tuple #[.pointer (some ⟨w.heap.size + 1, 0, none⟩), .int .i64 0]) ∧
   NewP w w' f most 4 (.cells #[.pointer (some ⟨w.heap.size + 1, 0, none⟩), .int .i64 0, .int .u32 1] 132 (0, 0)) (zPart (w.heap.size + 2)) (w.heap.size + 3) := by
 go_enter Tryz.func36, Tryz.ntmps36
 go_wp2_with fail
 refine (newDecG f most _).mono ?_
 rintro e w1 ⟨rfl, hw1⟩
 obtain ⟨d, hd⟩ : ∃ d, d = w.heap.size := ⟨_, rfl⟩
 have hz1 : w1.heap.size = d + 1 := by rw [hw1, hd]; simp
 have hs1 : Step (fun _ => False) w w1 := by rw [hw1]; exact (Step.refl _ _).alloc _
 have hd1 : w1.heap[d]? = some (freshD f most) := by rw [hw1, hd]; exact heap_alloc_new _ _
 have hdl : d ≤ w.heap.size := by omega
 have hdg : w.heap.size ≤ d := by omega
 rw [← hd]
 clear hw1 hd
 go_wp2_with fail
 obtain ⟨w2, hw2⟩ : ∃ w2, w2 = w1.alloc (.cells #[.pointer (some ⟨f, 0, none⟩), .pointer (some ⟨d, 0, none⟩), .slice none 0 0, .slice none 0 0, .string ⟨#[]⟩] 96) := ⟨_, rfl⟩
 have hz2 : w2.heap.size = d + 1 + 1 := by rw [hw2]; simp [hz1]
 have hs2 : Step (fun _ => False) w1 w2 := by rw [hw2]; exact (Step.refl _ _).alloc _
 have hD2 : WAtN w2 (d + 1) f d (.slice none 0 0) (.slice none 0 0) ⟨#[]⟩ := by rw [hw2, ← hz1]; exact heap_alloc_new _ _
 rw [← hw2]
 clear hw2
 refine (zlibParts_ok (d + 1) w2).mono ?_
 rintro e w3 ⟨rfl, hw3⟩
 rw [hz2] at hw3 ⊢
 have hz3 : w3.heap.size = d + 3 + 1 := by rw [hw3]; simp [hz2]
 have hs3 : Step (fun _ => False) w2 w3 := by rw [hw3]; exact ((Step.refl _ _).alloc _).alloc _
 have hX3 : w3.heap[d + 2]? = some (.cells #[.pointer (some ⟨d + 1, 0, none⟩), .int .i64 0, .int .u32 1] 132 (0, 0)) := by
  rw [hw3, show d + 2 = w2.heap.size from hz2.symm]
  exact (Below.heap_alloc _ _ _ (by simp)).trans (heap_alloc_new _ _)
 have hP3 : w3.heap[d + 3]? = some (.cells #[zPart (d + 2) 0, zPart (d + 2) 1, zPart (d + 2) 2, zPart (d + 2) 3] 138 (0, 0)) := by
  rw [hw3, show d + 3 = (w2.alloc (.cells #[.pointer (some ⟨d + 1, 0, none⟩), .int .i64 0, .int .u32 1] 132)).heap.size by simp [hz2]]
  exact heap_alloc_new _ _
 clear hw3
 have hD3 := hs3.at_ hD2 (fun x => x)
 have k2 : w3.cell? ⟨d + 1, 2, none⟩ = some (.slice none 0 0) := blk_cell hD3 2 _ rfl
 have kf : w3.frozen? ⟨d + 1, 2, none⟩ = false := blk_free hD3 2
 have HFIN := hide (show NewP w (w3.setCell ⟨d + 1, 2, none⟩ (.slice (some ⟨d + 1 + 1 + 1, 0, none⟩) 4 4)) f most 4 (.cells #[.pointer (some ⟨d + 1, 0, none⟩), .int .i64 0, .int .u32 1] 132 (0, 0)) (zPart (d + 2)) (d + 3) from by
  obtain rfl : d = w.heap.size := by omega
  have hs4 : Step (· = w.heap.size + 1) w3 (w3.setCell ⟨w.heap.size + 1, 2, none⟩ (.slice (some ⟨w.heap.size + 1 + 1 + 1, 0, none⟩) 4 4)) := (Step.refl (· = w.heap.size + 1) w3).setCell (p := ⟨w.heap.size + 1, 2, none⟩) rfl _
  refine ⟨((hs1.trans hs2).trans hs3).trans' hs4 (fun k hk x => by omega), by simp [hz3], by omega, hs4.at_ ((hs2.trans hs3).at_ hd1 (fun x => x)) (by omega), ?_, hs4.at_ hX3 (by omega), fun j hj => ?_⟩
  ·have h9 := blk_set hD3 2 (.slice (some ⟨w.heap.size + 1 + 1 + 1, 0, none⟩) 4 4)
   simp at h9
   exact h9
  ·refine hs4.cell ?_ (by show ¬ (w.heap.size + 3 = w.heap.size + 1); omega)
   match j, hj with
   | 0, _ => exact blk_cell hP3 0 _ rfl
   | 1, _ => exact blk_cell hP3 1 _ rfl
   | 2, _ => exact blk_cell hP3 2 _ rfl
   | 3, _ => exact blk_cell hP3 3 _ rfl)
 clear hD3 hX3 hP3 hs1 hs2 hs3 hd1 hD2
 go_wp2_with fail
 go_ret2
 obtain rfl : d = w.heap.size := by omega
 exact ⟨rfl, unhide HFIN⟩
theorem newSaidZ (g off cap e : Nat) (most : Nat) (B : List Nat) (out : List Nat) (used : Nat) (w0 w3 : World) (hm : most ≤ 1048576) (hg : g < w0.heap.size) (h4 : 4 ≤ w0.heap.size) (hsz : w3.heap.size = w0.heap.size + 1 + 1) (hF : FeedAt w3 (w0.heap.size + 1) (.slice (fedA g off B.length) B.length cap) 0 0) (hS : Go.Bel.Src w3 g off B) (hO : OrderAt w3) (hr : zAll B most e out used) :
  NewSaid 1 (w0.heap.size + 1) most w0.heap.size (.slice (fedA g off B.length) B.length cap) e out used ⟨#[]⟩ w3 := by
 refine (newWrapZ (w0.heap.size + 1) most w3).mono ?_
 rintro r w4 ⟨rfl, h⟩
 have h1 := h.size
 refine ⟨w3.heap.size, w3.heap.size + 1, w3.heap.size + 2, rfl, h.step, by omega, ⟨by omega, by omega, by omega⟩, ⟨by omega, by omega, by omega⟩, fun w5 hs => ?_⟩
 have pl : ZPl w0.heap.size g (w0.heap.size + 1) w3.heap.size (w3.heap.size + 1) (w3.heap.size + 2) (w3.heap.size + 3) := ⟨h4, hg, by omega, by omega, by omega, by omega, by omega⟩
 have hs35 := h.step.trans hs
 have hsz5 := hs.size
 refine zRun_any (w0 := w5) (most := most) ⟨⟨hS.step hs35 (fun x => x), hO.step hs35 (fun _ _ x => x), fun j hj => hs.cell (h.parts j hj) (fun x => x), Step.refl _ _⟩, hs.at_ h.wrap (fun x => x), hs.at_ h.kept (fun x => x), hs35.at_ hF (fun x => x), by omega, World.ownsRow_nil _ _ _ _, fun _ => ⟨hs.at_ h.dec (fun x => x), rfl, rfl, rfl⟩, by omega⟩ pl hm hr
theorem zAll_used {B : List Nat} {most e : Nat} {out : List Nat} {used : Nat} (h : zAll B most e out used) : (e ≠ 0 → used = 0) ∧ (e = 0 → ∃ q n o, used = q / 8 + 4 ∧ q + 32 ≤ 8 * B.length ∧ GRun B n (gAt most 16) 0 o q) := by
 unfold zAll at h
 by_cases h1 : 0 + 8 ≤ 8 * B.length
 ·rw [if_pos h1] at h
  by_cases h2 : zOk1 (numAt B 0 8)
  ·rw [if_pos h2] at h
   unfold zSec at h
   by_cases h3 : 0 + 8 + 8 ≤ 8 * B.length
   ·rw [if_pos h3] at h
    by_cases h4 : zOk2 (numAt B 0 8) (numAt B (0 + 8) 8)
    ·rw [if_pos h4] at h
     obtain ⟨n, e1, o1, q1, hr, ht⟩ := h
     by_cases h5 : e1 = 0
     ·subst h5
      rw [if_pos rfl] at ht
      obtain ⟨_, ht⟩ := ht
      by_cases h6 : q1 + 32 ≤ 8 * B.length
      ·rw [if_pos h6] at ht
       by_cases h7 : bigAt B q1 4 = adWith 1 o1
       ·rw [if_pos h7] at ht
        exact ⟨fun x => absurd ht.1 x, fun _ => ⟨q1, n, o1, ht.2, h6, hr⟩⟩
       ·rw [if_neg h7] at ht
        exact ⟨fun _ => ht.2, fun x => by omega⟩
      ·rw [if_neg h6] at ht
       exact ⟨fun _ => ht.2, fun x => by omega⟩
     ·rw [if_neg h5] at ht
      exact ⟨fun _ => ht.2.2, fun x => absurd (ht.1.symm.trans x) h5⟩
    ·rw [if_neg h4] at h
     exact ⟨fun _ => h.2.2, fun x => by omega⟩
   ·rw [if_neg h3] at h
    exact ⟨fun _ => h.2.2, fun x => by omega⟩
  ·rw [if_neg h2] at h
   exact ⟨fun _ => h.2.2, fun x => by omega⟩
 ·rw [if_neg h1] at h
  exact ⟨fun _ => h.2.2, fun x => by omega⟩
theorem zAll_len {B : List Nat} {most e : Nat} {out : List Nat} {used : Nat} (h : zAll B most e out used) : out.length ≤ most := by
 have h0 : ∀ o : List Nat, o = [] → o.length ≤ most := fun o ho => by rw [ho]; exact Nat.zero_le _
 unfold zAll at h
 split at h
 ·split at h
  ·unfold zSec at h
   split at h
   ·split at h
    ·obtain ⟨n, e1, o1, q1, hr, ht⟩ := h
     have hlen := (gAt_run hr).2.2
     split at ht
     ·rw [ht.1]; exact hlen
     ·rw [ht.2.1]; exact hlen
    ·exact h0 _ h.2.1
   ·exact h0 _ h.2.1
  ·exact h0 _ h.2.1
 ·exact h0 _ h.2.1
theorem unpackZ (g off cap e : Nat) (most : Int) (B : List Nat) (out : List Nat) (used : Nat) (w : World) (hS : Go.Bel.Src w g off B) (hg : g < w.heap.size) (hO : OrderAt w) (h4 : 4 ≤ w.heap.size) (hr : zAll B (asked most) e out used) :
  Calls Tryz.prog 25 #[.int .i64 1, .slice (fedA g off B.length) B.length cap, .int .i64 most] w
   fun r w' => ∃ v', r = .returned (.agg #[.int .i64 (e : Nat), v', .int .i64 (used : Nat), .string ⟨#[]⟩]) ∧ w'.ownsRow w.heap.size 5 1 v' out.length (u8s out) ∧ Step (fun _ => False) w w' := by
 have hmuch := hS.much
 obtain ⟨hu, hu2⟩ := zAll_used hr
 refine unpackN 1 g off cap e most B out used ⟨#[]⟩ w hS hO hu ?_ (fun w3 _ hsz hF hS3 hO3 => newSaidZ g off cap e (asked most) B out used w w3 (asked_le most) hg h4 hsz hF hS3 hO3 hr)
 by_cases h0 : e = 0
 ·obtain ⟨q, n, o, h1, h2, _⟩ := hu2 h0
  omega
 ·rw [hu h0]
  omega
end Go.Proofs.YtbpahojchgpdnaaGreatDoor
