/- Proved here: the rounds of a reader's run over a Zlib. -/
import Derived.Test.YtbpahojchgpdnaaGreatDoorReadB
namespace Go.Proofs.YtbpahojchgpdnaaGreatDoor
open Go.RowKit Go.Bel Go.Maps
variable {w0 w : World} {n0 g off cap f d D X P : Nat} {F : Nat → Value} {B : List Nat} {most : Nat} {q : RQ} {lv vo v : Value}
theorem big_more {B : List Nat} (Y : List Nat) : ∀ {n p : Nat}, p + 8 * n ≤ 8 * B.length → bigAt (B ++ Y) p n = bigAt B p n := by
 intro n
 induction n with
 | zero => intro p _; rfl
 | succ n ih =>
  intro p hp
  rw [bigAt, bigAt, ih (by omega), num_more Y (by omega)]
theorem big_at_drop (B : List Nat) {z p : Nat} (h : 8 * z ≤ p) : ∀ n, bigAt (B.drop z) (p - 8 * z) n = bigAt B p n := by
 intro n
 induction n with
 | zero => rfl
 | succ n ih =>
  rw [bigAt, bigAt, ih, num_drop, show p - 8 * z + 8 * n + 8 * z = p + 8 * n by omega]
theorem zpart (hS : RS 1 w0 f d D X P F) (h : RM 1 w0 n0 w g off cap f d D X P B most q lv vo v) (hls : q.ls = []) {w1 : World} (hs1 : Step (fun _ => False) w w1) {nb : Nat} {thr : Bool} {x : Nat} {q' : RQ} {s : Value} {Bd : List Nat} {r : Ending} {w' : World}
  (hg : ReadsTo nb (q.p - 8 * q.z) Bd f s q.z w1 (fun r w' => r = .returned (.tuple #[.bool thr, .int .i64 (x : Nat)]) ∧ ZAt w' X D q'.fl q'.check ∧ Step (fun j => j = f ∨ j = X) w1 w') r w') (el : q'.ls = q.ls) (en : q'.nm = q.nm) :
  RPart 1 nb f d D X P s Bd w0.heap.size q q' thr x lv vo w1 r w' := by
 have c1 := hS.f4; have c2 := hS.fd; have c3 := hS.dD; have c4 := hS.DP; have c5 := hS.PN
 obtain ⟨c6, c7⟩ := hS.XP (by omega)
 have hlv := h.m.nolets hls
 rcases hg with ⟨k1, k2, rfl, k3, k4⟩ | hm
 ·refine .inl ⟨k1, k2, rfl, lv, k3, ?_, fun j hj => .inl hj, ?_, fun _ => hlv, k4.mono (fun j y => y.elim .inl (fun z => .inr (.inl z)))⟩
  ·rw [hlv, el, hls]
   exact World.ownsRow_nil _ _ _ _
  ·rw [en]
   exact k4.at_ (hs1.at_ h.dec (fun x => x)) (fun y => by rcases y with y | y <;> omega)
 ·exact .inr hm
theorem RV.z (hv : RV 1 B most q) (i' p' fl' : Nat) (h8 : 2 < i' → p' % 8 = 0) (hn : i' ≤ 2 → q.pre = [] ∧ q.o = []) (hi : 1 ≤ i' ∧ i' ≤ 4) (hf : fl' < 256) : RV 1 B most { q with i := i', p := p', fl := fl', s := gAt most p' } := by
 refine ⟨hv.bytes, hv.len, hv.sum1, fun e => absurd e (by omega), h8, fun y => hn (by have y : i' < 2 := y; omega), hi.2, fun y => ?_, fun _ _ => hf, fun _ y => by have y : i' = 0 := y; omega, fun e => absurd e (by omega), fun e => absurd e (by omega), hv.k01, hv.hh⟩
 have y : i' = 2 := y
 obtain ⟨a, b⟩ := hn (by omega)
 exact ⟨by show (0 : Nat) ≠ 3; omega, rfl, by show [] = q.pre ++ q.o; rw [a, b]; rfl, rfl⟩
theorem RM.zin (hS : RS 1 w0 f d D X P F) (h : RM 1 w0 n0 w g off cap f d D X P B most q lv vo v) {w1 : World} (hs1 : Step (fun _ => False) w w1) : ZAt w1 X D q.fl q.check ∧ WAtN w1 D f d (partsAt P q.i 4) vo (baOf q.nm) ∧ FeedAt w1 f (.slice (fedA g off (B.drop q.z).length) (B.drop q.z).length cap) (q.p - 8 * q.z) q.z ∧ Go.Bel.Src w1 g off (B.drop q.z) ∧ g ≠ f ∧ X ≠ f ∧ D ≠ f ∧ q.p - 8 * q.z ≤ 8 * (B.drop q.z).length := by
 have c1 := hS.f4; have c2 := hS.fd; have c3 := hS.dD; have c4 := hS.DP; have c5 := hS.PN
 obtain ⟨c6, c7⟩ := hS.XP (by omega)
 have hh := h.m.here; have hz := h.m.zp
 have hdr : (B.drop q.z).length = B.length - q.z := List.length_drop
 exact ⟨hs1.at_ (show ZAt w X D q.fl q.check from h.m.xat) (fun x => x), hs1.at_ h.dec (fun x => x), hs1.at_ h.m.feed (fun x => x), h.m.src.step hs1 (fun x => x), by rcases h.m.gin with y | y <;> omega, by omega, by omega, by omega⟩
theorem rz0 (hS : RS 1 w0 f d D X P F) (h : RM 1 w0 n0 w g off cap f d D X P B most q lv vo v) (hvn : q.i < bi 1 → vo = .slice none 0 0) (hv : RV 1 B most q) (hi : q.i = 0) :
  ZW f D w (RRound 1 w0 n0 g off cap f d D X P B most q lv v w) := by
 have hkp := hS.kp
 have hkp : ∀ j, j < 4 → F j = zPart X j := hkp
 have b1 : bi 1 = 2 := rfl
 have n1 : np 1 = 4 := rfl
 have hls := (hv.k01 (by omega)).1
 obtain ⟨hp, hoo⟩ := hv.nopre (by omega)
 have hp0 := hv.p0 rfl hi
 refine rRead hS h hvn hv (by omega) (by omega) (q' := { q with i := 1, p := q.p + 8, fl := numAt B q.p 8, s := gAt most (q.p + 8) }) 8 75 #[.pointer (some ⟨X, 0, none⟩)] #[] (by rw [hi]; exact hkp 0 (by omega)) (cf_first _) true (if zOk1 (numAt B q.p 8) then 0 else 4) (fun w1 hs1 => ?_) (by rw [hi]; rfl) rfl rfl rfl rfl rfl (.inl rfl) (fun k1 => ?_) (fun k1 => ?_)
 ·obtain ⟨a1, a2, a3, a4, a5, a6, a7, a8⟩ := h.zin hS hs1
  refine (zFirst_any X D f d g off cap q.z (q.p - 8 * q.z) q.fl q.check (B.drop q.z) _ vo _ w1 a1 a2 a3 a4 a5 a6 a8 _ rfl).mono fun r w' hg => ?_
  rw [num_at_drop B 8 h.m.zp] at hg
  exact zpart hS h hls hs1 hg rfl rfl
 ·by_cases hok : zOk1 (numAt B q.p 8)
  ·rw [if_pos hok]
   refine .inl ⟨rfl, hv.z 1 (q.p + 8) _ (fun y => by omega) (fun _ => ⟨hp, hoo⟩) ⟨by omega, by omega⟩ (numAt_lt B q.p 8), fun Y e out used name hr => ?_⟩
   unfold rRest at hr ⊢
   rw [if_neg (show ¬ (1 : Nat) = bi 1 by omega), if_neg (show ¬ (1 : Nat) = 0 by omega), if_pos rfl] at hr
   rw [if_neg (by omega), if_neg (by omega), if_pos rfl]
   obtain ⟨⟨_, hr⟩, hn⟩ := hr
   rw [hi]
   refine ⟨⟨hp0, ?_⟩, hn⟩
   rw [hp0] at hr hok k1
   unfold zAll
   rw [if_pos (by rw [List.length_append]; omega), num_more Y k1, if_pos hok]
   exact hr
  ·rw [if_neg hok]
   refine .inr ⟨by omega, by omega, fun Y => ?_⟩
   unfold rRest
   rw [if_neg (by omega), if_neg (by omega), if_pos rfl, hi]
   refine ⟨⟨hp0, ?_⟩, rfl⟩
   rw [hp0] at hok k1
   unfold zAll
   rw [if_pos (by rw [List.length_append]; omega), num_more Y k1, if_neg hok, hp, hoo]
   exact ⟨rfl, rfl, rfl⟩
 ·unfold rRest
  rw [if_neg (by omega), if_neg (by omega), if_pos rfl, hi]
  refine ⟨⟨hp0, ?_⟩, rfl⟩
  rw [hp0] at k1
  unfold zAll
  rw [if_neg (by omega), hp, hoo]
  exact ⟨rfl, rfl, rfl⟩
theorem rz1 (hS : RS 1 w0 f d D X P F) (h : RM 1 w0 n0 w g off cap f d D X P B most q lv vo v) (hvn : q.i < bi 1 → vo = .slice none 0 0) (hv : RV 1 B most q) (hi : q.i = 1) :
  ZW f D w (RRound 1 w0 n0 g off cap f d D X P B most q lv v w) := by
 have hkp := hS.kp
 have hkp : ∀ j, j < 4 → F j = zPart X j := hkp
 have b1 : bi 1 = 2 := rfl
 have n1 : np 1 = 4 := rfl
 have hls := (hv.k01 (by omega)).1
 obtain ⟨hp, hoo⟩ := hv.nopre (by omega)
 have hfl := hv.k1 rfl (by omega)
 refine rRead hS h hvn hv (by omega) (by omega) (q' := { q with i := 2, p := q.p + 8, fl := q.fl, s := gAt most (q.p + 8) }) 8 76 #[.pointer (some ⟨X, 0, none⟩)] #[] (by rw [hi]; exact hkp 1 (by omega)) (cf_second _) true (if zOk2 q.fl (numAt B q.p 8) then 0 else 4) (fun w1 hs1 => ?_) (by rw [hi]; rfl) rfl rfl rfl rfl rfl (.inl rfl) (fun k1 => ?_) (fun k1 => ?_)
 ·obtain ⟨a1, a2, a3, a4, a5, a6, a7, a8⟩ := h.zin hS hs1
  refine (zSecond_any X D f d g off cap q.z (q.p - 8 * q.z) q.fl q.check (B.drop q.z) _ vo _ w1 a1 a2 a3 a4 a5 a6 a8 hfl _ rfl).mono fun r w' hg => ?_
  rw [num_at_drop B 8 h.m.zp] at hg
  exact zpart hS h hls hs1 hg rfl rfl
 ·by_cases hok : zOk2 q.fl (numAt B q.p 8)
  ·rw [if_pos hok]
   refine .inl ⟨rfl, hv.z 2 (q.p + 8) _ (fun y => by omega) (fun _ => ⟨hp, hoo⟩) ⟨by omega, by omega⟩ hfl, fun Y e out used name hr => ?_⟩
   unfold rRest at hr ⊢
   rw [if_pos (show (2 : Nat) = bi 1 by omega)] at hr
   rw [if_neg (by omega), if_neg (by omega), if_pos rfl, hi]
   obtain ⟨n, e1, o1, q1, hrun, hr⟩ := hr
   unfold rTail at hr
   refine ⟨⟨hfl, ?_⟩, ?_⟩
   ·unfold zSec
    rw [if_pos (by rw [List.length_append]; omega), num_more Y k1, if_pos hok]
    refine ⟨n, e1, o1, q1, hrun, ?_⟩
    by_cases he : e1 = 0
    ·rw [if_pos he] at hr ⊢
     exact hr.1
    ·rw [if_neg he] at hr ⊢
     exact ⟨hr.1, hr.2.1, hr.2.2.1⟩
   ·by_cases he : e1 = 0
    ·rw [if_pos he] at hr
     exact hr.2
    ·rw [if_neg he] at hr
     exact hr.2.2.2
  ·rw [if_neg hok]
   refine .inr ⟨by omega, by omega, fun Y => ?_⟩
   unfold rRest
   rw [if_neg (by omega), if_neg (by omega), if_pos rfl, hi]
   refine ⟨⟨hfl, ?_⟩, rfl⟩
   unfold zSec
   rw [if_pos (by rw [List.length_append]; omega), num_more Y k1, if_neg hok, hp, hoo]
   exact ⟨rfl, rfl, rfl⟩
 ·unfold rRest
  rw [if_neg (by omega), if_neg (by omega), if_pos rfl, hi]
  refine ⟨⟨hfl, ?_⟩, rfl⟩
  unfold zSec
  rw [if_neg (by omega), hp, hoo]
  exact ⟨rfl, rfl, rfl⟩
theorem rz3 (hS : RS 1 w0 f d D X P F) (h : RM 1 w0 n0 w g off cap f d D X P B most q lv vo v) (hv : RV 1 B most q) (hi : q.i = 3) :
  ZW f D w (RRound 1 w0 n0 g off cap f d D X P B most q lv v w) := by
 have hkp := hS.kp
 have hkp : ∀ j, j < 4 → F j = zPart X j := hkp
 have b1 : bi 1 = 2 := rfl
 have n1 : np 1 = 4 := rfl
 have hls := (hv.k01 (by omega)).1
 have hfl := hv.k1 rfl (by omega)
 have h8 := hv.al8 (by omega)
 have hsum := hv.sum1 rfl
 have c1 := hS.f4; have c2 := hS.fd; have c3 := hS.dD; have c4 := hS.DP; have c5 := hS.PN
 obtain ⟨c6, c7⟩ := hS.XP (by omega)
 refine rRead hS h (fun y => by omega) hv (by omega) (by omega) (q' := { q with i := 4, p := q.p + 32, fl := q.fl, s := gAt most (q.p + 32) }) 32 78 #[.pointer (some ⟨X, 0, none⟩)] #[] (by rw [hi]; exact hkp 3 (by omega)) (cf_sum _) true (if bigAt B q.p 4 = q.check then 0 else 12) (fun w1 hs1 => ?_) (by rw [hi]; rfl) rfl rfl rfl rfl rfl (.inl rfl) (fun k1 => ?_) (fun k1 => ?_)
 ·obtain ⟨a1, a2, a3, a4, a5, a6, a7, a8⟩ := h.zin hS hs1
  refine (zSum_any X D f d g off cap q.z (q.p - 8 * q.z) q.fl q.check (B.drop q.z) _ vo _ w1 a1 a2 a3 a4 a5 a6 a7 a8 _ rfl).mono fun r w' hg => ?_
  rw [big_at_drop B h.m.zp] at hg
  refine zpart hS h hls hs1 (q' := { q with i := 4, p := q.p + 32, fl := q.fl, s := gAt most (q.p + 32) }) (thr := true) (x := if bigAt B q.p 4 = q.check then 0 else 12) ?_ rfl rfl
  rcases hg with ⟨k1, k2, rfl, k3⟩ | hm
  ·exact .inl ⟨k1, k2, rfl, k3.at_ a1 (by omega), k3.mono (fun j y => .inl y)⟩
  ·exact .inr hm
 ·by_cases hok : bigAt B q.p 4 = q.check
  ·rw [if_pos hok]
   refine .inl ⟨rfl, hv.z 4 (q.p + 32) _ (fun y => by omega) (fun y => by omega) ⟨by omega, by omega⟩ hfl, fun Y e out used name hr => ?_⟩
   unfold rRest at hr ⊢
   rw [if_neg (show ¬ (4 : Nat) = bi 1 by omega), if_neg (show ¬ (1 : Nat) = 0 by omega), if_pos rfl] at hr
   rw [if_neg (by omega), if_neg (by omega), if_pos rfl, hi]
   obtain ⟨⟨rfl, hu, ho⟩, hn⟩ := hr
   have hu : q.p + 32 = 8 * used := hu
   refine ⟨⟨hsum, h8, ho.symm, ?_⟩, hn⟩
   rw [if_pos (by rw [List.length_append]; omega), big_more Y (by omega), if_pos (by rw [hok, hsum])]
   exact ⟨rfl, by omega⟩
  ·rw [if_neg hok]
   refine .inr ⟨by omega, by omega, fun Y => ?_⟩
   unfold rRest
   rw [if_neg (by omega), if_neg (by omega), if_pos rfl, hi]
   refine ⟨⟨hsum, h8, rfl, ?_⟩, rfl⟩
   rw [if_pos (by rw [List.length_append]; omega), big_more Y (by omega), if_neg (by rw [← hsum]; exact hok)]
   exact ⟨rfl, rfl⟩
 ·unfold rRest
  rw [if_neg (by omega), if_neg (by omega), if_pos rfl, hi]
  refine ⟨⟨hsum, h8, rfl, ?_⟩, rfl⟩
  rw [if_neg (by omega)]
  exact ⟨rfl, rfl⟩
end Go.Proofs.YtbpahojchgpdnaaGreatDoor
namespace Go.Proofs.YtbpahojchgpdnaaGreatDoor
open Go.RowKit Go.Bel Go.Maps
variable {w0 w : World} {n0 g off cap f d D X P : Nat} {F : Nat → Value} {B : List Nat} {most : Nat} {q : RQ} {lv vo v : Value}
theorem RM.gin (hS : RS 2 w0 f d D X P F) (h : RM 2 w0 n0 w g off cap f d D X P B most q lv vo v) (hv : RV 2 B most q) {w1 : World} (hs1 : Step (fun _ => False) w w1) : GIn w1 X D f d g off cap q.z (q.p - 8 * q.z) q.fl q.left q.head lv q.check q.size (B.drop q.z) (partsAt P q.i 13) vo (baOf q.nm) := by
 have c1 := hS.f4; have c2 := hS.fd; have c3 := hS.dD; have c4 := hS.DP; have c5 := hS.PN
 obtain ⟨c6, c7⟩ := hS.XP (by omega)
 have hh := h.m.here; have hz := h.m.zp
 have hdr : (B.drop q.z).length = B.length - q.z := List.length_drop
 exact ⟨hs1.at_ (show GzAt w X D q.fl q.left q.head lv q.check q.size from h.m.xat) (fun x => x), hs1.at_ h.dec (fun x => x), hs1.at_ h.m.feed (fun x => x), h.m.src.step hs1 (fun x => x), by rcases h.m.gin with y | y <;> omega, by omega, by omega, by omega, by omega, hv.hh⟩
theorem RM.box (hS : RS 2 w0 f d D X P F) (h : RM 2 w0 n0 w g off cap f d D X P B most q lv vo v) {w1 : World} (hs1 : Step (fun _ => False) w w1) {a : Nat} {u : Value} (ha : X < a ∧ a < w0.heap.size) (hc : w0.cell? ⟨a, 0, none⟩ = some u) : w1.cell? ⟨a, 0, none⟩ = some u := by
 obtain ⟨c6, c7⟩ := hS.XP (by omega)
 exact hs1.cell ((World.cell?_of_block (a := ⟨a, 0, none⟩) (h.m.old a (by omega) (by omega) ha.2)).trans hc) (fun x => x)
theorem gpart (hS : RS 2 w0 f d D X P F) (h : RM 2 w0 n0 w g off cap f d D X P B most q lv vo v) {w1 : World} (hs1 : Step (fun _ => False) w w1) {nb : Nat} {q' : RQ} {thr : Bool} {x : Nat} {s : Value} {Bd : List Nat} {r : Ending} {w' : World}
  (hg : GzTo nb (q.p - 8 * q.z) Bd f s q.z X D d q'.fl q'.left q'.head lv q'.check q'.size (partsAt P q.i 13) vo (baOf q.nm) thr x (fun k => k = f ∨ k = X) w1 r w') (el : q'.ls = q.ls) (en : q'.nm = q.nm) :
  RPart 2 nb f d D X P s Bd w0.heap.size q q' thr x lv vo w1 r w' := by
 have c1 := hS.f4; have c2 := hS.fd; have c3 := hS.dD; have c4 := hS.DP; have c5 := hS.PN
 obtain ⟨c6, c7⟩ := hS.XP (by omega)
 rcases hg with ⟨k1, k2, rfl, k3, k4, k5⟩ | hm
 ·refine .inl ⟨k1, k2, rfl, lv, k3, ?_, fun k hk => .inl hk, by rw [en]; exact k4, fun y => h.m.nolets (by rw [← el]; exact y), k5.mono (fun k y => y.elim .inl (fun z => .inr (.inl z)))⟩
  rw [el]
  exact let_step (let_step h.m.lets hs1 (fun _ _ y => y)) k5 (fun k hk y => by
   have := (h.m.lets.lt k hk).1
   omega)
 ·exact .inr hm
abbrev GP (w0 w : World) (g off cap f d D X P : Nat) (F : Nat → Value) (B : List Nat) (q : RQ) (lv vo : Value) (nb : Nat) (q' : RQ) (thr : Bool) (x id : Nat) (first caps : Array Value) : Prop :=
 F q.i = .func (.func id) first caps ∧ ∀ w1, Step (fun _ => False) w w1 → Calls Tryz.prog id (first ++ caps) w1 (RPart 2 nb f d D X P (.slice (fedA g off (B.drop q.z).length) (B.drop q.z).length cap) (B.drop q.z) w0.heap.size q q' thr x lv vo w1)
abbrev GMth (w0 w : World) (g off cap f d D X P : Nat) (B : List Nat) (q : RQ) (lv vo : Value) (nb : Nat) (q' : RQ) (thr : Bool) (x id : Nat) : Prop :=
 ∀ w1, Step (fun _ => False) w w1 → Calls Tryz.prog id #[.pointer (some ⟨X, 0, none⟩)] w1 (RPart 2 nb f d D X P (.slice (fedA g off (B.drop q.z).length) (B.drop q.z).length cap) (B.drop q.z) w0.heap.size q q' thr x lv vo w1)
theorem d_mark (hS : RS 2 w0 f d D X P F) (h : RM 2 w0 n0 w g off cap f d D X P B most q lv vo v) (hv : RV 2 B most q) {m : Nat} (hm : IsMark w0 X m (F q.i)) : ∃ caps, GP w0 w g off cap f d D X P F B q lv vo 8 { q with i := q.i + 1, p := q.p + 8, head := crcWith q.head [numAt B q.p 8], s := gAt most (q.p + 8) } true (if numAt B q.p 8 = m then 0 else 4) 121 #[] caps := by
 obtain ⟨a, b, hF, ha, hb, ca, cb⟩ := hm
 have c1 := hS.f4; have c2 := hS.fd; have c3 := hS.dD; have c4 := hS.DP; have c5 := hS.PN
 obtain ⟨c6, c7⟩ := hS.XP (by omega)
 refine ⟨_, hF, fun w1 hs1 => ?_⟩
 have gi := h.gin hS hv hs1
 refine (mark_any a b m X D f d g off cap q.z (q.p - 8 * q.z) q.fl q.left q.head q.check q.size lv (B.drop q.z) _ vo _ w1 gi.gz gi.dec gi.feed gi.src gi.gf gi.Xf gi.Df gi.DX gi.here gi.hh (h.box hS hs1 ha ca) (h.box hS hs1 hb cb) ⟨by omega, by omega⟩ _ rfl).mono ?_
 intro r w' hg
 simp only [num_at_drop B _ h.m.zp] at hg
 exact gpart hS h hs1 hg rfl rfl
theorem d_flags (hS : RS 2 w0 f d D X P F) (h : RM 2 w0 n0 w g off cap f d D X P B most q lv vo v) (hv : RV 2 B most q) : GMth w0 w g off cap f d D X P B q lv vo 8 { q with i := q.i + 1, p := q.p + 8, fl := numAt B q.p 8, head := crcWith q.head [numAt B q.p 8], s := gAt most (q.p + 8) } true (if numAt B q.p 8 < 32 then 0 else 4) 80 := fun w1 hs1 =>
 (readFlags_any X D f d g off cap q.z _ q.fl q.left q.head q.check q.size lv _ _ vo _ w1 (h.gin hS hv hs1) _ rfl).mono fun _ _ hg => by
  simp only [num_at_drop B _ h.m.zp] at hg
  exact gpart hS h hs1 hg rfl rfl
theorem d_pass (hS : RS 2 w0 f d D X P F) (h : RM 2 w0 n0 w g off cap f d D X P B most q lv vo v) (hv : RV 2 B most q) (hl : 0 < q.left) (hm : q.left < 1000000) (i' : Nat) : GMth w0 w g off cap f d D X P B q lv vo 8 { q with i := i', p := q.p + 8, left := q.left - 1, head := crcWith q.head [numAt B q.p 8], s := gAt most (q.p + 8) } (q.left == 1) 0 81 := fun w1 hs1 =>
 (pass_any X D f d g off cap q.z _ q.fl q.left q.head q.check q.size lv _ _ vo _ w1 (h.gin hS hv hs1) hl hm _ rfl).mono fun _ _ hg => by
  simp only [num_at_drop B _ h.m.zp] at hg
  exact gpart hS h hs1 hg rfl rfl
theorem d_pass0 (hS : RS 2 w0 f d D X P F) (h : RM 2 w0 n0 w g off cap f d D X P B most q lv vo v) (hv : RV 2 B most q) (hl : q.left = 0) : GMth w0 w g off cap f d D X P B q lv vo 0 { q with i := q.i + 1, left := 0, s := gAt most q.p } true 0 81 := fun w1 hs1 =>
 (pass_none X D f d g off cap q.z _ q.fl q.left q.head q.check q.size lv _ _ vo _ w1 (h.gin hS hv hs1) hl).mono fun _ _ hg => gpart hS h hs1 hg rfl rfl
theorem d_extra (hS : RS 2 w0 f d D X P F) (h : RM 2 w0 n0 w g off cap f d D X P B most q lv vo v) (hv : RV 2 B most q) : GMth w0 w g off cap f d D X P B q lv vo 16 { q with i := q.i + 1, p := q.p + 16, left := numAt B q.p 16, head := crcWith q.head [numAt B q.p 16 % 256, numAt B q.p 16 / 256], s := gAt most (q.p + 16) } true 0 83 := fun w1 hs1 =>
 (extraSize_any X D f d g off cap q.z _ q.fl q.left q.head q.check q.size lv _ _ vo _ w1 (h.gin hS hv hs1)).mono fun _ _ hg => by
  simp only [num_at_drop B _ h.m.zp] at hg
  exact gpart hS h hs1 hg rfl rfl
theorem d_remark (hS : RS 2 w0 f d D X P F) (h : RM 2 w0 n0 w g off cap f d D X P B most q lv vo v) (hv : RV 2 B most q) (i' : Nat) : GMth w0 w g off cap f d D X P B q lv vo 8 { q with i := i', p := q.p + 8, head := crcWith q.head [numAt B q.p 8], s := gAt most (q.p + 8) } (numAt B q.p 8 == 0) 0 85 := fun w1 hs1 =>
 (remark_any X D f d g off cap q.z _ q.fl q.left q.head q.check q.size lv _ _ vo _ w1 (h.gin hS hv hs1) _ rfl).mono fun _ _ hg => by
  simp only [num_at_drop B _ h.m.zp] at hg
  exact gpart hS h hs1 hg rfl rfl
theorem d_headHolds (hS : RS 2 w0 f d D X P F) (h : RM 2 w0 n0 w g off cap f d D X P B most q lv vo v) (hv : RV 2 B most q) : GMth w0 w g off cap f d D X P B q lv vo 16 { q with i := q.i + 1, p := q.p + 16, s := gAt most (q.p + 16) } true (if numAt B q.p 16 = q.head % 65536 then 0 else 12) 86 := fun w1 hs1 =>
 (headHolds_any X D f d g off cap q.z _ q.fl q.left q.head q.check q.size lv _ _ vo _ w1 (h.gin hS hv hs1) _ rfl).mono fun _ _ hg => by
  simp only [num_at_drop B _ h.m.zp] at hg
  exact gpart hS h hs1 hg rfl rfl
theorem d_check (hS : RS 2 w0 f d D X P F) (h : RM 2 w0 n0 w g off cap f d D X P B most q lv vo v) (hv : RV 2 B most q) : GMth w0 w g off cap f d D X P B q lv vo 32 { q with i := q.i + 1, p := q.p + 32, s := gAt most (q.p + 32) } true (if numAt B q.p 32 = q.check then 0 else 12) 88 := fun w1 hs1 =>
 (checkHolds_any X D f d g off cap q.z _ q.fl q.left q.head q.check q.size lv _ _ vo _ w1 (h.gin hS hv hs1) _ rfl).mono fun _ _ hg => by
  simp only [num_at_drop B _ h.m.zp] at hg
  exact gpart hS h hs1 hg rfl rfl
theorem d_size (hS : RS 2 w0 f d D X P F) (h : RM 2 w0 n0 w g off cap f d D X P B most q lv vo v) (hv : RV 2 B most q) : GMth w0 w g off cap f d D X P B q lv vo 32 { q with i := q.i + 1, p := q.p + 32, s := gAt most (q.p + 32) } true (if numAt B q.p 32 = q.size then 0 else 12) 89 := fun w1 hs1 =>
 (sizeHolds_any X D f d g off cap q.z _ q.fl q.left q.head q.check q.size lv _ _ vo _ w1 (h.gin hS hv hs1) _ rfl).mono fun _ _ hg => by
  simp only [num_at_drop B _ h.m.zp] at hg
  exact gpart hS h hs1 hg rfl rfl
theorem d_letter (hS : RS 2 w0 f d D X P F) (h : RM 2 w0 n0 w g off cap f d D X P B most q lv vo v) (hv : RV 2 B most q) (hn : numAt B q.p 8 ≠ 0) (hl : q.ls.length ≤ 8388608) : GMth w0 w g off cap f d D X P B q lv vo 8 { q with p := q.p + 8, head := crcWith q.head [numAt B q.p 8], ls := q.ls ++ [numAt B q.p 8], s := gAt most (q.p + 8) } false 0 84 := fun w1 hs1 => by
 have hz := h.m.big
 have hz1 := hs1.size
 refine (letter_more X D f d g off cap q.z (q.p - 8 * q.z) q.fl q.left q.head q.check q.size w0.heap.size lv q.ls (B.drop q.z) _ vo _ w1 (h.gin hS hv hs1) (let_step h.m.lets hs1 (fun _ _ y => y)) (by rw [num_at_drop B _ h.m.zp]; exact hn) hl (by omega)).mono ?_
 intro r w' hg
 simp only [num_at_drop B _ h.m.zp] at hg
 rcases hg with ⟨k1, k2, rfl, lv', k3, k4, k5, k6, k7⟩ | hm
 ·exact .inl ⟨k1, k2, rfl, lv', k3, k4, k5, k6, fun y => by simp at y, k7.mono (fun k y => by
   rcases y with y | y | y
   ·exact .inl y
   ·exact .inr (.inl y)
   ·exact .inr (.inr (.inr y)))⟩
 ·exact .inr hm
theorem d_letter0 (hS : RS 2 w0 f d D X P F) (h : RM 2 w0 n0 w g off cap f d D X P B most q lv vo v) (hv : RV 2 B most q) (hn : numAt B q.p 8 = 0) (hl : AllB q.ls) : GMth w0 w g off cap f d D X P B q lv vo 8 { q with i := q.i + 1, p := q.p + 8, head := crcWith q.head [numAt B q.p 8], ls := [], nm := latinB q.ls, s := gAt most (q.p + 8) } true 0 84 := fun w1 hs1 => by
 refine (letter_end X D f d g off cap q.z (q.p - 8 * q.z) q.fl q.left q.head q.check q.size w0.heap.size lv q.ls (B.drop q.z) _ vo _ w1 (h.gin hS hv hs1) (let_step h.m.lets hs1 (fun _ _ y => y)) (by rw [num_at_drop B _ h.m.zp]; exact hn) hl).mono ?_
 intro r w' hg
 simp only [num_at_drop B _ h.m.zp] at hg
 rcases hg with ⟨k1, k2, rfl, k3, k4, k5⟩ | hm
 ·exact .inl ⟨k1, k2, rfl, .slice none 0 0, k3, World.ownsRow_nil _ _ _ _, fun k hk => (by simp [Value.ownBlock] at hk), k4, fun _ => rfl, k5.mono (fun k y => by
   rcases y with y | y | y
   ·exact .inl y
   ·exact .inr (.inl y)
   ·exact .inr (.inr (.inl y)))⟩
 ·exact .inr hm
theorem d_no (hS : RS 2 w0 f d D X P F) (h : RM 2 w0 n0 w g off cap f d D X P B most q lv vo v) (hv : RV 2 B most q) {flag id : Nat} (hw : IsWith w0 X flag id (F q.i)) (hf : bits .and .i64 (q.fl : Int) (flag : Int) = 0) : ∃ caps, GP w0 w g off cap f d D X P F B q lv vo 0 { q with i := q.i + 1, s := gAt most q.p } true 0 123 #[] caps := by
 obtain ⟨a, b, c, hF, ha, hb, hc, ca, cb, cc⟩ := hw
 refine ⟨_, hF, fun w1 hs1 => ?_⟩
 have gi := h.gin hS hv hs1
 refine (with_no a b c X D q.fl flag q.left q.head q.check q.size lv w1 gi.gz (h.box hS hs1 ha ca) (h.box hS hs1 hb cb) hf).mono ?_
 rintro r w' ⟨rfl, hs2⟩
 have gi2 := gi.step0 hs2
 exact gpart hS h hs1 (.inl ⟨gi.here, gi2.feed, rfl, gi2.gz, gi2.dec, hs2.mono (fun _ y => y.elim)⟩) rfl rfl
theorem d_yes (hS : RS 2 w0 f d D X P F) (h : RM 2 w0 n0 w g off cap f d D X P B most q lv vo v) (hv : RV 2 B most q) {flag id nb : Nat} {q' : RQ} {thr : Bool} {x : Nat} (hw : IsWith w0 X flag id (F q.i)) (hf : (bits .and .i64 (q.fl : Int) (flag : Int) == 0) = false)
  (hcf : ∀ w, (callFunc id #[.pointer (some ⟨X, 0, none⟩)]).run Tryz.prog w = .ok (.enter id #[.pointer (some ⟨X, 0, none⟩)]) w)
  (hc : GMth w0 w g off cap f d D X P B q lv vo nb q' thr x id) : ∃ caps, GP w0 w g off cap f d D X P F B q lv vo nb q' thr x 123 #[] caps := by
 obtain ⟨a, b, c, hF, ha, hb, hcc, ca, cb, cc⟩ := hw
 refine ⟨_, hF, fun w1 hs1 => ?_⟩
 have gi := h.gin hS hv hs1
 refine with_yes a b c X D q.fl flag q.left q.head q.check q.size id lv w1 _ gi.gz (h.box hS hs1 ha ca) (h.box hS hs1 hb cb) (h.box hS hs1 hcc cc) hf hcf (fun w2 hs2 => ?_)
 refine (hc w2 (hs1.trans hs2)).mono ?_
 intro r w' hp
 have hz := hs2.size
 refine ⟨?_, ?_⟩
 ·rcases hp with ⟨_, _, rfl, _⟩ | ⟨_, rfl, _⟩
  ·exact .inl ⟨_, _, rfl⟩
  ·exact .inr rfl
 ·rcases hp with ⟨k1, k2, k3, lv', k4, k5, k6, k7, k8, k9⟩ | ⟨k1, k2, k3, k4⟩
  ·exact .inl ⟨k1, k2, k3, lv', k4, k5, fun k hk => (k6 k hk).imp (fun z => z) (fun y => by omega), k7, k8, (hs2.mono (fun _ y => y.elim)).trans k9⟩
  ·exact .inr ⟨k1, k2, k3, (hs2.mono (fun _ y => y.elim)).trans k4⟩
end Go.Proofs.YtbpahojchgpdnaaGreatDoor
namespace Go.Proofs.YtbpahojchgpdnaaGreatDoor
open Go.RowKit Go.Bel Go.Maps
variable {w0 w : World} {n0 g off cap f d D X P : Nat} {F : Nat → Value} {B : List Nat} {most : Nat} {q : RQ} {lv vo v : Value} {e : Nat} {out : List Nat} {used : Nat} {name : List Nat}
theorem rest_g (h : q.i ≠ 10) : rRest 2 B most q e out used name = gzRest B most q.g e out used name := by
 unfold rRest
 rw [if_neg (show ¬ q.i = bi 2 from h), if_neg (by omega), if_neg (by omega)]
theorem rest_0 (hi : q.i = 0) : rRest 2 B most q e out used name = (q.p = 0 ∧ gzAll B most e out used name) := by
 rw [rest_g (by omega)]; unfold gzRest; rw [show q.g.i = 0 from hi]; rfl
theorem rest_1 (hi : q.i = 1) : rRest 2 B most q e out used name = (q.p = 8 ∧ gz1 B most e out used name) := by
 rw [rest_g (by omega)]; unfold gzRest; rw [show q.g.i = 1 from hi]; rfl
theorem rest_2 (hi : q.i = 2) : rRest 2 B most q e out used name = (q.p = 16 ∧ gz2 B most e out used name) := by
 rw [rest_g (by omega)]; unfold gzRest; rw [show q.g.i = 2 from hi]; rfl
theorem rest_3 (hi : q.i = 3) : rRest 2 B most q e out used name = (q.p = 24 ∧ gzFlags B most 24 e out used name) := by
 rw [rest_g (by omega)]; unfold gzRest; rw [show q.g.i = 3 from hi]; rfl
theorem rest_4 (hi : q.i = 4) : rRest 2 B most q e out used name = gzSkip B most q.fl q.p q.left e out used name := by
 rw [rest_g (by omega)]; unfold gzRest; rw [show q.g.i = 4 from hi]; rfl
theorem rest_5 (hi : q.i = 5) : rRest 2 B most q e out used name = gzExtra B most q.fl q.p e out used name := by
 rw [rest_g (by omega)]; unfold gzRest; rw [show q.g.i = 5 from hi]; rfl
theorem rest_6 (hi : q.i = 6) : rRest 2 B most q e out used name = gzPass B most q.fl q.p q.left e out used name := by
 rw [rest_g (by omega)]; unfold gzRest; rw [show q.g.i = 6 from hi]; rfl
theorem rest_7 (hi : q.i = 7) : rRest 2 B most q e out used name = gzName B most q.fl q.p q.ls e out used name := by
 rw [rest_g (by omega)]; unfold gzRest; rw [show q.g.i = 7 from hi]; rfl
theorem rest_8 (hi : q.i = 8) : rRest 2 B most q e out used name = gzRemark B most q.fl q.p q.nm e out used name := by
 rw [rest_g (by omega)]; unfold gzRest; rw [show q.g.i = 8 from hi]; rfl
theorem rest_9 (hi : q.i = 9) : rRest 2 B most q e out used name = gzCheck B most q.fl q.p q.nm e out used name := by
 rw [rest_g (by omega)]; unfold gzRest; rw [show q.g.i = 9 from hi]; rfl
theorem rest_10 (hi : q.i = 10) (hs : q.s = gAt most q.p) (h : rRest 2 B most q e out used name) : gzBody B most q.p q.nm e out used name := by
 unfold rRest at h
 rw [if_pos (show q.i = bi 2 from hi)] at h
 obtain ⟨n, e1, o1, q1, hr, h⟩ := h
 rw [hs] at hr
 refine ⟨n, e1, o1, q1, hr, ?_⟩
 by_cases he : e1 = 0
 ·rw [if_pos he] at h ⊢
  unfold rTail at h
  rw [if_neg (by omega), if_neg (by omega)] at h
  exact h
 ·rw [if_neg he] at h ⊢
  exact h
theorem rest_11 (hi : q.i = 11) : rRest 2 B most q e out used name = (q.check = crcWith 0 (q.pre ++ q.o) ∧ q.size = (q.pre ++ q.o).length ∧ q.p % 8 = 0 ∧ gzTail B q.p (q.pre ++ q.o) q.nm e out used name) := by
 rw [rest_g (by omega)]; unfold gzRest; rw [show q.g.i = 11 from hi]; rfl
theorem rest_12 (hi : q.i = 12) : rRest 2 B most q e out used name = (q.size = (q.pre ++ q.o).length ∧ q.p % 8 = 0 ∧ gzSize B q.p (q.pre ++ q.o) q.nm e out used name) := by
 rw [rest_g (by omega)]; unfold gzRest; rw [show q.g.i = 12 from hi]; rfl
theorem rest_13 (hi : q.i = 13) : rRest 2 B most q e out used name = (e = 0 ∧ q.p = 8 * used ∧ q.pre ++ q.o = out ∧ name = q.nm) := by
 rw [rest_g (by omega)]; unfold gzRest; rw [show q.g.i = 13 from hi]; rfl
theorem RV.gg (hv : RV 2 B most q) (i' p' fl' left' head' : Nat) (ls' nm' : List Nat) (h8 : 10 < i' → p' % 8 = 0) (hn : i' ≤ 10 → q.pre = [] ∧ q.o = []) (hi : i' ≤ 13) (hp2 : i' ≤ 3 → p' = 8 * i')
  (hg : GV B ⟨i', p', fl', left', head', q.check, q.size, ls', q.pre ++ q.o, nm'⟩) (hh : head' < 4294967296) : RV 2 B most { q with i := i', p := p', fl := fl', left := left', head := head', ls := ls', nm := nm', s := gAt most p' } := by
 refine ⟨hv.bytes, hv.len, fun e => absurd e (by omega), hv.sum2, h8, fun y => hn (by have y : i' < 10 := y; omega), hi, fun y => ?_, fun e => absurd e (by omega), fun e => absurd e (by omega), fun _ => hp2, fun _ => hg, fun e => absurd rfl e, hh⟩
 have y : i' = 10 := y
 obtain ⟨a, b⟩ := hn (by omega)
 exact ⟨by show (0 : Nat) ≠ 3; omega, rfl, by show [] = q.pre ++ q.o; rw [a, b]; rfl, rfl⟩
theorem le_more {B Y : List Nat} {n : Nat} (h : n ≤ 8 * B.length) : n ≤ 8 * (B ++ Y).length := by rw [List.length_append]; omega
section head
variable (hS : RS 2 w0 f d D X P F) (h : RM 2 w0 n0 w g off cap f d D X P B most q lv vo v) (hvn : q.i < bi 2 → vo = .slice none 0 0) (hv : RV 2 B most q) (hB : AllB B)
include hS h hvn hv hB
theorem rgMark (hi : q.i < 3) {m : Nat} (hm : IsMark w0 X m (F q.i)) (K : List Nat → Nat → List Nat → Nat → List Nat → Prop)
  (hr : ∀ Z e out used name, rRest 2 Z most q e out used name = gzMark Z m q.p (K Z) e out used name)
  (hK : ∀ Z (q' : RQ) e out used name, q'.i = q.i + 1 → q'.p = q.p + 8 → rRest 2 Z most q' e out used name → K Z e out used name) :
  ZW f D w (RRound 2 w0 n0 g off cap f d D X P B most q lv v w) := by
 have b2 : bi 2 = 10 := rfl
 have n2 : np 2 = 13 := rfl
 obtain ⟨hp, ho⟩ := hv.nopre (by omega)
 have hg := hv.k2 rfl
 have hnm : q.nm = [] := hg.nm (by show q.i ≤ 7; omega)
 obtain ⟨a1, a2⟩ := hg.al (by show q.i ≤ 9; omega)
 have a1 : q.p % 8 = 0 := a1
 have a2 : q.head = crcWith 0 (B.take (q.p / 8)) := a2
 have hp2 := hv.p2 rfl (by omega)
 have hls : q.ls = [] := hg.ls (by show q.i ≠ 7; omega)
 obtain ⟨caps, hF, hc⟩ := d_mark hS h hv hm
 refine rRead hS h hvn hv (by omega) (by omega) 8 _ #[] caps hF (cf_mark _) true _ hc rfl rfl rfl rfl rfl rfl (.inl rfl) (fun k => ?_) (fun k => ?_)
 ·by_cases hn : numAt B q.p 8 = m
  ·rw [if_pos hn]
   refine .inl ⟨rfl, hv.gg (q.i + 1) (q.p + 8) q.fl q.left _ q.ls q.nm (fun y => by omega) (fun _ => ⟨hp, ho⟩) (by omega) (fun _ => by omega) ⟨fun _ => ⟨by show (q.p + 8) % 8 = 0; omega, ?_⟩, fun y => by have y : 4 ≤ q.i + 1 := y; omega, hg.lf, fun _ => hls, hg.lb, by show 8 * q.ls.length ≤ q.p + 8; rw [hls]; simp, fun _ => hnm, fun _ => hg.l6 (by show q.i ≤ 3; omega), fun _ => hls⟩ (crcWith_lt _ _), fun Y e out used name hrest => ?_⟩
   ·show crcWith q.head [numAt B q.p 8] = crcWith 0 (B.take ((q.p + 8) / 8))
    rw [a2]
    exact crc_byte B q.p hB a1 k
   ·rw [hr]
    unfold gzMark
    rw [if_pos (le_more k), num_more Y k, if_pos hn]
    exact hK _ _ _ _ _ _ rfl rfl hrest
  ·rw [if_neg hn]
   refine .inr ⟨by omega, by omega, fun Y => ?_⟩
   rw [hr]
   unfold gzMark
   rw [if_pos (le_more k), num_more Y k, if_neg hn, hp, ho]
   exact ⟨rfl, rfl, rfl, hnm⟩
 ·rw [hr]
  unfold gzMark
  rw [if_neg (by omega), hp, ho]
  exact ⟨rfl, rfl, rfl, hnm⟩
theorem rg3 (hi : q.i = 3) : ZW f D w (RRound 2 w0 n0 g off cap f d D X P B most q lv v w) := by
 have hkp := hS.kp
 have hP : GzParts w0 X F := hkp
 have b2 : bi 2 = 10 := rfl
 have n2 : np 2 = 13 := rfl
 obtain ⟨hp, ho⟩ := hv.nopre (by omega)
 have hg := hv.k2 rfl
 have hnm : q.nm = [] := hg.nm (by show q.i ≤ 7; omega)
 obtain ⟨a1, a2⟩ := hg.al (by show q.i ≤ 9; omega)
 have a1 : q.p % 8 = 0 := a1
 have a2 : q.head = crcWith 0 (B.take (q.p / 8)) := a2
 have hp2 := hv.p2 rfl (by omega)
 have hp24 : q.p = 24 := by omega
 have hls : q.ls = [] := hg.ls (by show q.i ≠ 7; omega)
 have hl6 : q.left = 6 := hg.l6 (by show q.i ≤ 3; omega)
 refine rRead hS h hvn hv (by omega) (by omega) 8 _ #[.pointer (some ⟨X, 0, none⟩)] #[] (by rw [hi]; exact hP.p3) (cf_flags _) true _ (d_flags hS h hv) rfl rfl rfl rfl rfl rfl (.inl rfl) (fun k => ?_) (fun k => ?_)
 ·by_cases hn : numAt B q.p 8 < 32
  ·rw [if_pos hn]
   refine .inl ⟨rfl, hv.gg (q.i + 1) (q.p + 8) (numAt B q.p 8) q.left _ q.ls q.nm (fun y => by omega) (fun _ => ⟨hp, ho⟩) (by omega) (fun _ => by omega) ⟨fun _ => ⟨by show (q.p + 8) % 8 = 0; omega, ?_⟩, fun _ => hn, hg.lf, fun _ => hls, hg.lb, by show 8 * q.ls.length ≤ q.p + 8; rw [hls]; simp, fun _ => hnm, fun y => by have y : q.i + 1 ≤ 3 := y; omega, fun _ => hls⟩ (crcWith_lt _ _), fun Y e out used name hrest => ?_⟩
   ·show crcWith q.head [numAt B q.p 8] = crcWith 0 (B.take ((q.p + 8) / 8))
    rw [a2]
    exact crc_byte B q.p hB a1 k
   ·rw [rest_4 (by show q.i + 1 = 4; omega)] at hrest
    have hrest : gzSkip (B ++ Y) most (numAt B q.p 8) (q.p + 8) q.left e out used name := hrest
    rw [rest_3 hi]
    refine ⟨hp24, ?_⟩
    rw [hp24, hl6] at hrest
    rw [hp24] at hn k
    unfold gzFlags
    rw [if_pos (le_more k), num_more Y k, if_pos hn]
    exact hrest
  ·rw [if_neg hn]
   refine .inr ⟨by omega, by omega, fun Y => ?_⟩
   rw [rest_3 hi]
   refine ⟨hp24, ?_⟩
   rw [hp24] at hn k
   unfold gzFlags
   rw [if_pos (le_more k), num_more Y k, if_neg hn, hp, ho]
   exact ⟨rfl, rfl, rfl, hnm⟩
 ·rw [rest_3 hi]
  refine ⟨hp24, ?_⟩
  rw [hp24] at k
  unfold gzFlags
  rw [if_neg (by omega), hp, ho]
  exact ⟨rfl, rfl, rfl, hnm⟩
theorem rg4 (hi : q.i = 4) : ZW f D w (RRound 2 w0 n0 g off cap f d D X P B most q lv v w) := by
 have hkp := hS.kp
 have hP : GzParts w0 X F := hkp
 have b2 : bi 2 = 10 := rfl
 have n2 : np 2 = 13 := rfl
 obtain ⟨hp, ho⟩ := hv.nopre (by omega)
 have hg := hv.k2 rfl
 have hnm : q.nm = [] := hg.nm (by show q.i ≤ 7; omega)
 have hlf : q.left < 65536 := hg.lf
 have hls : q.ls = [] := hg.ls (by show q.i ≠ 7; omega)
 have hh := h.m.here
 by_cases h0 : q.left = 0
 ·refine rRead hS h hvn hv (by omega) (by omega) 0 _ #[.pointer (some ⟨X, 0, none⟩)] #[] (by rw [hi]; exact hP.p4) (cf_pass _) true 0 (d_pass0 hS h hv h0) rfl rfl rfl rfl rfl rfl (.inl rfl) (fun k => ?_) (fun k => by omega)
  refine .inl ⟨rfl, hv.gg (q.i + 1) q.p q.fl 0 q.head q.ls q.nm (fun y => by omega) (fun _ => ⟨hp, ho⟩) (by omega) (fun _ => by omega) (hg.skip (by show q.i ≤ 9; omega) (by show 4 ≤ q.i; omega) 0 (by omega) hls) hv.hh, fun Y e out used name hrest => ?_⟩
  rw [rest_5 (by show q.i + 1 = 5; omega)] at hrest
  rw [rest_4 hi]
  unfold gzSkip
  rw [h0, if_pos (by exact le_more (by omega))]
  exact hrest
 ·refine rRead hS h hvn hv (by omega) (by omega) 8 _ #[.pointer (some ⟨X, 0, none⟩)] #[] (by rw [hi]; exact hP.p4) (cf_pass _) (q.left == 1) 0 (d_pass hS h hv (by omega) (by omega) (if (q.left == 1) = true then q.i + 1 else q.i)) rfl rfl rfl rfl rfl rfl (.inr (by omega)) (fun k => ?_) (fun k => ?_)
  ·have hi2 : (if (q.left == 1) = true then q.i + 1 else q.i) = q.i ∨ (if (q.left == 1) = true then q.i + 1 else q.i) = q.i + 1 := by by_cases y : (q.left == 1) = true <;> simp [y]
   refine .inl ⟨rfl, hv.gg (if (q.left == 1) = true then q.i + 1 else q.i) (q.p + 8) q.fl (q.left - 1) _ q.ls q.nm (fun y => by omega) (fun _ => ⟨hp, ho⟩) (by omega) (fun _ => by omega) (hg.byte hB (by show q.i ≤ 9; omega) (by show 4 ≤ q.i; omega) k _ _ hi2 (by omega) (by show q.i ≠ 7; omega)) (crcWith_lt _ _), fun Y e out used name hrest => ?_⟩
   rw [rest_4 hi]
   by_cases h1 : q.left = 1
   ·have hb : (q.left == 1) = true := by rw [h1]; rfl
    rw [rest_5 (by show (if (q.left == 1) = true then q.i + 1 else q.i) = 5; rw [if_pos hb]; omega)] at hrest
    unfold gzSkip
    rw [h1, if_pos (le_more (by omega))]
    exact hrest
   ·have hb : ¬ (q.left == 1) = true := by simpa using h1
    rw [rest_4 (by show (if (q.left == 1) = true then q.i + 1 else q.i) = 4; rw [if_neg hb]; omega)] at hrest
    have hrest : gzSkip (B ++ Y) most q.fl (q.p + 8) (q.left - 1) e out used name := hrest
    unfold gzSkip at hrest ⊢
    rw [show q.p + 8 + 8 * (q.left - 1) = q.p + 8 * q.left by omega] at hrest
    exact hrest
  ·rw [rest_4 hi]
   unfold gzSkip
   rw [if_neg (by omega), hp, ho]
   exact ⟨rfl, rfl, rfl, hnm⟩
theorem rg5 (hi : q.i = 5) : ZW f D w (RRound 2 w0 n0 g off cap f d D X P B most q lv v w) := by
 have hkp := hS.kp
 have hP : GzParts w0 X F := hkp
 have b2 : bi 2 = 10 := rfl
 have n2 : np 2 = 13 := rfl
 obtain ⟨hp, ho⟩ := hv.nopre (by omega)
 have hg := hv.k2 rfl
 have hnm : q.nm = [] := hg.nm (by show q.i ≤ 7; omega)
 have hfl : q.fl < 32 := hg.fl (by show 4 ≤ q.i; omega)
 have hls : q.ls = [] := hg.ls (by show q.i ≠ 7; omega)
 obtain ⟨a1, a2⟩ := hg.al (by show q.i ≤ 9; omega)
 have a1 : q.p % 8 = 0 := a1
 have a2 : q.head = crcWith 0 (B.take (q.p / 8)) := a2
 have hh := h.m.here
 by_cases h0 : q.fl / 4 % 2 = 1
 ·obtain ⟨caps, hF, hc⟩ := d_yes hS h hv (by rw [hi]; exact hP.w5) (flag_set (and_4 _ hfl) (by omega) (by omega) hfl h0) (cf_extra _) (d_extra hS h hv)
  refine rRead hS h hvn hv (by omega) (by omega) 16 _ #[] caps hF (cf_with _) true 0 hc rfl rfl rfl rfl rfl rfl (.inl rfl) (fun k => ?_) (fun k => ?_)
  ·refine .inl ⟨rfl, hv.gg (q.i + 1) (q.p + 16) q.fl (numAt B q.p 16) _ q.ls q.nm (fun y => by omega) (fun _ => ⟨hp, ho⟩) (by omega) (fun _ => by omega) ⟨fun _ => ⟨by show (q.p + 16) % 8 = 0; omega, ?_⟩, fun _ => hfl, numAt_lt B q.p 16, fun _ => hls, hg.lb, by show 8 * q.ls.length ≤ q.p + 16; rw [hls]; simp, fun _ => hnm, fun y => by have y : q.i + 1 ≤ 3 := y; omega, fun _ => hls⟩ (crcWith_lt _ _), fun Y e out used name hrest => ?_⟩
   ·show crcWith q.head [numAt B q.p 16 % 256, numAt B q.p 16 / 256] = crcWith 0 (B.take ((q.p + 16) / 8))
    rw [a2]
    exact crc_word B q.p hB a1 k
   ·rw [rest_6 (by show q.i + 1 = 6; omega)] at hrest
    rw [rest_5 hi]
    unfold gzExtra
    rw [if_pos h0, if_pos (le_more k), num_more Y k]
    exact hrest
  ·rw [rest_5 hi]
   unfold gzExtra
   rw [if_pos h0, if_neg (by omega), hp, ho]
   exact ⟨rfl, rfl, rfl, hnm⟩
 ·obtain ⟨caps, hF, hc⟩ := d_no hS h hv (by rw [hi]; exact hP.w5) (flag_not (and_4 _ hfl) (by omega) hfl h0)
  refine rRead hS h hvn hv (by omega) (by omega) 0 _ #[] caps hF (cf_with _) true 0 hc rfl rfl rfl rfl rfl rfl (.inl rfl) (fun k => ?_) (fun k => by omega)
  refine .inl ⟨rfl, hv.gg (q.i + 1) q.p q.fl q.left q.head q.ls q.nm (fun y => by omega) (fun _ => ⟨hp, ho⟩) (by omega) (fun _ => by omega) (hg.skip (by show q.i ≤ 9; omega) (by show 4 ≤ q.i; omega) q.left hg.lf hls) hv.hh, fun Y e out used name hrest => ?_⟩
  rw [rest_6 (by show q.i + 1 = 6; omega)] at hrest
  have hrest : gzPass (B ++ Y) most q.fl q.p q.left e out used name := hrest
  rw [rest_5 hi]
  unfold gzExtra
  unfold gzPass at hrest
  rw [if_neg h0] at hrest ⊢
  exact hrest
theorem rg6 (hi : q.i = 6) : ZW f D w (RRound 2 w0 n0 g off cap f d D X P B most q lv v w) := by
 have hkp := hS.kp
 have hP : GzParts w0 X F := hkp
 have b2 : bi 2 = 10 := rfl
 have n2 : np 2 = 13 := rfl
 obtain ⟨hp, ho⟩ := hv.nopre (by omega)
 have hg := hv.k2 rfl
 have hnm : q.nm = [] := hg.nm (by show q.i ≤ 7; omega)
 have hfl : q.fl < 32 := hg.fl (by show 4 ≤ q.i; omega)
 have hlf : q.left < 65536 := hg.lf
 have hls : q.ls = [] := hg.ls (by show q.i ≠ 7; omega)
 have hh := h.m.here
 by_cases h0 : q.fl / 4 % 2 = 1
 ·have hset := flag_set (and_4 _ hfl) (by omega) (by omega) hfl h0
  by_cases hl : q.left = 0
  ·obtain ⟨caps, hF, hc⟩ := d_yes hS h hv (by rw [hi]; exact hP.w6) hset (cf_pass _) (d_pass0 hS h hv hl)
   refine rRead hS h hvn hv (by omega) (by omega) 0 _ #[] caps hF (cf_with _) true 0 hc rfl rfl rfl rfl rfl rfl (.inl rfl) (fun k => ?_) (fun k => by omega)
   refine .inl ⟨rfl, hv.gg (q.i + 1) q.p q.fl 0 q.head q.ls q.nm (fun y => by omega) (fun _ => ⟨hp, ho⟩) (by omega) (fun _ => by omega) (hg.skip (by show q.i ≤ 9; omega) (by show 4 ≤ q.i; omega) 0 (by omega) hls) hv.hh, fun Y e out used name hrest => ?_⟩
   rw [rest_7 (by show q.i + 1 = 7; omega)] at hrest
   have hrest : gzName (B ++ Y) most q.fl q.p q.ls e out used name := hrest
   rw [rest_6 hi]
   unfold gzPass
   rw [if_pos h0, hl, if_pos (le_more (by omega)), ← hls]
   exact hrest
  ·obtain ⟨caps, hF, hc⟩ := d_yes hS h hv (by rw [hi]; exact hP.w6) hset (cf_pass _) (d_pass hS h hv (by omega) (by omega) (if (q.left == 1) = true then q.i + 1 else q.i))
   refine rRead hS h hvn hv (by omega) (by omega) 8 _ #[] caps hF (cf_with _) (q.left == 1) 0 hc rfl rfl rfl rfl rfl rfl (.inr (by omega)) (fun k => ?_) (fun k => ?_)
   ·have hi2 : (if (q.left == 1) = true then q.i + 1 else q.i) = q.i ∨ (if (q.left == 1) = true then q.i + 1 else q.i) = q.i + 1 := by by_cases y : (q.left == 1) = true <;> simp [y]
    refine .inl ⟨rfl, hv.gg (if (q.left == 1) = true then q.i + 1 else q.i) (q.p + 8) q.fl (q.left - 1) _ q.ls q.nm (fun y => by omega) (fun _ => ⟨hp, ho⟩) (by omega) (fun _ => by omega) (hg.byte hB (by show q.i ≤ 9; omega) (by show 4 ≤ q.i; omega) k _ _ hi2 (by omega) (by show q.i ≠ 7; omega)) (crcWith_lt _ _), fun Y e out used name hrest => ?_⟩
    rw [rest_6 hi]
    by_cases h1 : q.left = 1
    ·have hb : (q.left == 1) = true := by rw [h1]; rfl
     rw [rest_7 (by show (if (q.left == 1) = true then q.i + 1 else q.i) = 7; rw [if_pos hb]; omega)] at hrest
     have hrest : gzName (B ++ Y) most q.fl (q.p + 8) q.ls e out used name := hrest
     unfold gzPass
     rw [if_pos h0, h1, if_pos (le_more (by omega)), ← hls]
     exact hrest
    ·have hb : ¬ (q.left == 1) = true := by simpa using h1
     rw [rest_6 (by show (if (q.left == 1) = true then q.i + 1 else q.i) = 6; rw [if_neg hb]; omega)] at hrest
     have hrest : gzPass (B ++ Y) most q.fl (q.p + 8) (q.left - 1) e out used name := hrest
     unfold gzPass at hrest ⊢
     rw [if_pos h0] at hrest ⊢
     rw [show q.p + 8 + 8 * (q.left - 1) = q.p + 8 * q.left by omega] at hrest
     exact hrest
   ·rw [rest_6 hi]
    unfold gzPass
    rw [if_pos h0, if_neg (by omega), hp, ho]
    exact ⟨rfl, rfl, rfl, hnm⟩
 ·obtain ⟨caps, hF, hc⟩ := d_no hS h hv (by rw [hi]; exact hP.w6) (flag_not (and_4 _ hfl) (by omega) hfl h0)
  refine rRead hS h hvn hv (by omega) (by omega) 0 _ #[] caps hF (cf_with _) true 0 hc rfl rfl rfl rfl rfl rfl (.inl rfl) (fun k => ?_) (fun k => by omega)
  refine .inl ⟨rfl, hv.gg (q.i + 1) q.p q.fl q.left q.head q.ls q.nm (fun y => by omega) (fun _ => ⟨hp, ho⟩) (by omega) (fun _ => by omega) (hg.skip (by show q.i ≤ 9; omega) (by show 4 ≤ q.i; omega) q.left hg.lf hls) hv.hh, fun Y e out used name hrest => ?_⟩
  rw [rest_7 (by show q.i + 1 = 7; omega)] at hrest
  have hrest : gzName (B ++ Y) most q.fl q.p q.ls e out used name := hrest
  rw [rest_6 hi]
  unfold gzPass
  rw [if_neg h0, ← hls]
  exact hrest
theorem rg7 (hL : B.length ≤ 8388608) (hi : q.i = 7) : ZW f D w (RRound 2 w0 n0 g off cap f d D X P B most q lv v w) := by
 have hkp := hS.kp
 have hP : GzParts w0 X F := hkp
 have b2 : bi 2 = 10 := rfl
 have n2 : np 2 = 13 := rfl
 obtain ⟨hp, ho⟩ := hv.nopre (by omega)
 have hg := hv.k2 rfl
 have hnm : q.nm = [] := hg.nm (by show q.i ≤ 7; omega)
 have hfl : q.fl < 32 := hg.fl (by show 4 ≤ q.i; omega)
 have hll : 8 * q.ls.length ≤ q.p := hg.ll
 have hh := h.m.here
 obtain ⟨a1, a2⟩ := hg.al (by show q.i ≤ 9; omega)
 have a1 : q.p % 8 = 0 := a1
 have a2 : q.head = crcWith 0 (B.take (q.p / 8)) := a2
 by_cases h0 : q.fl / 8 % 2 = 1
 ·have hset := flag_set (and_8 _ hfl) (by omega) (by omega) hfl h0
  have hmiss : 8 * B.length < q.p + 8 → rRest 2 B most q 3 (q.pre ++ q.o) 0 q.nm := fun k => by
   rw [rest_7 hi]
   unfold gzName
   rw [if_pos h0]
   refine ⟨[], false, q.p, .miss _ k, ?_⟩
   rw [if_neg (by simp), hp, ho]
   exact ⟨rfl, rfl, rfl, hnm⟩
  have hcrc : q.p + 8 ≤ 8 * B.length → (q.p + 8) % 8 = 0 ∧ crcWith q.head [numAt B q.p 8] = crcWith 0 (B.take ((q.p + 8) / 8)) := fun k => ⟨by omega, by rw [a2]; exact crc_byte B q.p hB a1 k⟩
  by_cases hn : numAt B q.p 8 = 0
  ·obtain ⟨caps, hF, hc⟩ := d_yes hS h hv (by rw [hi]; exact hP.w7) hset (cf_letter _) (d_letter0 hS h hv hn hg.lb)
   refine rRead hS h hvn hv (by omega) (by omega) 8 _ #[] caps hF (cf_with _) true 0 hc rfl rfl rfl rfl rfl rfl (.inl rfl) (fun k => ?_) hmiss
   refine .inl ⟨rfl, hv.gg (q.i + 1) (q.p + 8) q.fl q.left _ [] (latinB q.ls) (fun y => by omega) (fun _ => ⟨hp, ho⟩) (by omega) (fun _ => by omega) ⟨fun _ => hcrc k, fun _ => hfl, hg.lf, fun _ => rfl, fun y hy => by simp at hy, by show 8 * 0 ≤ q.p + 8; omega, fun y => by have y : q.i + 1 ≤ 7 := y; omega, fun y => by have y : q.i + 1 ≤ 3 := y; omega, fun _ => rfl⟩ (crcWith_lt _ _), fun Y e out used name hrest => ?_⟩
   rw [rest_8 (by show q.i + 1 = 8; omega)] at hrest
   have hrest : gzRemark (B ++ Y) most q.fl (q.p + 8) (latinB q.ls) e out used name := hrest
   rw [rest_7 hi]
   unfold gzName
   rw [if_pos h0]
   refine ⟨[], true, q.p + 8, .zero _ (le_more k) (by rw [num_more Y k]; exact hn), ?_⟩
   rw [if_pos rfl, List.append_nil]
   exact hrest
  ·obtain ⟨caps, hF, hc⟩ := d_yes hS h hv (by rw [hi]; exact hP.w7) hset (cf_letter _) (d_letter hS h hv hn (by omega))
   refine rRead hS h hvn hv (by omega) (by omega) 8 _ #[] caps hF (cf_with _) false 0 hc rfl rfl rfl rfl rfl rfl (.inr (by omega)) (fun k => ?_) hmiss
   refine .inl ⟨rfl, hv.gg q.i (q.p + 8) q.fl q.left _ (q.ls ++ [numAt B q.p 8]) q.nm (fun y => by omega) (fun _ => ⟨hp, ho⟩) (by omega) (fun _ => by omega) ⟨fun _ => hcrc k, fun _ => hfl, hg.lf, fun y => absurd hi y, hg.lb.append (fun y hy => by simp at hy; rw [hy]; exact numAt_lt B q.p 8), by show 8 * (q.ls ++ [numAt B q.p 8]).length ≤ q.p + 8; rw [List.length_append]; simp; omega, fun _ => hnm, fun y => by have y : q.i ≤ 3 := y; omega, fun y => absurd h0 y⟩ (crcWith_lt _ _), fun Y e out used name hrest => ?_⟩
   rw [rest_7 (by show q.i = 7; exact hi)] at hrest
   have hrest : gzName (B ++ Y) most q.fl (q.p + 8) (q.ls ++ [numAt B q.p 8]) e out used name := hrest
   rw [rest_7 hi]
   unfold gzName at hrest ⊢
   rw [if_pos h0] at hrest ⊢
   obtain ⟨l, ok, q1, ht, hrest⟩ := hrest
   have hz : numAt (B ++ Y) q.p 8 ≠ 0 := by rw [num_more Y k]; exact hn
   refine ⟨_, ok, q1, .more _ l ok q1 (le_more k) hz ht, ?_⟩
   rw [num_more Y k]
   rw [List.append_assoc] at hrest
   exact hrest
 ·obtain ⟨caps, hF, hc⟩ := d_no hS h hv (by rw [hi]; exact hP.w7) (flag_not (and_8 _ hfl) (by omega) hfl h0)
  refine rRead hS h hvn hv (by omega) (by omega) 0 _ #[] caps hF (cf_with _) true 0 hc rfl rfl rfl rfl rfl rfl (.inl rfl) (fun k => ?_) (fun k => by omega)
  refine .inl ⟨rfl, hv.gg (q.i + 1) q.p q.fl q.left q.head q.ls q.nm (fun y => by omega) (fun _ => ⟨hp, ho⟩) (by omega) (fun _ => by omega) (hg.skip (by show q.i ≤ 9; omega) (by show 4 ≤ q.i; omega) q.left hg.lf (hg.l7 h0)) hv.hh, fun Y e out used name hrest => ?_⟩
  rw [rest_8 (by show q.i + 1 = 8; omega)] at hrest
  have hrest : gzRemark (B ++ Y) most q.fl q.p q.nm e out used name := hrest
  rw [rest_7 hi]
  unfold gzName
  rw [if_neg h0, ← hnm]
  exact hrest
theorem rg8 (hi : q.i = 8) : ZW f D w (RRound 2 w0 n0 g off cap f d D X P B most q lv v w) := by
 have hkp := hS.kp
 have hP : GzParts w0 X F := hkp
 have b2 : bi 2 = 10 := rfl
 have n2 : np 2 = 13 := rfl
 obtain ⟨hp, ho⟩ := hv.nopre (by omega)
 have hg := hv.k2 rfl
 have hfl : q.fl < 32 := hg.fl (by show 4 ≤ q.i; omega)
 have hls : q.ls = [] := hg.ls (by show q.i ≠ 7; omega)
 have hh := h.m.here
 by_cases h0 : q.fl / 16 % 2 = 1
 ·have hset := flag_set (and_16 _ hfl) (by omega) (by omega) hfl h0
  obtain ⟨caps, hF, hc⟩ := d_yes hS h hv (by rw [hi]; exact hP.w8) hset (cf_remark _) (d_remark hS h hv (if (numAt B q.p 8 == 0) = true then q.i + 1 else q.i))
  refine rRead hS h hvn hv (by omega) (by omega) 8 _ #[] caps hF (cf_with _) (numAt B q.p 8 == 0) 0 hc rfl rfl rfl rfl rfl rfl (.inr (by omega)) (fun k => ?_) (fun k => ?_)
  ·have hi2 : (if (numAt B q.p 8 == 0) = true then q.i + 1 else q.i) = q.i ∨ (if (numAt B q.p 8 == 0) = true then q.i + 1 else q.i) = q.i + 1 := by by_cases y : (numAt B q.p 8 == 0) = true <;> simp [y]
   refine .inl ⟨rfl, hv.gg (if (numAt B q.p 8 == 0) = true then q.i + 1 else q.i) (q.p + 8) q.fl q.left _ q.ls q.nm (fun y => by omega) (fun _ => ⟨hp, ho⟩) (by omega) (fun _ => by omega) (hg.byte hB (by show q.i ≤ 9; omega) (by show 4 ≤ q.i; omega) k _ q.left hi2 hg.lf (by show q.i ≠ 7; omega)) (crcWith_lt _ _), fun Y e out used name hrest => ?_⟩
   rw [rest_8 hi]
   by_cases h1 : numAt B q.p 8 = 0
   ·have hb : (numAt B q.p 8 == 0) = true := by rw [h1]; rfl
    rw [rest_9 (by show (if (numAt B q.p 8 == 0) = true then q.i + 1 else q.i) = 9; rw [if_pos hb]; omega)] at hrest
    have hrest : gzCheck (B ++ Y) most q.fl (q.p + 8) q.nm e out used name := hrest
    unfold gzRemark
    rw [if_pos h0]
    refine ⟨[], true, q.p + 8, .zero _ (le_more k) (by rw [num_more Y k]; exact h1), ?_⟩
    rw [if_pos rfl]
    exact hrest
   ·have hb : ¬ (numAt B q.p 8 == 0) = true := by simpa using h1
    rw [rest_8 (by show (if (numAt B q.p 8 == 0) = true then q.i + 1 else q.i) = 8; rw [if_neg hb]; omega)] at hrest
    have hrest : gzRemark (B ++ Y) most q.fl (q.p + 8) q.nm e out used name := hrest
    unfold gzRemark at hrest ⊢
    rw [if_pos h0] at hrest ⊢
    obtain ⟨l, ok, q1, ht, hrest⟩ := hrest
    exact ⟨_, ok, q1, .more _ l ok q1 (le_more k) (by rw [num_more Y k]; exact h1) ht, hrest⟩
  ·rw [rest_8 hi]
   unfold gzRemark
   rw [if_pos h0]
   refine ⟨[], false, q.p, .miss _ k, ?_⟩
   rw [if_neg (by simp), hp, ho]
   exact ⟨rfl, rfl, rfl, rfl⟩
 ·obtain ⟨caps, hF, hc⟩ := d_no hS h hv (by rw [hi]; exact hP.w8) (flag_not (and_16 _ hfl) (by omega) hfl h0)
  refine rRead hS h hvn hv (by omega) (by omega) 0 _ #[] caps hF (cf_with _) true 0 hc rfl rfl rfl rfl rfl rfl (.inl rfl) (fun k => ?_) (fun k => by omega)
  refine .inl ⟨rfl, hv.gg (q.i + 1) q.p q.fl q.left q.head q.ls q.nm (fun y => by omega) (fun _ => ⟨hp, ho⟩) (by omega) (fun _ => by omega) (hg.skip (by show q.i ≤ 9; omega) (by show 4 ≤ q.i; omega) q.left hg.lf hls) hv.hh, fun Y e out used name hrest => ?_⟩
  rw [rest_9 (by show q.i + 1 = 9; omega)] at hrest
  have hrest : gzCheck (B ++ Y) most q.fl q.p q.nm e out used name := hrest
  rw [rest_8 hi]
  unfold gzRemark
  rw [if_neg h0]
  exact hrest
omit hB in
theorem rg9 (hi : q.i = 9) : ZW f D w (RRound 2 w0 n0 g off cap f d D X P B most q lv v w) := by
 have hkp := hS.kp
 have hP : GzParts w0 X F := hkp
 have b2 : bi 2 = 10 := rfl
 have n2 : np 2 = 13 := rfl
 obtain ⟨hp, ho⟩ := hv.nopre (by omega)
 have hg := hv.k2 rfl
 have hfl : q.fl < 32 := hg.fl (by show 4 ≤ q.i; omega)
 have hh := h.m.here
 obtain ⟨a1, a2⟩ := hg.al (by show q.i ≤ 9; omega)
 have a2 : q.head = crcWith 0 (B.take (q.p / 8)) := a2
 have htake : ∀ Y, (B ++ Y).take (q.p / 8) = B.take (q.p / 8) := fun Y => List.take_append_of_le_length (by omega)
 by_cases h0 : q.fl / 2 % 2 = 1
 ·have hset := flag_set (and_2 _ hfl) (by omega) (by omega) hfl h0
  obtain ⟨caps, hF, hc⟩ := d_yes hS h hv (by rw [hi]; exact hP.w9) hset (cf_headHolds _) (d_headHolds hS h hv)
  refine rRead hS h hvn hv (by omega) (by omega) 16 _ #[] caps hF (cf_with _) true _ hc rfl rfl rfl rfl rfl rfl (.inl rfl) (fun k => ?_) (fun k => ?_)
  ·by_cases hn : numAt B q.p 16 = q.head % 65536
   ·rw [if_pos hn]
    refine .inl ⟨rfl, hv.gg (q.i + 1) (q.p + 16) q.fl q.left q.head q.ls q.nm (fun y => by omega) (fun _ => ⟨hp, ho⟩) (by omega) (fun _ => by omega) (hg.behind (by show 8 ≤ q.i; omega) 16 _ (by omega)) hv.hh, fun Y e out used name hrest => ?_⟩
    have hrest := rest_10 (by show q.i + 1 = 10; omega) rfl hrest
    have hrest : gzBody (B ++ Y) most (q.p + 16) q.nm e out used name := hrest
    rw [rest_9 hi]
    unfold gzCheck
    rw [if_pos h0, if_pos (le_more k), num_more Y k, htake, ← a2, if_pos hn]
    exact hrest
   ·rw [if_neg hn]
    refine .inr ⟨by omega, by omega, fun Y => ?_⟩
    rw [rest_9 hi]
    unfold gzCheck
    rw [if_pos h0, if_pos (le_more k), num_more Y k, htake, ← a2, if_neg hn, hp, ho]
    exact ⟨rfl, rfl, rfl, rfl⟩
  ·rw [rest_9 hi]
   unfold gzCheck
   rw [if_pos h0, if_neg (by omega), hp, ho]
   exact ⟨rfl, rfl, rfl, rfl⟩
 ·obtain ⟨caps, hF, hc⟩ := d_no hS h hv (by rw [hi]; exact hP.w9) (flag_not (and_2 _ hfl) (by omega) hfl h0)
  refine rRead hS h hvn hv (by omega) (by omega) 0 _ #[] caps hF (cf_with _) true 0 hc rfl rfl rfl rfl rfl rfl (.inl rfl) (fun k => ?_) (fun k => by omega)
  refine .inl ⟨rfl, hv.gg (q.i + 1) q.p q.fl q.left q.head q.ls q.nm (fun y => by omega) (fun _ => ⟨hp, ho⟩) (by omega) (fun _ => by omega) (hg.behind (by show 8 ≤ q.i; omega) 0 _ (by omega)) hv.hh, fun Y e out used name hrest => ?_⟩
  have hrest := rest_10 (by show q.i + 1 = 10; omega) rfl hrest
  have hrest : gzBody (B ++ Y) most q.p q.nm e out used name := hrest
  rw [rest_9 hi]
  unfold gzCheck
  rw [if_neg h0]
  exact hrest
end head
theorem rg11 (hS : RS 2 w0 f d D X P F) (h : RM 2 w0 n0 w g off cap f d D X P B most q lv vo v) (hv : RV 2 B most q) (hi : q.i = 11) : ZW f D w (RRound 2 w0 n0 g off cap f d D X P B most q lv v w) := by
 have hkp := hS.kp
 have hP : GzParts w0 X F := hkp
 have b2 : bi 2 = 10 := rfl
 have n2 : np 2 = 13 := rfl
 have hg := hv.k2 rfl
 have h8 := hv.al8 (by omega)
 obtain ⟨hck, hsz⟩ := hv.sum2 rfl
 refine rRead hS h (fun y => by omega) hv (by omega) (by omega) 32 _ #[.pointer (some ⟨X, 0, none⟩)] #[] (by rw [hi]; exact hP.p11) (cf_check _) true _ (d_check hS h hv) rfl rfl rfl rfl rfl rfl (.inl rfl) (fun k => ?_) (fun k => ?_)
 ·by_cases hn : numAt B q.p 32 = q.check
  ·rw [if_pos hn]
   refine .inl ⟨rfl, hv.gg (q.i + 1) (q.p + 32) q.fl q.left q.head q.ls q.nm (fun y => by omega) (fun y => by omega) (by omega) (fun y => by omega) (hg.behind (by show 8 ≤ q.i; omega) 32 _ (by omega)) hv.hh, fun Y e out used name hrest => ?_⟩
   rw [rest_12 (by show q.i + 1 = 12; omega)] at hrest
   have hrest := hrest.2.2
   have hrest : gzSize (B ++ Y) (q.p + 32) (q.pre ++ q.o) q.nm e out used name := hrest
   rw [rest_11 hi]
   refine ⟨hck, hsz, h8, ?_⟩
   unfold gzTail
   rw [if_pos (le_more k), num_more Y k, ← hck, if_pos hn]
   exact hrest
  ·rw [if_neg hn]
   refine .inr ⟨by omega, by omega, fun Y => ?_⟩
   rw [rest_11 hi]
   refine ⟨hck, hsz, h8, ?_⟩
   unfold gzTail
   rw [if_pos (le_more k), num_more Y k, ← hck, if_neg hn]
   exact ⟨rfl, rfl, rfl, rfl⟩
 ·rw [rest_11 hi]
  refine ⟨hck, hsz, h8, ?_⟩
  unfold gzTail
  rw [if_neg (by omega)]
  exact ⟨rfl, rfl, rfl, rfl⟩
theorem rg12 (hS : RS 2 w0 f d D X P F) (h : RM 2 w0 n0 w g off cap f d D X P B most q lv vo v) (hv : RV 2 B most q) (hi : q.i = 12) : ZW f D w (RRound 2 w0 n0 g off cap f d D X P B most q lv v w) := by
 have hkp := hS.kp
 have hP : GzParts w0 X F := hkp
 have b2 : bi 2 = 10 := rfl
 have n2 : np 2 = 13 := rfl
 have hg := hv.k2 rfl
 have h8 := hv.al8 (by omega)
 obtain ⟨hck, hsz⟩ := hv.sum2 rfl
 refine rRead hS h (fun y => by omega) hv (by omega) (by omega) 32 _ #[.pointer (some ⟨X, 0, none⟩)] #[] (by rw [hi]; exact hP.p12) (cf_size _) true _ (d_size hS h hv) rfl rfl rfl rfl rfl rfl (.inl rfl) (fun k => ?_) (fun k => ?_)
 ·by_cases hn : numAt B q.p 32 = q.size
  ·rw [if_pos hn]
   refine .inl ⟨rfl, hv.gg (q.i + 1) (q.p + 32) q.fl q.left q.head q.ls q.nm (fun y => by omega) (fun y => by omega) (by omega) (fun y => by omega) (hg.behind (by show 8 ≤ q.i; omega) 32 _ (by omega)) hv.hh, fun Y e out used name hrest => ?_⟩
   rw [rest_13 (by show q.i + 1 = 13; omega)] at hrest
   obtain ⟨rfl, hu, ho, rfl⟩ := hrest
   have hu : q.p + 32 = 8 * used := hu
   have ho : q.pre ++ q.o = out := ho
   rw [rest_12 hi]
   refine ⟨hsz, h8, ho.symm, rfl, ?_⟩
   rw [if_pos (le_more k), num_more Y k, ← hsz, if_pos hn]
   exact ⟨rfl, by omega⟩
  ·rw [if_neg hn]
   refine .inr ⟨by omega, by omega, fun Y => ?_⟩
   rw [rest_12 hi]
   refine ⟨hsz, h8, rfl, rfl, ?_⟩
   rw [if_pos (le_more k), num_more Y k, ← hsz, if_neg hn]
   exact ⟨rfl, rfl⟩
 ·rw [rest_12 hi]
  refine ⟨hsz, h8, rfl, rfl, ?_⟩
  rw [if_neg (by omega)]
  exact ⟨rfl, rfl⟩
end Go.Proofs.YtbpahojchgpdnaaGreatDoor
namespace Go.Proofs.YtbpahojchgpdnaaGreatDoor
open Go.RowKit Go.Bel Go.Maps
variable {k : Nat} {w0 w : World} {n0 g off cap f d D X P : Nat} {F : Nat → Value} {B : List Nat} {most : Nat} {q : RQ} {lv vo v : Value}
theorem rRound (hS : RS k w0 f d D X P F) (h : RM k w0 n0 w g off cap f d D X P B most q lv vo v) (hvn : q.i ≤ bi k → vo = .slice none 0 0 ∧ q.o = []) (hv : RV k B most q) (hB : AllB B) (hL : B.length ≤ 8388608) (hm : most ≤ 1048576) (hn0 : n0 ≤ w.heap.size) (hi : q.i < np k) :
  ZW f D w (RRound k w0 n0 g off cap f d D X P B most q lv v w) := by
 have hk := hS.kk
 have hvn' : q.i < bi k → vo = .slice none 0 0 := fun y => (hvn (by omega)).1
 by_cases hb : q.i = bi k
 ·obtain ⟨a, b⟩ := hvn (by omega)
  exact rBare hS h a b hv hb hm hn0
 ·have hcase : k = 0 ∨ k = 1 ∨ k = 2 := by omega
  rcases hcase with rfl | rfl | rfl
  ·have e1 : np 0 = 1 := rfl
   have e2 : bi 0 = 0 := rfl
   omega
  ·have e1 : np 1 = 4 := rfl
   have e2 : bi 1 = 2 := rfl
   have hc : q.i = 0 ∨ q.i = 1 ∨ q.i = 3 := by omega
   rcases hc with y | y | y
   ·exact rz0 hS h hvn' hv y
   ·exact rz1 hS h hvn' hv y
   ·exact rz3 hS h hv y
  ·have e1 : np 2 = 13 := rfl
   have e2 : bi 2 = 10 := rfl
   have hkp := hS.kp
   have hP : GzParts w0 X F := hkp
   have hp2 := hv.p2 rfl
   have hc : q.i = 0 ∨ q.i = 1 ∨ q.i = 2 ∨ q.i = 3 ∨ q.i = 4 ∨ q.i = 5 ∨ q.i = 6 ∨ q.i = 7 ∨ q.i = 8 ∨ q.i = 9 ∨ q.i = 11 ∨ q.i = 12 := by omega
   rcases hc with y | y | y | y | y | y | y | y | y | y | y | y
   ·have hp : q.p = 0 := by have := hp2 (by omega); omega
    refine rgMark hS h hvn' hv hB (by omega) (by rw [y]; exact hP.m0) (fun Z => gz1 Z most) (fun Z e out used name => ?_) (fun Z q' e out used name i1 i2 hr => ?_)
    ·rw [rest_0 y, hp]
     exact propext ⟨fun x => x.2, fun x => ⟨rfl, x⟩⟩
    ·rw [rest_1 (by omega)] at hr
     exact hr.2
   ·have hp : q.p = 8 := by have := hp2 (by omega); omega
    refine rgMark hS h hvn' hv hB (by omega) (by rw [y]; exact hP.m1) (fun Z => gz2 Z most) (fun Z e out used name => ?_) (fun Z q' e out used name i1 i2 hr => ?_)
    ·rw [rest_1 y, hp]
     exact propext ⟨fun x => x.2, fun x => ⟨rfl, x⟩⟩
    ·rw [rest_2 (by omega)] at hr
     exact hr.2
   ·have hp : q.p = 16 := by have := hp2 (by omega); omega
    refine rgMark hS h hvn' hv hB (by omega) (by rw [y]; exact hP.m2) (fun Z => gzFlags Z most 24) (fun Z e out used name => ?_) (fun Z q' e out used name i1 i2 hr => ?_)
    ·rw [rest_2 y, hp]
     exact propext ⟨fun x => x.2, fun x => ⟨rfl, x⟩⟩
    ·rw [rest_3 (by omega)] at hr
     exact hr.2
   ·exact rg3 hS h hvn' hv hB y
   ·exact rg4 hS h hvn' hv hB y
   ·exact rg5 hS h hvn' hv hB y
   ·exact rg6 hS h hvn' hv hB y
   ·exact rg7 hS h hvn' hv hB hL y
   ·exact rg8 hS h hvn' hv hB y
   ·exact rg9 hS h hvn' hv y
   ·exact rg11 hS h hv y
   ·exact rg12 hS h hv y
theorem rRest_end (hk : k ≤ 2) (hi : q.i = np k) {e : Nat} {out : List Nat} {used : Nat} {name : List Nat} : rRest k B most q e out used name = (e = 0 ∧ q.p = 8 * used ∧ q.pre ++ q.o = out ∧ name = q.nm) := by
 have hb := bi_lt k
 have hcase : k = 0 ∨ k = 1 ∨ k = 2 := by omega
 unfold rRest
 rw [if_neg (by omega)]
 rcases hcase with rfl | rfl | rfl
 ·rw [if_pos rfl]
 ·rw [if_neg (by omega), if_pos rfl, show q.i = 4 from hi]
  unfold zRest
  exact propext ⟨fun x => ⟨x.1.1, x.1.2.1, x.1.2.2, x.2⟩, fun x => ⟨⟨x.1, x.2.1, x.2.2.1⟩, x.2.2.2⟩⟩
 ·rw [if_neg (by omega), if_neg (by omega)]
  unfold gzRest
  rw [show q.g.i = 13 from hi]
  rfl
def REnd (k : Nat) (w0 : World) (n0 : Nat) (g off cap f d D X P : Nat) (B : List Nat) (most : Nat) (q : RQ) (lv v : Value) (w : World) (x : Nat) (w2 : World) : Prop :=
  ∃ (parts vo' : Value) (o' nm' : List Nat), WAtN w2 D f d parts vo' (baOf nm') ∧ Taken w2 n0 vo' o' ∧ Step (RO D d f X lv v) w w2 ∧
    ((x = 0 ∧ ∃ used, FeedAt w2 f (.slice (fedA g off (B.drop q.z).length) (B.drop q.z).length cap) (8 * (used - q.z)) q.z ∧ q.z ≤ used ∧ used ≤ B.length ∧ ∀ Y, rRest k (B ++ Y) most q 0 (q.pre ++ o') used nm') ∨
     (x = 3 ∧ rRest k B most q 3 (q.pre ++ o') 0 nm' ∧ ∃ q' lv' v', RM0 k w0 w2 g off cap f d D X B most q' lv' v' ∧ parts = partsAt P q'.i (np k) ∧ q'.o = o' ∧ q'.nm = nm' ∧ (∀ j, lv'.ownBlock = some j ∨ v'.ownBlock = some j → RO D d f X lv v j ∨ w.heap.size ≤ j) ∧ Bk k B most q q' ∧ RV k B most q' ∧ q'.z = q.z ∧ q'.pre = q.pre ∧ Apart vo' v') ∨
     (x ≠ 0 ∧ x ≠ 3 ∧ ∀ Y, rRest k (B ++ Y) most q x (q.pre ++ o') 0 nm'))
theorem rRun_any (hS : RS k w0 f d D X P F) (h : RM k w0 n0 w g off cap f d D X P B most q lv vo v) (hvn : q.i ≤ bi k → vo = .slice none 0 0 ∧ q.o = []) (hv : RV k B most q) (hB : AllB B) (hL : B.length ≤ 8388608) (hm : most ≤ 1048576) (hn0 : n0 ≤ w.heap.size) :
  Calls Tryz.prog 90 #[.pointer (some ⟨D, 0, none⟩)] w fun r w' => ∃ x : Nat, r = .returned (.int .i64 (x : Nat)) ∧ REnd k w0 n0 g off cap f d D X P B most q lv v w x w' := by
 have hnp := np_le k
 have hbn := bi_lt k
 refine wrun_loop D f (fun n wr => ∃ q1 lv1 vo1 v1, rMeas k B q1 ≤ n ∧ RM k w0 n0 wr g off cap f d D X P B most q1 lv1 vo1 v1 ∧ (q1.i ≤ bi k → vo1 = .slice none 0 0 ∧ q1.o = []) ∧ RD D d f X w lv v wr lv1 v1 ∧ Bk k B most q q1 ∧ RV k B most q1 ∧ q1.z = q.z ∧ q1.pre = q.pre) (fun x wr => REnd k w0 n0 g off cap f d D X P B most q lv v w x wr) (rMeas k B q) w ⟨q, lv, vo, v, Nat.le_refl _, h, hvn, RD.refl .., fun _ _ _ _ _ x => x, hv, rfl, rfl⟩ ?_
 rintro n wr ⟨q1, lv1, vo1, v1, hn, hm1, hvn1, hrd, hbk, hv1, hz, hp⟩
 have k2 : wr.cell? ⟨D, 2, none⟩ = some (partsAt P q1.i (np k)) := blk_cell hm1.dec 2 _ rfl
 have k0 : wr.cell? ⟨D, 0, none⟩ = some (.pointer (some ⟨f, 0, none⟩)) := blk_cell hm1.dec 0 _ rfl
 by_cases hlt : q1.i < np k
 ·refine ⟨some ⟨P, q1.i, none⟩, np k - q1.i, np k - q1.i, by rw [k2]; unfold partsAt; rw [if_pos hlt]; rfl, k0, fun x => by omega, fun _ => ?_⟩
  refine (rRound hS hm1 hvn1 hv1 hB hL hm (by have := hrd.step.size; omega) hlt).mono ?_
  rintro r w2 ⟨x, rfl, ⟨hx, q2, lv2, vo2, v2, a1, a2, a3, a4, a5, a6, a7, a8⟩ | ⟨hx, q2, lv2, vo2, v2, a1, a3, a4, a5, a6, a7, a8, a9⟩ | ⟨hx, hx3, parts, vo2, o2, nm2, a1, a2, a3, a4⟩⟩
  ·exact ⟨x, rfl, .inl ⟨hx, rMeas k B q2, by omega, q2, lv2, vo2, v2, Nat.le_refl _, a1, a2, hrd.trans a3, fun Y e out used name y => hbk Y e out used name (a4 Y e out used name y), a5, a7.trans hz, a8.trans hp⟩⟩
  ·have hb2 : Bk k B most q q2 := fun Y e out used name y => hbk Y e out used name (a4 Y e out used name y)
   have hrd2 := hrd.trans a3
   refine ⟨x, rfl, .inr ⟨by omega, _, vo2, q2.o, q2.nm, a1.dec, a1.row, hrd2.step, .inr (.inl ⟨hx, ?_, q2, lv2, v2, a1.m, rfl, rfl, rfl, hrd2.own, hb2, a5, a7.trans hz, a8.trans hp, a9⟩)⟩⟩
   have h9 := hb2 [] 3 (q2.pre ++ q2.o) 0 q2.nm (by rw [List.append_nil]; exact a6)
   rw [List.append_nil, a8.trans hp] at h9
   exact h9
  ·refine ⟨x, rfl, .inr ⟨hx, parts, vo2, o2, nm2, a1, a2, hrd.step.trans' a3 (fun j hj y => (hrd.ro j y).elim id (fun z => by omega)), .inr (.inr ⟨hx, hx3, fun Y => ?_⟩)⟩⟩
   have h9 := hbk Y _ _ _ _ (a4 Y)
   rw [hp] at h9
   exact h9
 ·have hi : q1.i = np k := by have := hv1.ile; omega
  have h8 := hv1.al8 (by omega)
  have hzp := hm1.m.zp
  have hh := hm1.m.here
  refine ⟨some ⟨P, np k - 1, none⟩, 0, 0, by rw [k2, hi]; unfold partsAt; rw [if_neg (by omega)], k0, fun _ => ⟨_, vo1, q1.o, q1.nm, hm1.dec, hm1.row, hrd.step, .inl ⟨rfl, q1.p / 8, ?_, by omega, by omega, fun Y => ?_⟩⟩, fun x => absurd rfl x⟩
  ·have h9 := hm1.m.feed
   rw [hz] at h9
   rw [show 8 * (q1.p / 8 - q.z) = q1.p - 8 * q.z by omega]
   exact h9
  ·refine hbk Y _ _ _ _ ?_
   rw [rRest_end hS.kk hi]
   exact ⟨rfl, by omega, by rw [hp], rfl⟩
end Go.Proofs.YtbpahojchgpdnaaGreatDoor
