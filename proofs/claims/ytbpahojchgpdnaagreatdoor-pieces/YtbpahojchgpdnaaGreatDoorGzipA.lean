/- Proved here: what the parts of a Gzip's head do. -/
import Derived.Deep.RegionWith
import Derived.Test.YtbpahojchgpdnaaGreatDoorZlibA
set_option maxRecDepth 20000
set_option maxHeartbeats 4000000
namespace Go.Proofs.YtbpahojchgpdnaaGreatDoor
open Go.RowKit Go.Bel Go.Maps
abbrev GzAt (w : World) (X D fl left head : Nat) (lv : Value) (check size : Nat) : Prop := w.heap[X]? = some (.cells #[.pointer (some ⟨D, 0, none⟩), .int .i64 (fl : Nat), .int .i64 (left : Nat), .int .u32 (head : Nat), lv, .int .u32 (check : Nat), .int .u32 (size : Nat)] 137 (0, 0))
theorem headByte_any (X D f d g off cap z p fl left head check size : Nat) (lv : Value) (B : List Nat) (parts vo : Value) (nm : ByteArray) (w : World) (hX : GzAt w X D fl left head lv check size) (hD : WAtN w D f d parts vo nm) (hF : FeedAt w f (.slice (fedA g off B.length) B.length cap) p z) (hS : Go.Bel.Src w g off B) (hgf : g ≠ f) (hXf : X ≠ f) (hp : p ≤ 8 * B.length) (hh : head < 4294967296) :
  Calls Tryz.prog 122 #[.pointer (some ⟨X, 0, none⟩)] w (ReadsTo 8 p B f (.slice (fedA g off B.length) B.length cap) z w fun r w' => r = .returned (.int .i64 (numAt B p 8 : Nat)) ∧ GzAt w' X D fl left (crcWith head [numAt B p 8]) lv check size ∧ Step (fun k => k = f ∨ k = X) w w') := by
 have c0 : w.cell? ⟨X, 0, none⟩ = some (.pointer (some ⟨D, 0, none⟩)) := blk_cell hX 0 _ rfl
 have d0 : w.cell? ⟨D, 0, none⟩ = some (.pointer (some ⟨f, 0, none⟩)) := blk_cell hD 0 _ rfl
 by_cases hlt : p + 8 ≤ 8 * B.length
 ·have hx := numAt_lt B p 8
  have HN := hide (feedNum_ok f g off cap z p 8 B w hF hS hgf (by omega) hlt)
  have HX := hide hX
  have HF := hide hF
  have hXl := lt_of_block hX
  clear hX hD hF hS
  generalize numAt B p 8 = c at *
  have hc : c < 256 := hx
  go_enter Tryz.func122, Tryz.ntmps122
  go_wp2_with fail
  refine (unhide HN).mono ?_
  rintro r w1 ⟨rfl, hf1⟩
  have hx1 := hf1.step.at_ (unhide HX) hXf
  have z3 : w1.cell? ⟨X, 3, none⟩ = some (.int .u32 (head : Nat)) := blk_cell hx1 3 _ rfl
  have zf : w1.frozen? ⟨X, 3, none⟩ = false := blk_free hx1 3
  have HX1 := hide hx1
  have HF1 := hide hf1
  clear hx1 hf1 HX HN
  go_wp2_with fail
  obtain ⟨w2, hw2⟩ : ∃ w2, w2 = w1.alloc (.cells #[.int .u8 (c : Nat)] 5) := ⟨_, rfl⟩
  have hs2 : Step (fun _ => False) w1 w2 := by rw [hw2]; exact (Step.refl _ _).alloc _
  have hb2 : BytesV w2 (.slice (some ⟨w1.heap.size, 0, none⟩) 1 1) [c] := .inr ⟨w1.heap.size, 0, 1, rfl, fun i hi => by
   have hi0 : i = 0 := by simp at hi; exact hi
   subst hi0
   rw [hw2]
   exact cell_of_one (heap_alloc_new _ _)⟩
  rw [← hw2]
  clear hw2
  refine (checkWith_any head (.slice (some ⟨w1.heap.size, 0, none⟩) 1 1) [c] w2 hh hb2 (by intro y hy; simp at hy; omega) (by simp)).mono ?_
  rintro r w3 ⟨rfl, rfl⟩
  have hx3 := hs2.at_ (unhide HX1) (fun x => x)
  have y3 : w3.cell? ⟨X, 3, none⟩ = some (.int .u32 (head : Nat)) := blk_cell hx3 3 _ rfl
  have yf : w3.frozen? ⟨X, 3, none⟩ = false := blk_free hx3 3
  have hf3 : FeedAt w3 f (.slice (fedA g off B.length) B.length cap) (p + 8) z := hs2.at_ ((unhide HF1).feed _ _ _ _ (unhide HF)) (fun x => x)
  have HFIN := hide (show ReadsTo 8 p B f (.slice (fedA g off B.length) B.length cap) z w (fun r w' => r = .returned (.int .i64 (c : Nat)) ∧ GzAt w' X D fl left (crcWith head [c]) lv check size ∧ Step (fun k => k = f ∨ k = X) w w') (.returned (.int .i64 (c : Nat))) (w3.setCell ⟨X, 3, none⟩ (.int .u32 (crcWith head [c] : Nat))) from by
   refine .inl ⟨hlt, ((Step.refl (· = X) w3).setCell (p := ⟨X, 3, none⟩) rfl _).at_ hf3 (fun x => hXf x.symm), rfl, ?_, ?_⟩
   ·have h9 := blk_set hx3 3 (.int .u32 (crcWith head [c] : Nat))
    simpa using h9
   ·exact (((unhide HF1).step.mono (fun k x => .inl x)).trans (hs2.mono (fun _ x => x.elim))).setCell (p := ⟨X, 3, none⟩) (.inr rfl) _)
  clear hx3 hf3 hs2 hb2 HX1 HF1 hlt
  go_wp2_with fail
  go_ret
  exact unhide HFIN
 ·have HN := hide (feedNum_miss f g off cap z p 8 B w hF hS hgf (by omega) hp (by omega))
  have HF := hide hF
  clear hX hD hF hS
  go_enter Tryz.func122, Tryz.ntmps122
  go_wp2_with fail
  refine (unhide HN).mono ?_
  rintro r w1 ⟨rfl, hf1⟩
  have HX := hide (show FeedAt w1 f (.slice (fedA g off B.length) B.length cap) (8 * B.length) z ∧ Step (· = f) w w1 from ⟨hf1.feed _ _ _ _ (unhide HF), hf1.step⟩)
  clear hf1 HN HF
  go_wp2_with fail
  exact ⟨rfl, .inr ⟨by omega, rfl, (unhide HX).1, (unhide HX).2⟩⟩
end Go.Proofs.YtbpahojchgpdnaaGreatDoor
namespace Go.Proofs.YtbpahojchgpdnaaGreatDoor
open Go.RowKit Go.Bel Go.Maps
def GzTo (nb p : Nat) (B : List Nat) (f : Nat) (s : Value) (z X D d fl left head : Nat) (lv : Value) (check size : Nat) (parts vo : Value) (nm : ByteArray) (thr : Bool) (e : Nat) (S : Nat → Prop) (w : World) : Ending → World → Prop :=
 ReadsTo nb p B f s z w fun r w' => r = .returned (.tuple #[.bool thr, .int .i64 (e : Nat)]) ∧ GzAt w' X D fl left head lv check size ∧ WAtN w' D f d parts vo nm ∧ Step S w w'
theorem ReadsTo.ok {n p : Nat} {B : List Nat} {f : Nat} {s : Value} {z : Nat} {w : World} {Q : Ending → World → Prop} {r : Ending} {w' : World} (h : ReadsTo n p B f s z w Q r w') (hl : p + n ≤ 8 * B.length) : FeedAt w' f s (p + n) z ∧ Q r w' := by
 rcases h with h | h
 ·exact h.2
 ·have := h.1; omega
theorem ReadsTo.lost {n p : Nat} {B : List Nat} {f : Nat} {s : Value} {z : Nat} {w : World} {Q : Ending → World → Prop} {r : Ending} {w' : World} (h : ReadsTo n p B f s z w Q r w') (hl : ¬ p + n ≤ 8 * B.length) : r = Go.Proofs.YtbpahojchgpdnaaGreatDoor.lost ∧ FeedAt w' f s (8 * B.length) z ∧ Step (· = f) w w' := by
 rcases h with h | h
 ·exact absurd h.1 hl
 ·exact h.2
theorem mark_any (a b m X D f d g off cap z p fl left head check size : Nat) (lv : Value) (B : List Nat) (parts vo : Value) (nm : ByteArray) (w : World) (hX : GzAt w X D fl left head lv check size) (hD : WAtN w D f d parts vo nm) (hF : FeedAt w f (.slice (fedA g off B.length) B.length cap) p z) (hS : Go.Bel.Src w g off B) (hgf : g ≠ f) (hXf : X ≠ f) (hDf : D ≠ f) (hDX : D ≠ X) (hp : p ≤ 8 * B.length) (hh : head < 4294967296)
  (ha : w.cell? ⟨a, 0, none⟩ = some (.pointer (some ⟨X, 0, none⟩))) (hb : w.cell? ⟨b, 0, none⟩ = some (.int .i64 (m : Nat))) (hbf : b ≠ f ∧ b ≠ X) (e : Nat) (he : e = if numAt B p 8 = m then 0 else 4) :
  Calls Tryz.prog 121 #[.pointer (some ⟨a, 0, none⟩), .pointer (some ⟨b, 0, none⟩)] w (GzTo 8 p B f (.slice (fedA g off B.length) B.length cap) z X D d fl left (crcWith head [numAt B p 8]) lv check size parts vo nm true e (fun k => k = f ∨ k = X) w) := by
 have hdr := (Step.refl (fun _ => False) w).drew
 have hC := headByte_any X D f d g off cap z p fl left head check size lv B parts vo nm w.drew (hdr.at_ hX (fun x => x)) (hdr.at_ hD (fun x => x)) (hdr.at_ hF (fun x => x)) (hS.step hdr (fun x => x)) hgf hXf hp hh
 have HD := hide hD
 have HE := hide he
 clear hX hD hF hS he
 by_cases hlt : p + 8 ≤ 8 * B.length
 ·have HC := hide (hC.mono (fun r w' h => h.ok hlt))
  have hx := numAt_lt B p 8
  have HG := hide (show ∀ w', FeedAt w' f (.slice (fedA g off B.length) B.length cap) (p + 8) z → GzAt w' X D fl left (crcWith head [numAt B p 8]) lv check size → Step (fun k => k = f ∨ k = X) w.drew w' → GzTo 8 p B f (.slice (fedA g off B.length) B.length cap) z X D d fl left (crcWith head [numAt B p 8]) lv check size parts vo nm true e (fun k => k = f ∨ k = X) w (.returned (.tuple #[.bool true, .int .i64 (e : Nat)])) w' from fun w' h1 h2 h3 =>
   .inl ⟨hlt, h1, rfl, h2, h3.at_ (hdr.at_ (unhide HD) (fun x => x)) (fun x => x.elim hDf hDX), (hdr.mono (fun _ x => x.elim)).trans h3⟩)
  clear hC hlt hdr
  generalize numAt B p 8 = c at *
  have HB := hide (show ¬ (b = f ∨ b = X) from fun x => x.elim hbf.1 hbf.2)
  clear hbf
  by_cases hcm : c = m
  ·have hcb : ((c : Int) == (m : Int)) = true := beq_iff_eq.2 (by omega)
   have HEE := hide (show e = 0 by rw [unhide HE, if_pos hcm])
   clear HE hcm
   go_enter Tryz.func121, Tryz.ntmps121
   go_wp2_with fail
   go_region_with
    (first
     | (go_at_call 122; refine (unhide HC).mono ?_; rintro r w1 ⟨h1, rfl, h2, h3⟩; have k1 := h3.cell (p := ⟨b, 0, none⟩) (w := w.drew) hb (unhide HB))
     | (go_at_call 120; refine (holds_any true 4 _).mono ?_; rintro r w2 ⟨rfl, rfl⟩))
   all_goals
    go_wp2_with fail
    go_ret2
    have h9 := unhide HG _ h1 h2 h3
    rw [unhide HEE] at h9
    rw [unhide HEE]
    exact h9
  ·have hcb : ((c : Int) == (m : Int)) = false := beq_eq_false_iff_ne.2 (by omega)
   have HEE := hide (show e = 4 by rw [unhide HE, if_neg hcm])
   clear HE hcm
   go_enter Tryz.func121, Tryz.ntmps121
   go_wp2_with fail
   go_region_with
    (first
     | (go_at_call 122; refine (unhide HC).mono ?_; rintro r w1 ⟨h1, rfl, h2, h3⟩; have k1 := h3.cell (p := ⟨b, 0, none⟩) (w := w.drew) hb (unhide HB))
     | (go_at_call 120; refine (holds_any false 4 _).mono ?_; rintro r w2 ⟨rfl, rfl⟩))
   all_goals
    go_wp2_with fail
    go_ret2
    have h9 := unhide HG _ h1 h2 h3
    rw [unhide HEE] at h9
    rw [unhide HEE]
    exact h9
 ·have HC := hide (hC.mono (fun r w' h => h.lost hlt))
  have HG := hide (show ∀ w', FeedAt w' f (.slice (fedA g off B.length) B.length cap) (8 * B.length) z → Step (· = f) w.drew w' → GzTo 8 p B f (.slice (fedA g off B.length) B.length cap) z X D d fl left (crcWith head [numAt B p 8]) lv check size parts vo nm true e (fun k => k = f ∨ k = X) w lost w' from fun w' h1 h2 =>
   .inr ⟨by omega, rfl, h1, (hdr.mono (fun _ x => x.elim)).trans h2⟩)
  clear hC hlt hdr
  go_enter Tryz.func121, Tryz.ntmps121
  go_wp2_with fail
  go_region_dies
  all_goals
   refine (unhide HC).mono ?_
   rintro r w1 ⟨rfl, h1, h2⟩
   exact ⟨rfl, unhide HG w1 h1 h2⟩
end Go.Proofs.YtbpahojchgpdnaaGreatDoor
namespace Go.Proofs.YtbpahojchgpdnaaGreatDoor
open Go.RowKit Go.Bel Go.Maps
structure GIn (w : World) (X D f d g off cap z p fl left head : Nat) (lv : Value) (check size : Nat) (B : List Nat) (parts vo : Value) (nm : ByteArray) : Prop where
 gz : GzAt w X D fl left head lv check size
 dec : WAtN w D f d parts vo nm
 feed : FeedAt w f (.slice (fedA g off B.length) B.length cap) p z
 src : Go.Bel.Src w g off B
 gf : g ≠ f
 Xf : X ≠ f
 Df : D ≠ f
 DX : D ≠ X
 here : p ≤ 8 * B.length
 hh : head < 4294967296
theorem GIn.step0 {w w' : World} {X D f d g off cap z p fl left head : Nat} {lv : Value} {check size : Nat} {B : List Nat} {parts vo : Value} {nm : ByteArray} (h : GIn w X D f d g off cap z p fl left head lv check size B parts vo nm) (hs : Step (fun _ => False) w w') : GIn w' X D f d g off cap z p fl left head lv check size B parts vo nm :=
 ⟨hs.at_ h.gz (fun x => x), hs.at_ h.dec (fun x => x), hs.at_ h.feed (fun x => x), h.src.step hs (fun x => x), h.gf, h.Xf, h.Df, h.DX, h.here, h.hh⟩
theorem GIn.byte {w : World} {X D f d g off cap z p fl left head : Nat} {lv : Value} {check size : Nat} {B : List Nat} {parts vo : Value} {nm : ByteArray} (h : GIn w X D f d g off cap z p fl left head lv check size B parts vo nm) :
  Calls Tryz.prog 122 #[.pointer (some ⟨X, 0, none⟩)] w (ReadsTo 8 p B f (.slice (fedA g off B.length) B.length cap) z w fun r w' => r = .returned (.int .i64 (numAt B p 8 : Nat)) ∧ GzAt w' X D fl left (crcWith head [numAt B p 8]) lv check size ∧ Step (fun k => k = f ∨ k = X) w w') :=
 headByte_any X D f d g off cap z p fl left head check size lv B parts vo nm w h.gz h.dec h.feed h.src h.gf h.Xf h.here h.hh
end Go.Proofs.YtbpahojchgpdnaaGreatDoor
namespace Go.Proofs.YtbpahojchgpdnaaGreatDoor
open Go.RowKit Go.Bel Go.Maps
inductive TextR (B : List Nat) : Nat → List Nat → Bool → Nat → Prop
 | miss (p : Nat) (h : 8 * B.length < p + 8) : TextR B p [] false p
 | zero (p : Nat) (h : p + 8 ≤ 8 * B.length) (hz : numAt B p 8 = 0) : TextR B p [] true (p + 8)
 | more (p : Nat) (l : List Nat) (ok : Bool) (q : Nat) (h : p + 8 ≤ 8 * B.length) (hz : numAt B p 8 ≠ 0) (ht : TextR B (p + 8) l ok q) : TextR B p (numAt B p 8 :: l) ok q
theorem textR_ex (B : List Nat) : ∀ k p, 8 * B.length ≤ p + k → ∃ l ok q, TextR B p l ok q := by
 intro k
 induction k with
 | zero => intro p h; exact ⟨_, _, _, .miss p (by omega)⟩
 | succ k ih =>
  intro p h
  by_cases h1 : p + 8 ≤ 8 * B.length
  ·by_cases h2 : numAt B p 8 = 0
   ·exact ⟨_, _, _, .zero p h1 h2⟩
   ·obtain ⟨l, ok, q, ht⟩ := ih (p + 8) (by omega)
    exact ⟨_, _, _, .more p l ok q h1 h2 ht⟩
  ·exact ⟨_, _, _, .miss p (by omega)⟩
theorem TextR.le {B : List Nat} {p q : Nat} {l : List Nat} {ok : Bool} (h : TextR B p l ok q) (hp : p ≤ 8 * B.length) : p ≤ q ∧ q ≤ 8 * B.length ∧ (p % 8 = 0 → q % 8 = 0) := by
 induction h with
 | miss p h => exact ⟨by omega, hp, id⟩
 | zero p h hz => exact ⟨by omega, h, fun _ => by omega⟩
 | more p l ok q h hz ht ih =>
  obtain ⟨h1, h2, h3⟩ := ih h
  exact ⟨by omega, h2, fun x => h3 (by omega)⟩
def latinC (c : Nat) : List Nat := if c < 128 then [c] else [192 + c / 64, 128 + c % 64]
def latinB (l : List Nat) : List Nat := l.flatMap latinC
def baOf (l : List Nat) : ByteArray := ⟨(l.map UInt8.ofNat).toArray⟩
def gzNo (x : Nat) (nm : List Nat) (e : Nat) (out : List Nat) (used : Nat) (name : List Nat) : Prop := e = x ∧ out = [] ∧ used = 0 ∧ name = nm
def gzSize (B : List Nat) (q : Nat) (o nm : List Nat) (e : Nat) (out : List Nat) (used : Nat) (name : List Nat) : Prop :=
 out = o ∧ name = nm ∧ if q + 32 ≤ 8 * B.length then (if numAt B q 32 = o.length then e = 0 ∧ used = q / 8 + 4 else e = 12 ∧ used = 0) else e = 3 ∧ used = 0
def gzTail (B : List Nat) (q : Nat) (o nm : List Nat) (e : Nat) (out : List Nat) (used : Nat) (name : List Nat) : Prop :=
 if q + 32 ≤ 8 * B.length then (if numAt B q 32 = crcWith 0 o then gzSize B (q + 32) o nm e out used name else e = 12 ∧ out = o ∧ used = 0 ∧ name = nm) else e = 3 ∧ out = o ∧ used = 0 ∧ name = nm
def gzBody (B : List Nat) (most p : Nat) (nm : List Nat) (e : Nat) (out : List Nat) (used : Nat) (name : List Nat) : Prop :=
 ∃ n e1 o1 q1, GRun B n (gAt most p) e1 o1 q1 ∧ if e1 = 0 then gzTail B q1 o1 nm e out used name else e = e1 ∧ out = o1 ∧ used = 0 ∧ name = nm
def gzCheck (B : List Nat) (most fl p : Nat) (nm : List Nat) (e : Nat) (out : List Nat) (used : Nat) (name : List Nat) : Prop :=
 if fl / 2 % 2 = 1 then (if p + 16 ≤ 8 * B.length then (if numAt B p 16 = crcWith 0 (B.take (p / 8)) % 65536 then gzBody B most (p + 16) nm e out used name else gzNo 12 nm e out used name) else gzNo 3 nm e out used name) else gzBody B most p nm e out used name
def gzRemark (B : List Nat) (most fl p : Nat) (nm : List Nat) (e : Nat) (out : List Nat) (used : Nat) (name : List Nat) : Prop :=
 if fl / 16 % 2 = 1 then ∃ l ok q, TextR B p l ok q ∧ if ok = true then gzCheck B most fl q nm e out used name else gzNo 3 nm e out used name else gzCheck B most fl p nm e out used name
def gzName (B : List Nat) (most fl p : Nat) (l0 : List Nat) (e : Nat) (out : List Nat) (used : Nat) (name : List Nat) : Prop :=
 if fl / 8 % 2 = 1 then ∃ l ok q, TextR B p l ok q ∧ if ok = true then gzRemark B most fl q (latinB (l0 ++ l)) e out used name else gzNo 3 [] e out used name else gzRemark B most fl p [] e out used name
def gzPass (B : List Nat) (most fl p left : Nat) (e : Nat) (out : List Nat) (used : Nat) (name : List Nat) : Prop :=
 if fl / 4 % 2 = 1 then (if p + 8 * left ≤ 8 * B.length then gzName B most fl (p + 8 * left) [] e out used name else gzNo 3 [] e out used name) else gzName B most fl p [] e out used name
def gzExtra (B : List Nat) (most fl p : Nat) (e : Nat) (out : List Nat) (used : Nat) (name : List Nat) : Prop :=
 if fl / 4 % 2 = 1 then (if p + 16 ≤ 8 * B.length then gzPass B most fl (p + 16) (numAt B p 16) e out used name else gzNo 3 [] e out used name) else gzName B most fl p [] e out used name
def gzSkip (B : List Nat) (most fl p left : Nat) (e : Nat) (out : List Nat) (used : Nat) (name : List Nat) : Prop :=
 if p + 8 * left ≤ 8 * B.length then gzExtra B most fl (p + 8 * left) e out used name else gzNo 3 [] e out used name
def gzFlags (B : List Nat) (most p : Nat) (e : Nat) (out : List Nat) (used : Nat) (name : List Nat) : Prop :=
 if p + 8 ≤ 8 * B.length then (if numAt B p 8 < 32 then gzSkip B most (numAt B p 8) (p + 8) 6 e out used name else gzNo 4 [] e out used name) else gzNo 3 [] e out used name
def gzMark (B : List Nat) (m p : Nat) (K : Nat → List Nat → Nat → List Nat → Prop) (e : Nat) (out : List Nat) (used : Nat) (name : List Nat) : Prop :=
 if p + 8 ≤ 8 * B.length then (if numAt B p 8 = m then K e out used name else gzNo 4 [] e out used name) else gzNo 3 [] e out used name
def gz2 (B : List Nat) (most : Nat) : Nat → List Nat → Nat → List Nat → Prop := gzMark B 8 16 (gzFlags B most 24)
def gz1 (B : List Nat) (most : Nat) : Nat → List Nat → Nat → List Nat → Prop := gzMark B 139 8 (gz2 B most)
def gzAll (B : List Nat) (most : Nat) : Nat → List Nat → Nat → List Nat → Prop := gzMark B 31 0 (gz1 B most)
def Has (K : Nat → List Nat → Nat → List Nat → Prop) : Prop := ∃ e out used name, K e out used name
theorem has_no (x : Nat) (nm : List Nat) : Has (gzNo x nm) := ⟨_, _, _, _, rfl, rfl, rfl, rfl⟩
theorem has_size (B : List Nat) (q : Nat) (o nm : List Nat) : Has (gzSize B q o nm) := by
 unfold Has gzSize
 by_cases h1 : q + 32 ≤ 8 * B.length
 ·by_cases h2 : numAt B q 32 = o.length
  ·exact ⟨0, o, q / 8 + 4, nm, rfl, rfl, by rw [if_pos h1, if_pos h2]; exact ⟨rfl, rfl⟩⟩
  ·exact ⟨12, o, 0, nm, rfl, rfl, by rw [if_pos h1, if_neg h2]; exact ⟨rfl, rfl⟩⟩
 ·exact ⟨3, o, 0, nm, rfl, rfl, by rw [if_neg h1]; exact ⟨rfl, rfl⟩⟩
theorem has_tail (B : List Nat) (q : Nat) (o nm : List Nat) : Has (gzTail B q o nm) := by
 unfold Has gzTail
 by_cases h1 : q + 32 ≤ 8 * B.length
 ·by_cases h2 : numAt B q 32 = crcWith 0 o
  ·simp only [if_pos h1, if_pos h2]; exact has_size B _ o nm
  ·simp only [if_pos h1, if_neg h2]; exact ⟨_, _, _, _, rfl, rfl, rfl, rfl⟩
 ·simp only [if_neg h1]; exact ⟨_, _, _, _, rfl, rfl, rfl, rfl⟩
theorem has_body (B : List Nat) (most p : Nat) (nm : List Nat) (hp : p ≤ 8 * B.length) : Has (gzBody B most p nm) := by
 obtain ⟨n, e1, o1, q1, hr⟩ := gRun_ex B (gLeft B (gAt most p) + 1) (gAt most p) (by simpa [gAt] using hp) (by omega)
 by_cases h : e1 = 0
 ·obtain ⟨e, out, used, name, ht⟩ := has_tail B q1 o1 nm
  exact ⟨e, out, used, name, n, e1, o1, q1, hr, by rw [if_pos h]; exact ht⟩
 ·exact ⟨e1, o1, 0, nm, n, e1, o1, q1, hr, by rw [if_neg h]; exact ⟨rfl, rfl, rfl, rfl⟩⟩
theorem has_check (B : List Nat) (most fl p : Nat) (nm : List Nat) (hp : p ≤ 8 * B.length) : Has (gzCheck B most fl p nm) := by
 unfold Has gzCheck
 by_cases h0 : fl / 2 % 2 = 1
 ·simp only [if_pos h0]
  by_cases h1 : p + 16 ≤ 8 * B.length
  ·simp only [if_pos h1]
   by_cases h2 : numAt B p 16 = crcWith 0 (B.take (p / 8)) % 65536
   ·simp only [if_pos h2]; exact has_body B most _ nm h1
   ·simp only [if_neg h2]; exact has_no _ _
  ·simp only [if_neg h1]; exact has_no _ _
 ·simp only [if_neg h0]; exact has_body B most p nm hp
theorem has_remark (B : List Nat) (most fl p : Nat) (nm : List Nat) (hp : p ≤ 8 * B.length) : Has (gzRemark B most fl p nm) := by
 unfold Has gzRemark
 by_cases h0 : fl / 16 % 2 = 1
 ·simp only [if_pos h0]
  obtain ⟨l, ok, q, ht⟩ := textR_ex B (8 * B.length) p (by omega)
  cases ok with
  | true =>
   obtain ⟨e, out, used, name, hk⟩ := has_check B most fl q nm (ht.le hp).2.1
   exact ⟨e, out, used, name, l, true, q, ht, by rw [if_pos rfl]; exact hk⟩
  | false => exact ⟨3, [], 0, nm, l, false, q, ht, by rw [if_neg (by simp)]; exact ⟨rfl, rfl, rfl, rfl⟩⟩
 ·simp only [if_neg h0]; exact has_check B most fl p nm hp
theorem has_name (B : List Nat) (most fl p : Nat) (hp : p ≤ 8 * B.length) : Has (gzName B most fl p []) := by
 unfold Has gzName
 by_cases h0 : fl / 8 % 2 = 1
 ·simp only [if_pos h0]
  obtain ⟨l, ok, q, ht⟩ := textR_ex B (8 * B.length) p (by omega)
  cases ok with
  | true =>
   obtain ⟨e, out, used, name, hk⟩ := has_remark B most fl q (latinB ([] ++ l)) (ht.le hp).2.1
   exact ⟨e, out, used, name, l, true, q, ht, by rw [if_pos rfl]; exact hk⟩
  | false => exact ⟨3, [], 0, [], l, false, q, ht, by rw [if_neg (by simp)]; exact ⟨rfl, rfl, rfl, rfl⟩⟩
 ·simp only [if_neg h0]; exact has_remark B most fl p [] hp
theorem has_pass (B : List Nat) (most fl p left : Nat) (hp : p ≤ 8 * B.length) : Has (gzPass B most fl p left) := by
 unfold Has gzPass
 by_cases h0 : fl / 4 % 2 = 1
 ·simp only [if_pos h0]
  by_cases h1 : p + 8 * left ≤ 8 * B.length
  ·simp only [if_pos h1]; exact has_name B most fl _ h1
  ·simp only [if_neg h1]; exact has_no _ _
 ·simp only [if_neg h0]; exact has_name B most fl p hp
theorem has_extra (B : List Nat) (most fl p : Nat) (hp : p ≤ 8 * B.length) : Has (gzExtra B most fl p) := by
 unfold Has gzExtra
 by_cases h0 : fl / 4 % 2 = 1
 ·simp only [if_pos h0]
  by_cases h1 : p + 16 ≤ 8 * B.length
  ·simp only [if_pos h1]; exact has_pass B most fl _ _ h1
  ·simp only [if_neg h1]; exact has_no _ _
 ·simp only [if_neg h0]; exact has_name B most fl p hp
theorem has_flags (B : List Nat) (most p : Nat) : Has (gzFlags B most p) := by
 unfold Has gzFlags
 by_cases h1 : p + 8 ≤ 8 * B.length
 ·simp only [if_pos h1]
  by_cases h2 : numAt B p 8 < 32
  ·simp only [if_pos h2]
   unfold gzSkip
   by_cases h3 : p + 8 + 8 * 6 ≤ 8 * B.length
   ·simp only [if_pos h3]; exact has_extra B most _ _ h3
   ·simp only [if_neg h3]; exact has_no _ _
  ·simp only [if_neg h2]; exact has_no _ _
 ·simp only [if_neg h1]; exact has_no _ _
theorem has_mark (B : List Nat) (m p : Nat) (K : Nat → List Nat → Nat → List Nat → Prop) (h : Has K) : Has (gzMark B m p K) := by
 unfold Has gzMark
 by_cases h1 : p + 8 ≤ 8 * B.length
 ·simp only [if_pos h1]
  by_cases h2 : numAt B p 8 = m
  ·simp only [if_pos h2]; exact h
  ·simp only [if_neg h2]; exact has_no _ _
 ·simp only [if_neg h1]; exact has_no _ _
theorem gzAll_ex (B : List Nat) (most : Nat) : ∃ e out used name, gzAll B most e out used name := has_mark B 31 0 _ (has_mark B 139 8 _ (has_mark B 8 16 _ (has_flags B most 24)))
end Go.Proofs.YtbpahojchgpdnaaGreatDoor
namespace Go.Proofs.YtbpahojchgpdnaaGreatDoor
open Go.RowKit Go.Bel Go.Maps
theorem numAt_low (B : List Nat) (k n : Nat) (h : n ≤ 8) : numAt B (8 * k) n = B[k]?.getD 0 % 2 ^ n := by
 induction n with
 | zero => simp [numAt, Nat.mod_one]
 | succ n ih =>
  have e1 : (8 * k + n) / 8 = k := by omega
  have e2 : (8 * k + n) % 8 = n := by omega
  unfold numAt bitAt
  rw [ih (by omega), e1, e2, Nat.pow_succ, Nat.mod_mul]
  rw [Nat.mul_comm]
theorem numAt_byte (B : List Nat) (k : Nat) (hB : AllB B) (hk : k < B.length) : numAt B (8 * k) 8 = B[k] := by
 rw [numAt_low B k 8 (Nat.le_refl _), List.getElem?_eq_getElem hk]
 exact Nat.mod_eq_of_lt (hB _ (List.getElem_mem hk))
theorem numAt_add (B : List Nat) (p m n : Nat) : numAt B p (m + n) = numAt B p m + 2 ^ m * numAt B (p + m) n := by
 induction n with
 | zero => simp [numAt]
 | succ n ih =>
  show numAt B p (m + n) + bitAt B (p + (m + n)) * 2 ^ (m + n) = _
  rw [ih]
  show _ = numAt B p m + 2 ^ m * (numAt B (p + m) n + bitAt B (p + m + n) * 2 ^ n)
  rw [Nat.pow_add, ← Nat.add_assoc p m n, Nat.mul_add, Nat.add_assoc, Nat.mul_left_comm (2 ^ m)]
theorem crc_byte (B : List Nat) (p : Nat) (hB : AllB B) (h8 : p % 8 = 0) (hp : p + 8 ≤ 8 * B.length) : crcWith (crcWith 0 (B.take (p / 8))) [numAt B p 8] = crcWith 0 (B.take ((p + 8) / 8)) := by
 obtain ⟨k, rfl⟩ : ∃ k, p = 8 * k := ⟨p / 8, by omega⟩
 have hk : k < B.length := by omega
 rw [numAt_byte B k hB hk, show 8 * k / 8 = k by omega, show (8 * k + 8) / 8 = k + 1 by omega, ← crcWith_append 0 _ _ (hB.take k), List.take_succ_eq_append_getElem hk]
theorem crc_word (B : List Nat) (p : Nat) (hB : AllB B) (h8 : p % 8 = 0) (hp : p + 16 ≤ 8 * B.length) : crcWith (crcWith 0 (B.take (p / 8))) [numAt B p 16 % 256, numAt B p 16 / 256] = crcWith 0 (B.take ((p + 16) / 8)) := by
 have h0 : numAt B p 16 = numAt B p 8 + 2 ^ 8 * numAt B (p + 8) 8 := numAt_add B p 8 8
 have h1 : numAt B p 8 < 2 ^ 8 := numAt_lt B p 8
 rw [show numAt B p 16 % 256 = numAt B p 8 by omega, show numAt B p 16 / 256 = numAt B (p + 8) 8 by omega]
 have h2 : crcWith (crcWith 0 (B.take (p / 8))) [numAt B p 8, numAt B (p + 8) 8] = crcWith (crcWith (crcWith 0 (B.take (p / 8))) [numAt B p 8]) [numAt B (p + 8) 8] := crcWith_append _ [numAt B p 8] [numAt B (p + 8) 8] (fun x hx => by simp at hx; omega)
 rw [h2, crc_byte B p hB h8 (by omega), crc_byte B (p + 8) hB (by omega) (by omega)]
theorem and_4 : ∀ a, a < 32 → a &&& 4 = a / 4 % 2 * 4 := by decide +kernel
theorem and_8 : ∀ a, a < 32 → a &&& 8 = a / 8 % 2 * 8 := by decide +kernel
theorem and_16 : ∀ a, a < 32 → a &&& 16 = a / 16 % 2 * 16 := by decide +kernel
theorem and_2 : ∀ a, a < 32 → a &&& 2 = a / 2 % 2 * 2 := by decide +kernel
end Go.Proofs.YtbpahojchgpdnaaGreatDoor
