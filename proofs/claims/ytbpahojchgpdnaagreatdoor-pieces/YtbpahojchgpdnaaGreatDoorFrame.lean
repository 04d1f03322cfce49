/- Proved here: what readFirsts does where all its bits are there and the lengths may be. -/
import Derived.Deep.RegionHeld3
import Derived.Test.YtbpahojchgpdnaaGreatDoorGround
import Derived.Deep.RegionLaw
import Derived.Deep.AppendLies
set_option maxRecDepth 20000
set_option maxHeartbeats 4000000
namespace Go.Proofs.YtbpahojchgpdnaaGreatDoor
open Go.RowKit Go.Bel Go.Maps
def fsTo (B : List Nat) (p : Nat) : Nat → Nat → Nat
 | 0, _ => 0
 | k + 1, i => if i = orderList[k]?.getD 0 then numAt B (p + 3 * k) 3 else fsTo B p k i
theorem fsTo_le (B : List Nat) (p k i : Nat) : fsTo B p k i ≤ 7 := by
 induction k with
 | zero => simp [fsTo]
 | succ k ih =>
  rw [fsTo]
  split
  ·have := numAt_lt B (p + 3 * k) 3; omega
  ·exact ih
def firstLens (B : List Nat) (p c : Nat) : List Nat := (List.range 19).map (fsTo B p c)
theorem firstLens_length (B : List Nat) (p c : Nat) : (firstLens B p c).length = 19 := by simp [firstLens]
theorem firstLens_get (B : List Nat) (p c i : Nat) (hi : i < 19) : (firstLens B p c)[i]?.getD 0 = fsTo B p c i := by simp [firstLens, hi]
theorem firstLens_le (B : List Nat) (p c i : Nat) : (firstLens B p c)[i]?.getD 0 ≤ 15 := by
 by_cases hi : i < 19
 ·rw [firstLens_get _ _ _ _ hi]; have := fsTo_le B p c i; omega
 ·rw [List.getElem?_eq_none (by rw [firstLens_length]; omega)]; simp
theorem order_lt (i : Nat) : orderList[i]?.getD 0 < 19 := by
 by_cases hi : i < 19
 ·have : i = 0 ∨ i = 1 ∨ i = 2 ∨ i = 3 ∨ i = 4 ∨ i = 5 ∨ i = 6 ∨ i = 7 ∨ i = 8 ∨ i = 9 ∨ i = 10 ∨ i = 11 ∨ i = 12 ∨ i = 13 ∨ i = 14 ∨ i = 15 ∨ i = 16 ∨ i = 17 ∨ i = 18 := by omega
  rcases this with rfl | rfl | rfl | rfl | rfl | rfl | rfl | rfl | rfl | rfl | rfl | rfl | rfl | rfl | rfl | rfl | rfl | rfl | rfl <;> decide
 ·rw [List.getElem?_eq_none (by simp [orderList]; omega)]; simp
structure OrderAt (w : World) : Prop where
 order : ∀ i : Nat, i < 19 → w.cell? ⟨0, i, none⟩ = some (.int .i64 (orderList[i]?.getD 0 : Nat))
 many : w.cell? ⟨1, 0, none⟩ = some (.int .i64 18) ∧ w.cell? ⟨1, 1, none⟩ = some (.int .i64 11) ∧ w.cell? ⟨1, 2, none⟩ = some (.int .i64 7)
 few : w.cell? ⟨2, 0, none⟩ = some (.int .i64 17) ∧ w.cell? ⟨2, 1, none⟩ = some (.int .i64 3) ∧ w.cell? ⟨2, 2, none⟩ = some (.int .i64 3)
 again : w.cell? ⟨3, 0, none⟩ = some (.int .i64 16) ∧ w.cell? ⟨3, 1, none⟩ = some (.int .i64 3) ∧ w.cell? ⟨3, 2, none⟩ = some (.int .i64 2)
theorem OrderAt.step {S : Nat → Prop} {w w' : World} (h : OrderAt w) (hs : Step S w w') (hn : ∀ k, k < 4 → ¬ S k) : OrderAt w' :=
 ⟨fun i hi => hs.cell (h.order i hi) (hn 0 (by omega)), ⟨hs.cell h.many.1 (hn 1 (by omega)), hs.cell h.many.2.1 (hn 1 (by omega)), hs.cell h.many.2.2 (hn 1 (by omega))⟩,
  ⟨hs.cell h.few.1 (hn 2 (by omega)), hs.cell h.few.2.1 (hn 2 (by omega)), hs.cell h.few.2.2 (hn 2 (by omega))⟩, ⟨hs.cell h.again.1 (hn 3 (by omega)), hs.cell h.again.2.1 (hn 3 (by omega)), hs.cell h.again.2.2 (hn 3 (by omega))⟩⟩
theorem zeroF : (#[.int .i64 0, .int .i64 0, .int .i64 0, .int .i64 0, .int .i64 0, .int .i64 0, .int .i64 0, .int .i64 0, .int .i64 0, .int .i64 0, .int .i64 0, .int .i64 0, .int .i64 0, .int .i64 0, .int .i64 0, .int .i64 0, .int .i64 0, .int .i64 0, .int .i64 0] : Array Value) = Array.replicate 19 (.int .i64 0) := rfl
end Go.Proofs.YtbpahojchgpdnaaGreatDoor
namespace Go.Bel
open Go Go.RowKit
structure DSt where
 v : Value
 out : List Nat
 fresh : Nat
 room : Nat
 place : Nat
 last : Bool
 left : Nat
 sm : Value
 sl : Nat
 dm : Value
 dl : Nat
 fx : Value
def DSt.cells (f : Nat) (st : DSt) : Array Value :=
 #[.pointer (some ⟨f, 0, none⟩), st.v, .int .i64 (st.fresh : Nat), .int .i64 (st.room : Nat), .int .i64 (st.place : Nat), .bool st.last, .int .i64 (st.left : Nat), st.sm, .int .i64 (st.sl : Nat), st.dm, .int .i64 (st.dl : Nat), st.fx]
structure DecAt (w : World) (d f base t e : Nat) (st : DSt) : Prop where
 blk : w.heap[d]? = some (.cells (st.cells f) t (0, 0))
 own : w.ownsRow base e 1 st.v st.out.length (u8s st.out)
 dbase : d < base
 fbase : f < base
 ne : d ≠ f
 base_le : base ≤ w.heap.size
def DSt.add (st : DSt) (v : Value) (xs : List Nat) : DSt := { st with v := v, out := st.out ++ xs, fresh := st.fresh + xs.length, room := st.room - xs.length }
structure Outs (st : DSt) (taken : Nat) (out : List Nat) : Prop where
 old : ∃ old, out = old ++ st.out ∧ (old = [] ∨ 32768 ≤ st.out.length)
 fresh : st.fresh + taken = out.length
 kept : st.fresh ≤ st.out.length
theorem Outs.add {st : DSt} {taken : Nat} {out : List Nat} (h : Outs st taken out) (v : Value) (xs : List Nat) : Outs (st.add v xs) taken (out ++ xs) := by
 obtain ⟨old, h1, h2⟩ := h.old
 have h3 := h.fresh
 have h4 := h.kept
 refine ⟨⟨old, ?_, ?_⟩, ?_, ?_⟩
 ·show out ++ xs = old ++ (st.out ++ xs)
  rw [h1, List.append_assoc]
 ·show old = [] ∨ 32768 ≤ (st.out ++ xs).length
  rw [List.length_append]
  exact h2.imp id (fun x => by omega)
 ·show st.fresh + xs.length + taken = (out ++ xs).length
  rw [List.length_append]; omega
 ·show st.fresh + xs.length ≤ (st.out ++ xs).length
  rw [List.length_append]; omega
theorem Outs.le {st : DSt} {taken : Nat} {out : List Nat} (h : Outs st taken out) : st.out.length ≤ out.length ∧ st.fresh ≤ out.length := by
 obtain ⟨old, h1, h2⟩ := h.old
 have h3 := h.fresh
 rw [h1, List.length_append] at *
 omega
structure Small (st : DSt) : Prop where
 room : st.room ≤ 1048576
 fresh : st.fresh ≤ 1048576
 out : st.out.length ≤ 1048576
theorem Outs.small {st : DSt} {taken most : Nat} {out : List Nat} (h : Outs st taken out) (h1 : st.room + out.length = most) (h2 : most ≤ 1048576) : Small st := by
 have := h.le
 exact ⟨by omega, by omega, by omega⟩
theorem Outs.same {st st' : DSt} {taken : Nat} {out : List Nat} (h : Outs st taken out) (h1 : st'.out = st.out) (h2 : st'.fresh = st.fresh) : Outs st' taken out :=
 ⟨by rw [h1]; exact h.old, by rw [h2]; exact h.fresh, by rw [h1, h2]; exact h.kept⟩
structure Dst (d f : Nat) (w : World) (v : Value) (w' : World) (v' : Value) : Prop where
 step : Step (fun k => k = d ∨ k = f ∨ v.ownBlock = some k) w w'
 own : ∀ k, v'.ownBlock = some k → v.ownBlock = some k ∨ w.heap.size ≤ k
theorem Dst.refl (d f : Nat) (w : World) (v : Value) : Dst d f w v w v := ⟨Step.refl _ _, fun _ h => .inl h⟩
theorem Dst.trans {d f : Nat} {w w1 w2 : World} {v v1 v2 : Value} (h : Dst d f w v w1 v1) (k : Dst d f w1 v1 w2 v2) : Dst d f w v w2 v2 :=
 ⟨h.step.trans' k.step fun i hi hx => hx.elim .inl fun hx => hx.elim (fun x => .inr (.inl x)) fun hx => (h.own i hx).elim (fun x => .inr (.inr x)) (fun x => by omega),
  fun i hi => (k.own i hi).elim (h.own i) (fun hx => by have := h.step.size; exact .inr (by omega))⟩
theorem Dst.fed {d f : Nat} {w w' : World} {v : Value} {p : Nat} (h : Fed f w w' p) : Dst d f w v w' v := ⟨h.step.mono fun _k hk => .inr (.inl hk), fun _ h => .inl h⟩
theorem Dst.step0 {d f : Nat} {w w' : World} {v : Value} (h : Step (fun _ => False) w w') : Dst d f w v w' v := ⟨h.mono fun _ x => x.elim, fun _ h => .inl h⟩
theorem Dst.setCell (d f : Nat) (w : World) (v : Value) (i : Nat) (u : Value) : Dst d f w v (w.setCell ⟨d, i, none⟩ u) v := ⟨(Step.refl _ w).setCell (p := ⟨d, i, none⟩) (.inl rfl) u, fun _ h => .inl h⟩
theorem Dst.alloc {d f : Nat} {w w' : World} {v v' : Value} (h : Dst d f w v w' v') (o : Obj) : Dst d f w v (w'.alloc o) v' := ⟨h.step.alloc o, h.own⟩
structure DOff (d f : Nat) (v : Value) (k : Nat) : Prop where
 d : k ≠ d
 f : k ≠ f
 row : v.ownBlock ≠ some k
theorem DOff.not {d f k : Nat} {v : Value} (h : DOff d f v k) : ¬ (k = d ∨ k = f ∨ v.ownBlock = some k) := fun x => x.elim h.d fun x => x.elim h.f h.row
theorem DOff.step {d f k : Nat} {w w' : World} {v v' : Value} (h : DOff d f v k) (hk : k < w.heap.size) (hw : Dst d f w v w' v') : DOff d f v' k :=
 ⟨h.d, h.f, fun e => (hw.own k e).elim h.row (fun x => by omega)⟩
theorem DecAt.other {w w' : World} {d f base t e : Nat} {st : DSt} (h : DecAt w d f base t e st) (hd : w'.heap[d]? = w.heap[d]?) (hr : ∀ k, st.v.ownBlock = some k → w'.heap[k]? = w.heap[k]?) (hs : w.heap.size ≤ w'.heap.size) : DecAt w' d f base t e st :=
 ⟨hd.trans h.blk, ownsRow_of_block h.own hr, h.dbase, h.fbase, h.ne, Nat.le_trans h.base_le hs⟩
theorem DecAt.row_ne {w : World} {d f base t e : Nat} {st : DSt} (h : DecAt w d f base t e st) : st.v.ownBlock ≠ some d ∧ st.v.ownBlock ≠ some f := by
 have hd := h.dbase; have hf := h.fbase
 exact ⟨fun x => by have := (h.own.lt d x).1; omega, fun x => by have := (h.own.lt f x).1; omega⟩
theorem DecAt.fed {w w' : World} {d f base t e p : Nat} {st : DSt} (h : DecAt w d f base t e st) (hf : Fed f w w' p) : DecAt w' d f base t e st :=
 h.other (hf.step.block d (lt_of_block h.blk) h.ne) (fun k hk => hf.step.block k (h.own.lt k hk).2 (fun x => h.row_ne.2 (x ▸ hk))) hf.step.size
theorem DecAt.step0 {w w' : World} {d f base t e : Nat} {st : DSt} (h : DecAt w d f base t e st) (hf : Step (fun _ => False) w w') : DecAt w' d f base t e st :=
 h.other (hf.block d (lt_of_block h.blk) (fun x => x)) (fun k hk => hf.block k (h.own.lt k hk).2 (fun x => x)) hf.size
theorem DecAt.set {w : World} {d f base t e : Nat} {st st' : DSt} (h : DecAt w d f base t e st) (i : Nat) (u : Value) (hc : (st.cells f).set! i u = st'.cells f) (hv : st'.v = st.v) (ho : st'.out = st.out) : DecAt (w.setCell ⟨d, i, none⟩ u) d f base t e st' := by
 refine ⟨?_, ?_, h.dbase, h.fbase, h.ne, by simpa [World.setCell] using h.base_le⟩
 ·have := blk_set h.blk i u
  rw [hc] at this
  exact this
 ·rw [hv, ho]; exact ownsRow_setCell_other h.own (a := ⟨d, i, none⟩) (fun x => h.row_ne.1 x) u
theorem DecAt.cell {w : World} {d f base t e : Nat} {st : DSt} (h : DecAt w d f base t e st) :
  w.cell? ⟨d, 0, none⟩ = some (.pointer (some ⟨f, 0, none⟩)) ∧ w.cell? ⟨d, 1, none⟩ = some st.v ∧ w.cell? ⟨d, 3, none⟩ = some (.int .i64 (st.room : Nat)) ∧ w.cell? ⟨d, 4, none⟩ = some (.int .i64 (st.place : Nat)) ∧ w.cell? ⟨d, 5, none⟩ = some (.bool st.last) ∧ w.cell? ⟨d, 6, none⟩ = some (.int .i64 (st.left : Nat)) ∧
  w.cell? ⟨d, 7, none⟩ = some st.sm ∧ w.cell? ⟨d, 8, none⟩ = some (.int .i64 (st.sl : Nat)) ∧ w.cell? ⟨d, 9, none⟩ = some st.dm ∧ w.cell? ⟨d, 10, none⟩ = some (.int .i64 (st.dl : Nat)) ∧ w.cell? ⟨d, 11, none⟩ = some st.fx ∧ w.cell? ⟨d, 2, none⟩ = some (.int .i64 (st.fresh : Nat)) :=
 ⟨blk_cell h.blk 0 _ rfl, blk_cell h.blk 1 _ rfl, blk_cell h.blk 3 _ rfl, blk_cell h.blk 4 _ rfl, blk_cell h.blk 5 _ rfl, blk_cell h.blk 6 _ rfl, blk_cell h.blk 7 _ rfl, blk_cell h.blk 8 _ rfl, blk_cell h.blk 9 _ rfl, blk_cell h.blk 10 _ rfl, blk_cell h.blk 11 _ rfl, blk_cell h.blk 2 _ rfl⟩
theorem DecAt.free {w : World} {d f base t e : Nat} {st : DSt} (h : DecAt w d f base t e st) (i : Nat) : w.frozen? ⟨d, i, none⟩ = false := blk_free h.blk i
theorem DecAt.vslice {w : World} {d f base t e : Nat} {st : DSt} (h : DecAt w d f base t e st) : ∃ a c, st.v = .slice a st.out.length c := by
 obtain ⟨_, ⟨hv, hn⟩ | ⟨g, cap, _, hv, _⟩⟩ := h.own
 ·exact ⟨none, 0, by rw [hv, hn]⟩
 ·exact ⟨_, _, hv⟩
theorem DecAt.app {w w1 : World} {d f base t e g cap m : Nat} {st : DSt} {xs : List Nat} (h : DecAt w d f base t e st)
  (hown : w1.ownsRow base e 1 (.slice (some ⟨g, 0, none⟩) (st.out.length + m) cap) (st.out.length + m) (u8s st.out ++ u8s xs)) (hm : xs.length = m) (hgr : w.grownBy w1 st.v.ownBlock) (hg : st.v.ownBlock = some g ∨ w.heap.size ≤ g) :
  w1.heap[d]? = some (.cells (st.cells f) t (0, 0)) ∧
  DecAt (w1.setCell ⟨d, 1, none⟩ (.slice (some ⟨g, 0, none⟩) (st.out.length + m) cap)) d f base t e { st with v := .slice (some ⟨g, 0, none⟩) (st.out.length + m) cap, out := st.out ++ xs } ∧
  Wrt d w st.v (w1.setCell ⟨d, 1, none⟩ (.slice (some ⟨g, 0, none⟩) (st.out.length + m) cap)) (.slice (some ⟨g, 0, none⟩) (st.out.length + m) cap) := by
 have hd := h.dbase
 have hgb : base ≤ g := (hown.lt g rfl).1
 have hb1 : w1.heap[d]? = _ := (hgr.block d (lt_of_block h.blk) (fun x => h.row_ne.1 x.symm)).trans h.blk
 refine ⟨hb1, ⟨?_, ?_, h.dbase, h.fbase, h.ne, ?_⟩, ⟨?_, ?_⟩⟩
 ·have := blk_set hb1 1 (.slice (some ⟨g, 0, none⟩) (st.out.length + m) cap)
  simpa [DSt.cells] using this
 ·have ho := ownsRow_setCell_other hown (a := ⟨d, 1, none⟩) (by simp [Value.ownBlock]; omega) (.slice (some ⟨g, 0, none⟩) (st.out.length + m) cap)
  have e1 : (st.out ++ xs).length = st.out.length + m := by rw [List.length_append, hm]
  have e2 : u8s (st.out ++ xs) = u8s st.out ++ u8s xs := by simp [u8s]
  show World.ownsRow _ _ _ _ _ (st.out ++ xs).length (u8s (st.out ++ xs))
  rw [e1, e2]
  exact ho
 ·have := h.base_le; have := hgr.size; simp [World.setCell]; omega
 ·refine Step.setCell ((Step.refl _ w).grown hgr fun k hk => .inl (.inr hk)) ?_ _
  exact .inl rfl
 ·intro k hk
  simp only [Value.ownBlock, Option.some.injEq] at hk
  subst hk
  exact hg
theorem Dst.of_wrt {d f : Nat} {w w' : World} {v v' : Value} (h : Wrt d w v w' v') : Dst d f w v w' v' := ⟨h.step.mono fun _k hk => hk.elim .inl fun x => .inr (.inr x), h.own⟩
structure On (w : World) (d f base g off cap z td tf e : Nat) (B : List Nat) (st : DSt) (p : Nat) : Prop where
 dec : DecAt w d f base td e st
 feed : w.heap[f]? = some (.cells #[.slice (fedA g off B.length) B.length cap, .int .i64 (p : Nat), .int .i64 (z : Nat)] tf (0, 0))
 src : Src w g off B
 goff : DOff d f st.v g
 glt : g < w.heap.size
theorem On.fed {w w' : World} {d f base g off cap z td tf e : Nat} {B : List Nat} {st : DSt} {p p' : Nat} (h : On w d f base g off cap z td tf e B st p) (hf : Fed f w w' p') : On w' d f base g off cap z td tf e B st p' :=
 ⟨h.dec.fed hf, hf.feed _ _ _ _ h.feed, h.src.step hf.step h.goff.f, h.goff, Nat.lt_of_lt_of_le h.glt hf.step.size⟩
theorem On.step0 {w w' : World} {d f base g off cap z td tf e : Nat} {B : List Nat} {st : DSt} {p : Nat} (h : On w d f base g off cap z td tf e B st p) (hf : Step (fun _ => False) w w') : On w' d f base g off cap z td tf e B st p :=
 ⟨h.dec.step0 hf, hf.at_ h.feed (fun x => x), h.src.step hf (fun x => x), h.goff, Nat.lt_of_lt_of_le h.glt hf.size⟩
theorem On.set {w : World} {d f base g off cap z td tf e : Nat} {B : List Nat} {st st' : DSt} {p : Nat} (h : On w d f base g off cap z td tf e B st p) (i : Nat) (u : Value) (hc : (st.cells f).set! i u = st'.cells f) (hv : st'.v = st.v) (ho : st'.out = st.out) :
  On (w.setCell ⟨d, i, none⟩ u) d f base g off cap z td tf e B st' p :=
 ⟨h.dec.set i u hc hv ho, (Below.heap_setCell _ _ _ _ (fun x => h.dec.ne x.symm)).trans h.feed, h.src.step ((Step.refl (· = d) w).setCell (p := ⟨d, i, none⟩) rfl u) h.goff.d, by rw [hv]; exact h.goff, by simpa [World.setCell] using h.glt⟩
theorem On.put {w w' : World} {d f base g off cap z td tf e : Nat} {B : List Nat} {st st' : DSt} {p : Nat} (h : On w d f base g off cap z td tf e B st p) (hd : DecAt w' d f base td e st') (hw : Wrt d w st.v w' st'.v) :
  On w' d f base g off cap z td tf e B st' p :=
 ⟨hd, hw.step.at_ h.feed (fun x => x.elim (fun y => h.dec.ne y.symm) h.dec.row_ne.2), h.src.step hw.step (fun x => x.elim h.goff.d h.goff.row),
  h.goff.step h.glt (Dst.of_wrt hw), Nat.lt_of_lt_of_le h.glt hw.step.size⟩
end Go.Bel
namespace Go.Proofs.YtbpahojchgpdnaaGreatDoor
open Go.RowKit Go.Bel
abbrev Dec (w : World) (d f base : Nat) (st : DSt) : Prop := DecAt w d f base 128 5 st
def Lies (w : World) (k off : Nat) (xs : List Nat) : Prop := ∀ i : Nat, i < xs.length → w.cell? ⟨k, off + i, none⟩ = some (.int .u8 (xs[i]?.getD 0 : Nat))
theorem Lies.news {w : World} {k off : Nat} {xs : List Nat} (h : Lies w k off xs) : ∀ j u, (u8s xs)[j]? = some u → w.cell? ((⟨k, off, none⟩ : Addr).add j) = some u := by
 intro j u hu
 have hj : j < xs.length := by
  rcases Nat.lt_or_ge j xs.length with h1 | h1
  ·exact h1
  ·rw [List.getElem?_eq_none (by simpa using h1)] at hu; cases hu
 rw [u8s_get xs j hj] at hu
 cases hu
 have h2 := h j hj
 have hadd : (⟨k, off, none⟩ : Addr).add j = ⟨k, off + j, none⟩ := by unfold Addr.add; split <;> simp_all
 rw [hadd]
 exact h2
theorem Lies.take {w : World} {k off : Nat} {xs : List Nat} (h : Lies w k off xs) (r : Nat) : Lies w k off (xs.take r) := fun i hi => by
 have h1 : i < xs.length := by simp at hi; omega
 have h2 : i < r := by simp at hi; omega
 rw [h i h1, List.getElem?_take_of_lt h2]
theorem u8s_one (xs : List Nat) : ∀ u ∈ u8s xs, u.oneCell' = true := by
 intro u hu
 simp only [u8s, List.mem_map] at hu
 obtain ⟨c, _, rfl⟩ := hu
 rfl
theorem put_end {w w1 : World} {d f base : Nat} {st : DSt} {v' : Value} {xs : List Nat} {n : Nat} (h1 : Dec w1 d f base { st with v := v', out := st.out ++ xs }) (h2 : Wrt d w st.v w1 v') (hx : xs.length ≤ st.room) (F R : Int) (hF : F = (st.fresh : Int) + (xs.length : Int)) (hR : R = (st.room : Int) - (xs.length : Int)) :
  Dec (((w1.setCell ⟨d, 2, none⟩ (.int .i64 F)).setCell ⟨d, 3, none⟩ (.int .i64 R)).drewN n) d f base (st.add v' xs) ∧ Wrt d w st.v (((w1.setCell ⟨d, 2, none⟩ (.int .i64 F)).setCell ⟨d, 3, none⟩ (.int .i64 R)).drewN n) v' := by
 have eF : F = ((st.fresh + xs.length : Nat) : Int) := by omega
 have eR : R = ((st.room - xs.length : Nat) : Int) := by omega
 rw [eF, eR]
 have a1 := h1.set (st' := { st with v := v', out := st.out ++ xs, fresh := st.fresh + xs.length }) 2 (.int .i64 ((st.fresh + xs.length : Nat) : Int)) (by simp [DSt.cells]) rfl rfl
 have a2 := a1.set (st' := st.add v' xs) 3 (.int .i64 ((st.room - xs.length : Nat) : Int)) (by simp [DSt.cells, DSt.add]) rfl rfl
 refine ⟨a2.other rfl (fun _ _ => rfl) (Nat.le_refl _), ⟨((h2.step.setCell (p := ⟨d, 2, none⟩) (.inl rfl) _).setCell (p := ⟨d, 3, none⟩) (.inl rfl) _).drewN n, h2.own⟩⟩
theorem put_room (d f base cap k off m : Nat) (xs : List Nat) (st : DSt) (w : World) (h : Dec w d f base st) (hx : Lies w k off xs) (hxm : xs.length = m) (hm1 : 1 ≤ m) (hm2 : m ≤ 1000000) (hcap : m ≤ cap) (hroom : m ≤ st.room) (hk : Small st) :
  Calls Tryz.prog 190 #[.pointer (some ⟨d, 1, none⟩), .slice (some ⟨k, off, none⟩) m cap] w
   fun e w' => e = .returned (.int .i64 0) ∧ ∃ v', Dec w' d f base (st.add v' xs) ∧ Wrt d w st.v w' v' := by
 obtain ⟨_, c1, c2, _, _, _, _, _, _, _, _, c3⟩ := h.cell
 have f1 := h.free 1
 obtain ⟨va, vc, hv⟩ := h.vslice
 have hown := h.own
 rw [hv] at c1 hown
 have hbase := h.base_le
 obtain ⟨i0, hi, hz0, hz1, hz2⟩ := info_parts Tryz.info5
 have hlo := hk.out
 have hfr := hk.fresh
 have hro := hk.room
 obtain ⟨fr, hfrr⟩ : ∃ fr, fr = st.fresh := ⟨_, rfl⟩
 obtain ⟨ro, hroo⟩ : ∃ ro, ro = st.room := ⟨_, rfl⟩
 rw [← hfrr] at c3 hfr
 rw [← hroo] at c2 hro hroom
 have hcmp : (m : Int) ≤ (ro : Int) := by omega
 have hr0i : (0 : Int) ≤ (m : Int) := by omega
 have hrci : (m : Int) ≤ (cap : Int) := by omega
 have HX := hide (show Lies w k off xs from hx)
 have hxl : xs.length = m := by exact hxm
 have HM := hide hxl
 have hfin := fun w1 v' n (h1 : Dec w1 d f base { st with v := v', out := st.out ++ xs }) (h2 : Wrt d w st.v w1 v') => put_end (n := n) h1 h2 (xs := xs) (by rw [hxl, ← hroo]; omega) ((fr : Int) + (m : Int)) ((ro : Int) - (m : Int)) (by rw [hxl, hfrr]) (by rw [hxl, hroo])
 have HFIN := hide hfin
 have HH := hide h
 have HV := hide hv
 have HW := hide hown
 have HFR := hide hfrr
 have HRO := hide hroo
 clear h hv hown hx hxm hk hfrr hroo hxl hfin
 go_enter Tryz.func190, Tryz.ntmps190
 go_wp2
 go_region_law (refine step_append_lies _ rfl (.tmp 17) (.tmp 20) 31 rfl base 5 i0 (.int .u8 0) 1 1 Tryz.underlying31 hi hz0 hz1 hz2 rfl (by decide) (.slice va st.out.length vc) st.out.length (u8s st.out) (by simp [Act.eval]) (by exact unhide HW) ⟨k, off, none⟩ m cap (u8s xs) (by simp [Act.eval]) (by rw [List.length_map, unhide HM, Nat.mul_one]) (by exact (unhide HX).news) (u8s_one _) (by omega) (by unfold maxLen; omega) (by omega) hbase _ rfl ?_; intro g cap' w1 hown' hgr hg hgl; have hgr' : w.grownBy w1 st.v.ownBlock := (by rw [unhide HV]; exact ⟨hgr.os, hgr.tape, hgr.output, hgr.size, hgr.block⟩); obtain ⟨hb1, hdec, hdst⟩ := (unhide HH).app (xs := xs) (m := m) hown' (unhide HM) hgr' (by rw [unhide HV]; exact hg.imp id (fun hx => Nat.le_of_eq hx.symm)); have k1 := blk_cell hb1 1 _ rfl; have kf1 := blk_free hb1 1; have k2 := (show w1.cell? ⟨d, 2, none⟩ = some (.int .i64 (fr : Nat)) from by rw [unhide HFR]; exact blk_cell hb1 2 _ rfl); have kf2 := blk_free hb1 2; have k3 := (show w1.cell? ⟨d, 3, none⟩ = some (.int .i64 (ro : Nat)) from by rw [unhide HRO]; exact blk_cell hb1 3 _ rfl); have kf3 := blk_free hb1 3; have H1 := hide hdec; have H2 := hide hdst; clear hown' hgr hgr' hg hb1 hdec hdst)
 go_wp2
 go_ret
 have h9 := unhide HFIN _ _ 0 (unhide H1) (unhide H2)
 rw [World.drewN_zero] at h9
 exact ⟨rfl, _, h9⟩
theorem put_part (d f base cap k off m : Nat) (xs : List Nat) (st : DSt) (w : World) (h : Dec w d f base st) (hx : Lies w k off xs) (hxm : xs.length = m) (hm2 : m ≤ 1000000) (hcap : m ≤ cap) (hr1 : 1 ≤ st.room) (hroom : st.room < m) (hk : Small st) :
  Calls Tryz.prog 190 #[.pointer (some ⟨d, 1, none⟩), .slice (some ⟨k, off, none⟩) m cap] w
   fun e w' => e = .returned (.int .i64 11) ∧ ∃ v', Dec w' d f base (st.add v' (xs.take st.room)) ∧ Wrt d w st.v w' v' := by
 obtain ⟨_, c1, c2, _, _, _, _, _, _, _, _, c3⟩ := h.cell
 have f1 := h.free 1
 obtain ⟨va, vc, hv⟩ := h.vslice
 have hown := h.own
 rw [hv] at c1 hown
 have hbase := h.base_le
 obtain ⟨i0, hi, hz0, hz1, hz2⟩ := info_parts Tryz.info5
 have hlo := hk.out
 have hfr := hk.fresh
 have hro := hk.room
 obtain ⟨fr, hfrr⟩ : ∃ fr, fr = st.fresh := ⟨_, rfl⟩
 obtain ⟨ro, hroo⟩ : ∃ ro, ro = st.room := ⟨_, rfl⟩
 rw [← hfrr] at c3 hfr
 rw [← hroo] at c2 hro hroom
 rw [← hroo] at hr1
 have hcmp : (ro : Int) < (m : Int) := by omega
 have hr0i : (0 : Int) ≤ (ro : Int) := by omega
 have hrci : (ro : Int) ≤ (cap : Int) := by omega
 have HX := hide (show Lies w k off (xs.take ro) from hx.take ro)
 have hxl : (xs.take ro).length = ro := by rw [List.length_take, hxm]; omega
 have HM := hide hxl
 have hfin := fun w1 v' n (h1 : Dec w1 d f base { st with v := v', out := st.out ++ xs.take ro }) (h2 : Wrt d w st.v w1 v') => put_end (n := n) h1 h2 (xs := xs.take ro) (by rw [hxl, ← hroo]; omega) ((fr : Int) + (ro : Int)) 0 (by rw [hxl, hfrr]) (by rw [hxl, ← hroo]; omega)
 have HFIN := hide hfin
 have HH := hide h
 have HV := hide hv
 have HW := hide hown
 have HFR := hide hfrr
 have HRO := hide hroo
 clear h hv hown hx hxm hk hfrr hroo hxl hfin
 go_enter Tryz.func190, Tryz.ntmps190
 go_wp2
 go_region_law (refine step_append_lies _ rfl (.tmp 17) (.tmp 20) 31 rfl base 5 i0 (.int .u8 0) 1 1 Tryz.underlying31 hi hz0 hz1 hz2 rfl (by decide) (.slice va st.out.length vc) st.out.length (u8s st.out) (by simp [Act.eval]) (by exact unhide HW) ⟨k, off, none⟩ ro cap (u8s (xs.take ro)) (by simp [Act.eval]) (by rw [List.length_map, unhide HM, Nat.mul_one]) (by exact (unhide HX).news) (u8s_one _) (by omega) (by unfold maxLen; omega) (by omega) hbase _ rfl ?_; intro g cap' w1 hown' hgr hg hgl; have hgr' : w.grownBy w1 st.v.ownBlock := (by rw [unhide HV]; exact ⟨hgr.os, hgr.tape, hgr.output, hgr.size, hgr.block⟩); obtain ⟨hb1, hdec, hdst⟩ := (unhide HH).app (xs := xs.take ro) (m := ro) hown' (unhide HM) hgr' (by rw [unhide HV]; exact hg.imp id (fun hx => Nat.le_of_eq hx.symm)); have k1 := blk_cell hb1 1 _ rfl; have kf1 := blk_free hb1 1; have k2 := (show w1.cell? ⟨d, 2, none⟩ = some (.int .i64 (fr : Nat)) from by rw [unhide HFR]; exact blk_cell hb1 2 _ rfl); have kf2 := blk_free hb1 2; have k3 := (show w1.cell? ⟨d, 3, none⟩ = some (.int .i64 (ro : Nat)) from by rw [unhide HRO]; exact blk_cell hb1 3 _ rfl); have kf3 := blk_free hb1 3; have H1 := hide hdec; have H2 := hide hdst; clear hown' hgr hgr' hg hb1 hdec hdst)
 go_wp2
 go_ret
 have h9 := unhide HFIN _ _ 0 (unhide H1) (unhide H2)
 rw [World.drewN_zero] at h9
 refine ⟨rfl, .slice (some ⟨g, 0, none⟩) (st.out.length + ro) cap', ?_⟩
 rw [← unhide HRO]
 exact h9
theorem put_full (d f base cap k off m : Nat) (st : DSt) (w : World) (h : Dec w d f base st) (hm1 : 1 ≤ m) (hm2 : m ≤ 1000000) (hcap : m ≤ cap) (hroom : st.room = 0) (hk : Small st) :
  Calls Tryz.prog 190 #[.pointer (some ⟨d, 1, none⟩), .slice (some ⟨k, off, none⟩) m cap] w
   fun e w' => e = .returned (.int .i64 11) ∧ Dec w' d f base st ∧ Wrt d w st.v w' st.v := by
 obtain ⟨_, c1, c2, _, _, _, _, _, _, _, _, c3⟩ := h.cell
 have f1 := h.free 1
 have f2 := h.free 2
 have f3 := h.free 3
 have hfr := hk.fresh
 have hlo := hk.out
 have hfin : ∀ n, Dec ((((w.setCell ⟨d, 1, none⟩ st.v).setCell ⟨d, 2, none⟩ (.int .i64 (st.fresh : Nat))).setCell ⟨d, 3, none⟩ (.int .i64 0)).drewN n) d f base st ∧ Wrt d w st.v ((((w.setCell ⟨d, 1, none⟩ st.v).setCell ⟨d, 2, none⟩ (.int .i64 (st.fresh : Nat))).setCell ⟨d, 3, none⟩ (.int .i64 0)).drewN n) st.v := fun n =>
  ⟨(((h.set (st' := st) 1 st.v (by simp [DSt.cells]) rfl rfl).set (st' := st) 2 _ (by simp [DSt.cells]) rfl rfl).set (st' := st) 3 (.int .i64 0) (by simp [DSt.cells, hroom]) rfl rfl).other rfl (fun _ _ => rfl) (Nat.le_refl _), ⟨((((Step.refl _ w).setCell (p := ⟨d, 1, none⟩) (.inl rfl) _).setCell (p := ⟨d, 2, none⟩) (.inl rfl) _).setCell (p := ⟨d, 3, none⟩) (.inl rfl) _).drewN n, fun _ h => .inl h⟩⟩
 have HF := hide hfin
 rw [hroom] at c2
 have hcmp : (0 : Int) < (m : Int) := by omega
 obtain ⟨fr, hfrr⟩ : ∃ fr, fr = st.fresh := ⟨_, rfl⟩
 rw [← hfrr] at c3 hfr HF
 obtain ⟨hl, ⟨hv, hn⟩ | ⟨g, vcap, cur, hv, hg, hh, hnc, hcm, hcs, htk⟩⟩ := h.own
 ·rw [hv] at c1
  have HV := hide hv
  clear h hv hfin hroom hn hk hfrr
  go_enter Tryz.func190, Tryz.ntmps190
  go_wp2
  go_region
  go_wp2
  go_ret
  rw [← unhide HV]
  exact ⟨rfl, unhide HF _⟩
 ·rw [hv] at c1
  have HV := hide hv
  obtain ⟨i0, hi, hz0, hz1, hz2⟩ := info_parts Tryz.info5
  generalize st.out.length = n at *
  clear h hv hfin hroom hl hh hcs htk hk hfrr
  go_enter Tryz.func190, Tryz.ntmps190
  go_wp2
  have hsc : ∀ (W : World) (a b : Nat), W.setCells a b [] = W := fun _ _ _ => rfl
  go_region_law (refine step_append_room rfl (.tmp 17) (.tmp 20) 31 rfl 5 i0 1 Tryz.underlying31 hi hz1 g 0 n vcap (by simp [Act.eval]) ⟨k, off, none⟩ 0 cap [] (by simp [Act.eval]) rfl (by simp) (by simp) (by omega) (by simp) ?_)
  go_wp2
  go_ret
  rw [← unhide HV]
  exact ⟨rfl, unhide HF _⟩
theorem lies_one {w : World} {k c : Nat} (hx : w.cell? ⟨k, 0, none⟩ = some (.int .u8 (c : Nat))) : Lies w k 0 [c] := fun i hi => by
 have : i = 0 := by simp at hi; omega
 subst this
 exact hx
theorem put1_ok (d f base c cap k : Nat) (st : DSt) (w : World) (h : Dec w d f base st) (hx : w.cell? ⟨k, 0, none⟩ = some (.int .u8 (c : Nat))) (hroom : 0 < st.room) (hk : Small st) (hcap : 1 ≤ cap) :
  Calls Tryz.prog 190 #[.pointer (some ⟨d, 1, none⟩), .slice (some ⟨k, 0, none⟩) 1 cap] w
   fun e w' => e = .returned (.int .i64 0) ∧ ∃ v', Dec w' d f base (st.add v' [c]) ∧ Wrt d w st.v w' v' :=
 put_room d f base cap k 0 1 [c] st w h (lies_one hx) rfl (by omega) (by omega) hcap hroom hk
theorem put1_much (d f base cap k : Nat) (st : DSt) (w : World) (h : Dec w d f base st) (hroom : st.room = 0) (hk : Small st) (hcap : 1 ≤ cap) :
  Calls Tryz.prog 190 #[.pointer (some ⟨d, 1, none⟩), .slice (some ⟨k, 0, none⟩) 1 cap] w
   fun e w' => e = .returned (.int .i64 11) ∧ Dec w' d f base st ∧ Wrt d w st.v w' st.v :=
 put_full d f base cap k 0 1 st w h (by omega) (by omega) hcap hroom hk
end Go.Proofs.YtbpahojchgpdnaaGreatDoor
namespace Go.Proofs.YtbpahojchgpdnaaGreatDoor
open Go.RowKit Go.Bel
def _root_.Go.Bel.DSt.ended (st : DSt) : DSt := { st with place := if st.last then 3 else 0 }
def endPos (st : DSt) (p : Nat) : Nat := if st.last then (p + 7) / 8 * 8 else p
abbrev OnD (w : World) (d f base g off cap z : Nat) (B : List Nat) (st : DSt) (p : Nat) : Prop := On w d f base g off cap z 128 91 5 B st p
theorem endBlock_any (d f base g off cap z p : Nat) (B : List Nat) (st : DSt) (w : World) (h : OnD w d f base g off cap z B st p) (hp : p < 4611686018427387000) :
  Calls Tryz.prog 189 #[.pointer (some ⟨d, 0, none⟩)] w
   fun e w' => e = .returned (.int .i64 0) ∧ OnD w' d f base g off cap z B st.ended (endPos st p) ∧ Dst d f w st.v w' st.v := by
 obtain ⟨c0, _, _, c3, c4, _⟩ := h.dec.cell
 have f3 := h.dec.free 4
 have h1 : OnD (w.setCell ⟨d, 4, none⟩ (.int .i64 0)) d f base g off cap z B { st with place := 0 } p := h.set 4 _ rfl rfl rfl
 have HH := hide h
 have H1 := hide h1
 clear h h1
 rcases Bool.eq_false_or_eq_true st.last with hl | hl
 ·rw [hl] at c4
  have HL := hide hl
  clear hl
  go_enter Tryz.func189, Tryz.ntmps189
  go_wp2_with fail
  refine (feedPass_any f p _ _ (unhide H1).feed (by omega)).mono ?_
  rintro e w1 ⟨rfl, hfed⟩
  have h2 := (unhide H1).fed hfed
  obtain ⟨_, _, _, k3, _⟩ := h2.dec.cell
  have kf3 := h2.dec.free 4
  have H2 := hide h2
  have H3 := hide hfed
  clear h2 hfed
  go_wp2_with fail
  go_ret
  refine ⟨rfl, ?_, ?_⟩
  ·rw [DSt.ended, endPos, if_pos (unhide HL), if_pos (unhide HL)]; exact (unhide H2).set 4 _ (by simp [DSt.cells]) rfl rfl
  ·exact ((Dst.setCell d f w st.v 4 _).trans (Dst.fed (unhide H3))).trans (Dst.setCell d f w1 st.v 4 _)
 ·rw [hl] at c4
  have HL := hide hl
  clear hl
  go_enter Tryz.func189, Tryz.ntmps189
  go_wp2_with fail
  go_ret
  refine ⟨rfl, ?_, Dst.setCell d f w st.v 4 _⟩
  have hl : ¬ st.last = true := by rw [unhide HL]; simp
  rw [DSt.ended, endPos, if_neg hl, if_neg hl]
  exact unhide H1
theorem storedByte_end (d f base g off cap z p : Nat) (B : List Nat) (st : DSt) (w : World) (h : OnD w d f base g off cap z B st p) (hp : p < 4611686018427387000) (h0 : st.left = 0) :
  Calls Tryz.prog 173 #[.pointer (some ⟨d, 0, none⟩)] w
   fun e w' => e = .returned (.int .i64 0) ∧ OnD w' d f base g off cap z B st.ended (endPos st p) ∧ Dst d f w st.v w' st.v := by
 obtain ⟨c0, _, _, c3, c4, c5, _⟩ := h.dec.cell
 rw [h0] at c5
 have HH := hide h
 clear h h0
 go_enter Tryz.func173, Tryz.ntmps173
 go_wp2_with fail
 refine (endBlock_any d f base g off cap z p B st w (unhide HH) hp).mono ?_
 rintro e w1 ⟨rfl, h1, h2⟩
 have H1 := hide h1
 have H2 := hide h2
 clear h1 h2
 go_wp2_with fail
 go_ret
 exact ⟨rfl, unhide H1, unhide H2⟩
theorem storedByte_room (d f base g off cap z p : Nat) (B : List Nat) (st : DSt) (w : World) (h : OnD w d f base g off cap z B st p) (hp : p + 8 ≤ 8 * B.length) (h0 : 0 < st.left) (hl : st.left ≤ 65535) (hk : Small st) (hr : 0 < st.room) :
  Calls Tryz.prog 173 #[.pointer (some ⟨d, 0, none⟩)] w
   fun e w' => e = .returned (.int .i64 0) ∧ ∃ v', OnD w' d f base g off cap z B (DSt.add { st with left := st.left - 1 } v' [numAt B p 8]) (p + 8) ∧ Dst d f w st.v w' v' := by
 obtain ⟨c0, _, _, c3, c4, c5, _⟩ := h.dec.cell
 have hnum := numAt_lt B p 8
 have HH := hide h
 have HR := hide hr
 clear h hr
 go_enter Tryz.func173, Tryz.ntmps173
 go_wp2_with fail
 refine (feedNum_ok f g off cap z p 8 B w (unhide HH).feed (unhide HH).src (unhide HH).goff.f (by omega) hp).mono ?_
 rintro e w1 ⟨rfl, hfed⟩
 have h1 := (unhide HH).fed hfed
 obtain ⟨k0, _, _, k3, k4, k5, _⟩ := h1.dec.cell
 have kf5 := h1.dec.free 6
 have HF := hide hfed
 have H1 := hide h1
 clear hfed h1
 obtain ⟨q, hq⟩ : ∃ q, q = numAt B p 8 := ⟨_, rfl⟩
 rw [← hq] at hnum ⊢
 have HQ := hide hq
 clear hq
 go_wp2_with fail
 have h2 : OnD ((w1.setCell ⟨d, 6, none⟩ (.int .i64 ((st.left : Int) - 1))).alloc (.cells #[.int .u8 (q : Nat)] 5)) d f base g off cap z B { st with left := st.left - 1 } (p + 8) := by
  have e : (st.left : Int) - 1 = ((st.left - 1 : Nat) : Int) := by omega
  rw [e]
  exact ((unhide H1).set (st' := { st with left := st.left - 1 }) 6 _ (by simp [DSt.cells]) rfl rfl).step0 ((Step.refl _ _).alloc _)
 have hcq : ((w1.setCell ⟨d, 6, none⟩ (.int .i64 ((st.left : Int) - 1))).alloc (.cells #[.int .u8 (q : Nat)] 5)).cell? ⟨w1.heap.size, 0, none⟩ = some (.int .u8 (q : Nat)) := by
  have := heap_alloc_new (w1.setCell ⟨d, 6, none⟩ (.int .i64 ((st.left : Int) - 1))) (.cells #[.int .u8 (q : Nat)] 5)
  have e : (w1.setCell ⟨d, 6, none⟩ (.int .i64 ((st.left : Int) - 1))).heap.size = w1.heap.size := by simp [World.setCell]
  rw [e] at this
  exact cell_of_one this
 have hd2 : Dst d f w st.v ((w1.setCell ⟨d, 6, none⟩ (.int .i64 ((st.left : Int) - 1))).alloc (.cells #[.int .u8 (q : Nat)] 5)) st.v :=
  ((Dst.fed (unhide HF)).trans (Dst.setCell d f w1 st.v 6 _)).alloc _
 generalize (w1.setCell ⟨d, 6, none⟩ (.int .i64 ((st.left : Int) - 1))).alloc (.cells #[.int .u8 (q : Nat)] 5) = w2 at *
 refine (put1_ok d f base q 1 w1.heap.size _ w2 h2.dec hcq (unhide HR) ⟨hk.room, hk.fresh, hk.out⟩ (by omega)).mono ?_
 rintro e w3 ⟨rfl, v', h3, hw3⟩
 have H4 := hide (h2.put h3 hw3)
 have H5 := hide (hd2.trans (Dst.of_wrt hw3))
 clear h3 hw3 h2 hd2 hcq
 go_wp2_with fail
 go_ret
 exact ⟨rfl, v', by rw [← unhide HQ]; exact unhide H4, unhide H5⟩
theorem storedByte_full (d f base g off cap z p : Nat) (B : List Nat) (st : DSt) (w : World) (h : OnD w d f base g off cap z B st p) (hp : p + 8 ≤ 8 * B.length) (h0 : 0 < st.left) (hl : st.left ≤ 65535) (hk : Small st) (hr : st.room = 0) :
  Calls Tryz.prog 173 #[.pointer (some ⟨d, 0, none⟩)] w
   fun e w' => e = .returned (.int .i64 11) ∧ OnD w' d f base g off cap z B { st with left := st.left - 1 } (p + 8) ∧ Dst d f w st.v w' st.v := by
 obtain ⟨c0, _, _, c3, c4, c5, _⟩ := h.dec.cell
 have hnum := numAt_lt B p 8
 have HH := hide h
 have HR := hide hr
 clear h hr
 go_enter Tryz.func173, Tryz.ntmps173
 go_wp2_with fail
 refine (feedNum_ok f g off cap z p 8 B w (unhide HH).feed (unhide HH).src (unhide HH).goff.f (by omega) hp).mono ?_
 rintro e w1 ⟨rfl, hfed⟩
 have h1 := (unhide HH).fed hfed
 obtain ⟨k0, _, _, k3, k4, k5, _⟩ := h1.dec.cell
 have kf5 := h1.dec.free 6
 have HF := hide hfed
 have H1 := hide h1
 clear hfed h1
 obtain ⟨q, hq⟩ : ∃ q, q = numAt B p 8 := ⟨_, rfl⟩
 rw [← hq] at hnum ⊢
 have HQ := hide hq
 clear hq
 go_wp2_with fail
 have h2 : OnD ((w1.setCell ⟨d, 6, none⟩ (.int .i64 ((st.left : Int) - 1))).alloc (.cells #[.int .u8 (q : Nat)] 5)) d f base g off cap z B { st with left := st.left - 1 } (p + 8) := by
  have e : (st.left : Int) - 1 = ((st.left - 1 : Nat) : Int) := by omega
  rw [e]
  exact ((unhide H1).set (st' := { st with left := st.left - 1 }) 6 _ (by simp [DSt.cells]) rfl rfl).step0 ((Step.refl _ _).alloc _)
 have hcq : ((w1.setCell ⟨d, 6, none⟩ (.int .i64 ((st.left : Int) - 1))).alloc (.cells #[.int .u8 (q : Nat)] 5)).cell? ⟨w1.heap.size, 0, none⟩ = some (.int .u8 (q : Nat)) := by
  have := heap_alloc_new (w1.setCell ⟨d, 6, none⟩ (.int .i64 ((st.left : Int) - 1))) (.cells #[.int .u8 (q : Nat)] 5)
  have e : (w1.setCell ⟨d, 6, none⟩ (.int .i64 ((st.left : Int) - 1))).heap.size = w1.heap.size := by simp [World.setCell]
  rw [e] at this
  exact cell_of_one this
 have hd2 : Dst d f w st.v ((w1.setCell ⟨d, 6, none⟩ (.int .i64 ((st.left : Int) - 1))).alloc (.cells #[.int .u8 (q : Nat)] 5)) st.v :=
  ((Dst.fed (unhide HF)).trans (Dst.setCell d f w1 st.v 6 _)).alloc _
 generalize (w1.setCell ⟨d, 6, none⟩ (.int .i64 ((st.left : Int) - 1))).alloc (.cells #[.int .u8 (q : Nat)] 5) = w2 at *
 refine (put1_much d f base 1 w1.heap.size _ w2 h2.dec (unhide HR) ⟨hk.room, hk.fresh, hk.out⟩ (by omega)).mono ?_
 rintro e w3 ⟨rfl, h3, hw3⟩
 have H4 := hide (h2.put h3 hw3)
 have H5 := hide (hd2.trans (Dst.of_wrt hw3))
 clear h3 hw3 h2 hd2 hcq
 go_wp2_with fail
 go_ret
 exact ⟨rfl, unhide H4, unhide H5⟩
theorem storedHead_ok (d f base g off cap z p q n : Nat) (B : List Nat) (st : DSt) (w : World) (h : OnD w d f base g off cap z B st p) (hq : q = (p + 7) / 8 * 8) (hp : q + 32 ≤ 8 * B.length) (hn : numAt B q 16 = n) (hm : numAt B (q + 16) 16 = 65535 - n) (hn2 : n ≤ 65535) :
  Calls Tryz.prog 193 #[.pointer (some ⟨d, 0, none⟩)] w
   fun e w' => e = .returned (.int .i64 0) ∧ OnD w' d f base g off cap z B { st with left := n, place := 1 } (q + 32) ∧ Dst d f w st.v w' st.v := by
 obtain ⟨c0, _, _, c3, c4, c5, _⟩ := h.dec.cell
 have hmu := h.src.much
 have HH := hide h
 have HQ := hide hq
 have HN := hide hn
 have HM := hide hm
 clear h hn hm hq
 have hpq : p ≤ q := by have := unhide HQ; omega
 go_enter Tryz.func193, Tryz.ntmps193
 go_wp2_with fail
 refine (feedPass_any f p _ w (unhide HH).feed (by omega)).mono ?_
 rintro e w1 ⟨rfl, hf1⟩
 rw [← unhide HQ] at hf1
 have h1 := (unhide HH).fed hf1
 obtain ⟨a0, _⟩ := h1.dec.cell
 have H1 := hide h1
 have HF1 := hide hf1
 clear h1 hf1
 go_wp2_with fail
 refine (feedNum_ok f g off cap z q 16 B w1 (unhide H1).feed (unhide H1).src (unhide H1).goff.f (by omega) (by omega)).mono ?_
 rintro e w2 ⟨rfl, hf2⟩
 rw [unhide HN]
 have h2 := (unhide H1).fed hf2
 obtain ⟨b0, _⟩ := h2.dec.cell
 have H2 := hide h2
 have HF2 := hide hf2
 clear h2 hf2
 go_wp2_with fail
 refine (feedNum_ok f g off cap z (q + 16) 16 B w2 (unhide H2).feed (unhide H2).src (unhide H2).goff.f (by omega) (by omega)).mono ?_
 rintro e w3 ⟨rfl, hf3⟩
 rw [unhide HM]
 have h3 := (unhide H2).fed hf3
 obtain ⟨_, _, _, d3, _, d5, _⟩ := h3.dec.cell
 have df3 := h3.dec.free 4
 have df5 := h3.dec.free 6
 have H3 := hide h3
 have HF3 := hide hf3
 clear h3 hf3
 have hne : (((65535 - n : Nat) : Int) != (65535 : Int) - (n : Int)) = false := by rw [bne_eq_false_iff_eq]; omega
 go_wp2_with fail
 go_ret
 refine ⟨rfl, ?_, ?_⟩
 ·exact ((unhide H3).set (st' := { st with left := n }) 6 _ (by simp [DSt.cells]) rfl rfl).set 4 _ (by simp [DSt.cells]) rfl rfl
 ·exact ((((Dst.fed (unhide HF1)).trans (Dst.fed (unhide HF2))).trans (Dst.fed (unhide HF3))).trans (Dst.setCell d f w3 st.v 6 _)).trans (Dst.setCell d f _ st.v 4 _)
end Go.Proofs.YtbpahojchgpdnaaGreatDoor
namespace Go.Proofs.YtbpahojchgpdnaaGreatDoor
open Go.RowKit Go.Bel Go.Maps
structure Code1 (w : World) (f mb longest : Nat) (M : Tab) (B : List Nat) (p k s : Nat) : Prop where
 tab : TabAt w mb M
 ne : mb ≠ f
 one : 1 ≤ k
 le : k ≤ longest
 most : longest ≤ 15
 there : p + k ≤ 8 * B.length
 is : M (keyAt B p k) = some s
 no : ∀ j, 1 ≤ j → j < k → M (keyAt B p j) = none
theorem read1 (f g off cap z p k mb longest s : Nat) (M : Tab) (B : List Nat) (w : World)
  (hF : w.heap[f]? = some (.cells #[.slice (fedA g off B.length) B.length cap, .int .i64 (p : Nat), .int .i64 (z : Nat)] 91 (0, 0))) (hS : Src w g off B) (hgf : g ≠ f) (h : Code1 w f mb longest M B p k s) (hs : s < 100000) :
  Calls Tryz.prog 191 #[.agg #[.map (some mb), .int .i64 (longest : Nat)], .pointer (some ⟨f, 0, none⟩)] w
   fun e w' => e = .returned (.tuple #[.int .i64 (s : Nat), .int .i64 0]) ∧ Fed f w w' (p + k) :=
 read_ok f g off cap z p k mb longest s M B w hF hS hgf h.tab h.ne h.one h.le h.most h.there h.is h.no hs
theorem symbol_room (d f base g off cap z p k mb c : Nat) (M : Tab) (B : List Nat) (st : DSt) (w : World) (h : OnD w d f base g off cap z B st p) (hsm : st.sm = .map (some mb)) (hcode : Code1 w f mb st.sl M B p k c) (hc : c ≤ 256) (hk : Small st) (hr : 0 < st.room) (hc2 : c < 256) :
  Calls Tryz.prog 174 #[.pointer (some ⟨d, 0, none⟩)] w
   fun e w' => e = .returned (.int .i64 0) ∧ ∃ v', OnD w' d f base g off cap z B (st.add v' [c]) (p + k) ∧ Dst d f w st.v w' v' := by
 obtain ⟨c0, _, _, c3, c4, c5, c6, c7, _⟩ := h.dec.cell
 rw [hsm] at c6
 have hread := read1 f g off cap z p k mb st.sl c M B w.drew h.feed (h.src.step ((Step.refl (fun _ => False) w).drew) (fun x => x)) h.goff.f ⟨hcode.tab.of rfl, hcode.ne, hcode.one, hcode.le, hcode.most, hcode.there, hcode.is, hcode.no⟩ (by omega)
 have HRD := hide hread
 have HH := hide h
 have HR := hide hr
 clear h hr hread hcode hsm
 go_enter Tryz.func174, Tryz.ntmps174
 go_wp2_with fail
 go_region_held3 (fun w' => w'.cell? ⟨d, 0, none⟩ = some (.pointer (some ⟨f, 0, none⟩)) ∧ w'.cell? ⟨d, 7, none⟩ = some (.map (some mb)) ∧ w'.cell? ⟨d, 8, none⟩ = some (.int .i64 (st.sl : Nat))) (go_keep)
  (first | (go_at_call 191; refine (unhide HRD).mono ?_; rintro e w1 ⟨rfl, hfed⟩; have k0 := hfed.step.cell (p := ⟨d, 0, none⟩) c0 (unhide HH).dec.ne; have k6 := hfed.step.cell (p := ⟨d, 7, none⟩) c6 (unhide HH).dec.ne; have k7 := hfed.step.cell (p := ⟨d, 8, none⟩) c7 (unhide HH).dec.ne))
 have h1 := ((unhide HH).step0 ((Step.refl (fun _ => False) w).drew)).fed hfed
 have hd1 : Dst d f w st.v w1 st.v := (Dst.step0 ((Step.refl (fun _ => False) w).drew)).trans (Dst.fed hfed)
 clear hfed k0 k6 k7
 have H1 := hide h1
 have HD1 := hide hd1
 clear h1 hd1
 go_wp2_with fail
 have h2 : OnD (w1.alloc (.cells #[.int .u8 (c : Nat)] 5)) d f base g off cap z B st (p + k) := (unhide H1).step0 ((Step.refl _ _).alloc _)
 have hcq : (w1.alloc (.cells #[.int .u8 (c : Nat)] 5)).cell? ⟨w1.heap.size, 0, none⟩ = some (.int .u8 (c : Nat)) := cell_of_one (heap_alloc_new _ _)
 have hd2 := (unhide HD1).alloc (.cells #[.int .u8 (c : Nat)] 5)
 generalize w1.alloc (.cells #[.int .u8 (c : Nat)] 5) = w2 at *
 refine (put1_ok d f base c 1 w1.heap.size _ w2 h2.dec hcq (unhide HR) ⟨hk.room, hk.fresh, hk.out⟩ (by omega)).mono ?_
 rintro e w3 ⟨rfl, v', h3, hw3⟩
 have H4 := hide (h2.put h3 hw3)
 have H5 := hide (hd2.trans (Dst.of_wrt hw3))
 clear h3 hw3 h2 hd2 hcq
 go_wp2_with fail
 go_ret
 exact ⟨rfl, v', unhide H4, unhide H5⟩
theorem symbol_full (d f base g off cap z p k mb c : Nat) (M : Tab) (B : List Nat) (st : DSt) (w : World) (h : OnD w d f base g off cap z B st p) (hsm : st.sm = .map (some mb)) (hcode : Code1 w f mb st.sl M B p k c) (hc : c ≤ 256) (hk : Small st) (hr : st.room = 0) (hc2 : c < 256) :
  Calls Tryz.prog 174 #[.pointer (some ⟨d, 0, none⟩)] w
   fun e w' => e = .returned (.int .i64 11) ∧ OnD w' d f base g off cap z B st (p + k) ∧ Dst d f w st.v w' st.v := by
 obtain ⟨c0, _, _, c3, c4, c5, c6, c7, _⟩ := h.dec.cell
 rw [hsm] at c6
 have hread := read1 f g off cap z p k mb st.sl c M B w.drew h.feed (h.src.step ((Step.refl (fun _ => False) w).drew) (fun x => x)) h.goff.f ⟨hcode.tab.of rfl, hcode.ne, hcode.one, hcode.le, hcode.most, hcode.there, hcode.is, hcode.no⟩ (by omega)
 have HRD := hide hread
 have HH := hide h
 have HR := hide hr
 clear h hr hread hcode hsm
 go_enter Tryz.func174, Tryz.ntmps174
 go_wp2_with fail
 go_region_held3 (fun w' => w'.cell? ⟨d, 0, none⟩ = some (.pointer (some ⟨f, 0, none⟩)) ∧ w'.cell? ⟨d, 7, none⟩ = some (.map (some mb)) ∧ w'.cell? ⟨d, 8, none⟩ = some (.int .i64 (st.sl : Nat))) (go_keep)
  (first | (go_at_call 191; refine (unhide HRD).mono ?_; rintro e w1 ⟨rfl, hfed⟩; have k0 := hfed.step.cell (p := ⟨d, 0, none⟩) c0 (unhide HH).dec.ne; have k6 := hfed.step.cell (p := ⟨d, 7, none⟩) c6 (unhide HH).dec.ne; have k7 := hfed.step.cell (p := ⟨d, 8, none⟩) c7 (unhide HH).dec.ne))
 have h1 := ((unhide HH).step0 ((Step.refl (fun _ => False) w).drew)).fed hfed
 have hd1 : Dst d f w st.v w1 st.v := (Dst.step0 ((Step.refl (fun _ => False) w).drew)).trans (Dst.fed hfed)
 clear hfed k0 k6 k7
 have H1 := hide h1
 have HD1 := hide hd1
 clear h1 hd1
 go_wp2_with fail
 have h2 : OnD (w1.alloc (.cells #[.int .u8 (c : Nat)] 5)) d f base g off cap z B st (p + k) := (unhide H1).step0 ((Step.refl _ _).alloc _)
 have hcq : (w1.alloc (.cells #[.int .u8 (c : Nat)] 5)).cell? ⟨w1.heap.size, 0, none⟩ = some (.int .u8 (c : Nat)) := cell_of_one (heap_alloc_new _ _)
 have hd2 := (unhide HD1).alloc (.cells #[.int .u8 (c : Nat)] 5)
 generalize w1.alloc (.cells #[.int .u8 (c : Nat)] 5) = w2 at *
 refine (put1_much d f base 1 w1.heap.size _ w2 h2.dec (unhide HR) ⟨hk.room, hk.fresh, hk.out⟩ (by omega)).mono ?_
 rintro e w3 ⟨rfl, h3, hw3⟩
 have H4 := hide (h2.put h3 hw3)
 have H5 := hide (hd2.trans (Dst.of_wrt hw3))
 clear h3 hw3 h2 hd2 hcq
 go_wp2_with fail
 go_ret
 exact ⟨rfl, unhide H4, unhide H5⟩
theorem symbol_end (d f base g off cap z p k mb c : Nat) (M : Tab) (B : List Nat) (st : DSt) (w : World) (h : OnD w d f base g off cap z B st p) (hsm : st.sm = .map (some mb)) (hcode : Code1 w f mb st.sl M B p k c) (_hc : c ≤ 256) (hr : c = 256) :
  Calls Tryz.prog 174 #[.pointer (some ⟨d, 0, none⟩)] w
   fun e w' => e = .returned (.int .i64 0) ∧ OnD w' d f base g off cap z B st.ended (endPos st (p + k)) ∧ Dst d f w st.v w' st.v := by
 obtain ⟨c0, _, _, c3, c4, c5, c6, c7, _⟩ := h.dec.cell
 rw [hsm] at c6
 have hread := read1 f g off cap z p k mb st.sl c M B w.drew h.feed (h.src.step ((Step.refl (fun _ => False) w).drew) (fun x => x)) h.goff.f ⟨hcode.tab.of rfl, hcode.ne, hcode.one, hcode.le, hcode.most, hcode.there, hcode.is, hcode.no⟩ (by omega)
 have hcp : p + k ≤ 8 * B.length := hcode.there
 have hmu := h.src.much
 have HRD := hide hread
 have HH := hide h
 have HR := hide hr
 clear h hr hread hcode hsm
 go_enter Tryz.func174, Tryz.ntmps174
 go_wp2_with fail
 go_region_held3 (fun w' => w'.cell? ⟨d, 0, none⟩ = some (.pointer (some ⟨f, 0, none⟩)) ∧ w'.cell? ⟨d, 7, none⟩ = some (.map (some mb)) ∧ w'.cell? ⟨d, 8, none⟩ = some (.int .i64 (st.sl : Nat))) (go_keep)
  (first | (go_at_call 191; refine (unhide HRD).mono ?_; rintro e w1 ⟨rfl, hfed⟩; have k0 := hfed.step.cell (p := ⟨d, 0, none⟩) c0 (unhide HH).dec.ne; have k6 := hfed.step.cell (p := ⟨d, 7, none⟩) c6 (unhide HH).dec.ne; have k7 := hfed.step.cell (p := ⟨d, 8, none⟩) c7 (unhide HH).dec.ne))
 have hpk := hcp
 have h1 := ((unhide HH).step0 ((Step.refl (fun _ => False) w).drew)).fed hfed
 have hd1 : Dst d f w st.v w1 st.v := (Dst.step0 ((Step.refl (fun _ => False) w).drew)).trans (Dst.fed hfed)
 clear hfed k0 k6 k7
 have H1 := hide h1
 have HD1 := hide hd1
 clear h1 hd1
 have hc6 : ((c : Int) == 256) = true := beq_iff_eq.2 (by have := unhide HR; omega)
 have hc7 : ¬ (c : Int) < 256 := by have := unhide HR; omega
 go_wp2_with fail
 refine (endBlock_any d f base g off cap z (p + k) B st w1 (unhide H1) (by omega)).mono ?_
 rintro e w3 ⟨rfl, h3, hw3⟩
 have H4 := hide h3
 have H5 := hide ((unhide HD1).trans hw3)
 clear h3 hw3
 go_wp2_with fail
 go_ret
 exact ⟨rfl, unhide H4, unhide H5⟩
end Go.Proofs.YtbpahojchgpdnaaGreatDoor
namespace Go.Proofs.YtbpahojchgpdnaaGreatDoor
open Go.RowKit Go.Bel Go.Maps
theorem Tryz.info3 : (Tryz.prog.info? 3).map (fun i => (i.zero, i.size, i.bytes)) = some (some (.int .i64 0), 1, 8) := by kernel_rfl
structure CodeAt (longest : Nat) (M : Tab) (B : List Nat) (p q s : Nat) : Prop where
 lt : p < q
 le : q - p ≤ longest
 there : q ≤ 8 * B.length
 is : M (keyAt B p (q - p)) = some s
 no : ∀ j, 1 ≤ j → j < q - p → M (keyAt B p j) = none
theorem CodeAt.code1 {w : World} {f mb longest : Nat} {M : Tab} {B : List Nat} {p q s : Nat} (h : CodeAt longest M B p q s) (ht : TabAt w mb M) (hf : mb ≠ f) (hl : longest ≤ 15) : Code1 w f mb longest M B p (q - p) s :=
 ⟨ht, hf, by have := h.lt; omega, h.le, hl, by have := h.lt; have := h.there; omega, h.is, h.no⟩
abbrev i64s (L : List Nat) : List Value := L.map fun c => Value.int .i64 (c : Nat)
def lenOfV : Value → Nat | .slice _ n _ => n | _ => 0
end Go.Proofs.YtbpahojchgpdnaaGreatDoor
namespace Go.Bel
open Go Go.RowKit Go.Proofs.YtbpahojchgpdnaaGreatDoor
inductive R (α : Type) where
 | ok (a : α) (q : Nat)
 | no (e : Nat)
 | miss
def rSymF (D : Dealt) (B : List Nat) (p : Nat) : Nat → Nat → R Nat
 | 0, _ => .no 9
 | r + 1, j => if p + j < 8 * B.length then (match D.tab (keyAt B p (j + 1)) with | some s => .ok s (p + (j + 1)) | none => rSymF D B p r (j + 1)) else .miss
def rSym (D : Dealt) (B : List Nat) (p : Nat) : R Nat := rSymF D B p D.longest 0
def rLens (B : List Nat) (q s : Nat) (row : List Nat) : R (Nat × Nat) :=
 if s < 16 then .ok (s, 1) q
 else if s = 16 then (if q + 2 ≤ 8 * B.length then .ok (row[row.length - 1]?.getD 0, numAt B q 2 + 3) (q + 2) else .miss)
 else if s = 17 then (if q + 3 ≤ 8 * B.length then .ok (0, numAt B q 3 + 3) (q + 3) else .miss)
 else (if q + 7 ≤ 8 * B.length then .ok (0, numAt B q 7 + 11) (q + 7) else .miss)
def rRowF (D : Dealt) (B : List Nat) (n : Nat) : Nat → Nat → List Nat → R (List Nat)
 | 0, p, row => .ok row p
 | k + 1, p, row =>
  if n ≤ row.length then .ok row p else
  match rSym D B p with
  | .no e => .no e
  | .miss => .miss
  | .ok s q =>
   if s = 16 ∧ row.length = 0 then .no 8 else
   match rLens B q s row with
   | .no e => .no e
   | .miss => .miss
   | .ok lt q' => if n < row.length + lt.2 then .no 8 else rRowF D B n k q' (row ++ List.replicate lt.2 lt.1)
def rRow (D : Dealt) (B : List Nat) (n p : Nat) : R (List Nat) := rRowF D B n n p []
def farB (L : List Nat) : Bool := cntTo L L.length == 0 || mayB L
def rDealt (row : List Nat) (a q : Nat) : R (List Nat × List Nat) :=
 if 0 < row[256]?.getD 0 ∧ mayB (row.take a) = true ∧ farB (row.drop a) = true then .ok (row.take a, row.drop a) q else .no 7
def rCoding (B : List Nat) (p : Nat) : R (List Nat × List Nat) :=
 if p + 14 ≤ 8 * B.length then
  let a := numAt B p 5 + 257
  let b := numAt B (p + 5) 5 + 1
  let c := numAt B (p + 10) 4 + 4
  if 286 < a ∨ 30 < b then .no 7
  else if p + 14 + 3 * c ≤ 8 * B.length then
   (if mayB (firstLens B (p + 14) c) = true then
    (match rRow (dealAll (firstLens B (p + 14) c)) B (a + b) (p + 14 + 3 * c) with
    | .ok row q => rDealt row a q
    | .no e => .no e
    | .miss => .miss)
   else .no 7)
  else .miss
 else .miss
structure GS where
 out : List Nat
 most : Nat
 place : Nat
 last : Bool
 left : Nat
 ls : List Nat
 ld : List Nat
 p : Nat
 taken : Nat := 0
def GS.ended (s : GS) (p : Nat) : GS := { s with place := if s.last then 3 else 0, p := if s.last then (p + 7) / 8 * 8 else p }
inductive G where
 | go (s : GS)
 | no (e : Nat) (out : List Nat)
 | miss
def fixLensG : List Nat := List.replicate 144 8 ++ List.replicate 112 9 ++ List.replicate 24 7 ++ List.replicate 8 8
def fixDist : List Nat := List.replicate 32 5
def gPut (s : GS) (xs : List Nat) (p : Nat) : G :=
 if s.out.length + xs.length ≤ s.most then .go { s with out := s.out ++ xs, p := p } else .no 11 (s.out ++ xs.take (s.most - s.out.length))
def gHead (B : List Nat) (s : GS) : G :=
 if s.p + 3 ≤ 8 * B.length then
  if numAt B (s.p + 1) 2 = 0 then
   (if (s.p + 3 + 7) / 8 * 8 + 32 ≤ 8 * B.length then
    (if numAt B ((s.p + 3 + 7) / 8 * 8 + 16) 16 = 65535 - numAt B ((s.p + 3 + 7) / 8 * 8) 16 then
     .go { s with last := bitAt B s.p == 1, left := numAt B ((s.p + 3 + 7) / 8 * 8) 16, place := 1, p := (s.p + 3 + 7) / 8 * 8 + 32 }
    else .no 6 s.out)
   else .miss)
  else if numAt B (s.p + 1) 2 = 1 then .go { s with last := bitAt B s.p == 1, place := 2, ls := fixLensG, ld := fixDist, p := s.p + 3 }
  else if numAt B (s.p + 1) 2 = 2 then
   (match rCoding B (s.p + 3) with
   | .ok ab q => .go { s with last := bitAt B s.p == 1, place := 2, ls := ab.1, ld := ab.2, p := q }
   | .no e => .no e s.out
   | .miss => .miss)
  else .no 5 s.out
 else .miss
def gByte (B : List Nat) (s : GS) : G :=
 if s.left = 0 then .go (s.ended s.p)
 else if s.p + 8 ≤ 8 * B.length then gPut { s with left := s.left - 1 } [numAt B s.p 8] (s.p + 8) else .miss
def rLength (B : List Nat) (q c : Nat) : R Nat :=
 if 285 < c then .no 9
 else if c = 285 then .ok 258 q
 else if c < 265 then .ok (c - 257 + 3) q
 else if q + (c - 261) / 4 ≤ 8 * B.length then .ok ((4 + (c - 265) % 4) * 2 ^ ((c - 261) / 4) + 3 + numAt B q ((c - 261) / 4)) (q + (c - 261) / 4)
 else .miss
def rDist (D : Dealt) (B : List Nat) (q : Nat) : R Nat :=
 match rSym D B q with
 | .no e => .no e
 | .miss => .miss
 | .ok s q' =>
  if 30 ≤ s then .no 9
  else if s < 4 then .ok (s + 1) q'
  else if q' + (s / 2 - 1) ≤ 8 * B.length then .ok ((2 + s % 2) * 2 ^ (s / 2 - 1) + 1 + numAt B q' (s / 2 - 1)) (q' + (s / 2 - 1))
  else .miss
def copied (out : List Nat) (dist len : Nat) : List Nat := (List.range len).map fun i => out[out.length - dist + i % dist]?.getD 0
def gCopy (B : List Nat) (s : GS) (c q : Nat) : G :=
 match rLength B q c with
 | .no e => .no e s.out
 | .miss => .miss
 | .ok n q1 =>
  match rDist (dealAll s.ld) B q1 with
  | .no e => .no e s.out
  | .miss => .miss
  | .ok dist q2 => if s.out.length < dist then .no 10 s.out else gPut s (copied s.out dist n) q2
def gSym (B : List Nat) (s : GS) : G :=
 match rSym (dealAll s.ls) B s.p with
 | .no e => .no e s.out
 | .miss => .miss
 | .ok c q => if c < 256 then gPut s [c] q else if c = 256 then .go (s.ended q) else gCopy B s c q
def gStep (B : List Nat) (s : GS) : G := if s.place = 1 then gByte B s else if s.place = 2 then gSym B s else gHead B s
inductive GRun (B : List Nat) : Nat → GS → Nat → List Nat → Nat → Prop
 | done (s : GS) (h : s.place = 3) : GRun B 0 s 0 s.out s.p
 | no (s : GS) (e : Nat) (out : List Nat) (h3 : s.place ≠ 3) (h : gStep B s = .no e out) : GRun B 1 s e out 0
 | miss (s : GS) (h3 : s.place ≠ 3) (h : gStep B s = .miss) : GRun B 1 s 3 s.out 0
 | go (n : Nat) (s s1 : GS) (e : Nat) (out : List Nat) (q : Nat) (h3 : s.place ≠ 3) (h : gStep B s = .go s1) (k : GRun B n s1 e out q) : GRun B (n + 1) s e out q
theorem rSymF_ok (D : Dealt) (B : List Nat) (p : Nat) : ∀ r j s q, rSymF D B p r j = .ok s q → p + j < q ∧ q ≤ 8 * B.length ∧ q ≤ p + j + r ∧ D.tab (keyAt B p (q - p)) = some s := by
 intro r
 induction r with
 | zero => intro j s q h; simp [rSymF] at h
 | succ r ih =>
  intro j s q h
  rw [rSymF] at h
  split at h
  ·rename_i hlt
   split at h
   ·rename_i s' hs
    simp only [R.ok.injEq] at h
    obtain ⟨rfl, rfl⟩ := h
    refine ⟨by omega, by omega, by omega, ?_⟩
    rw [show p + (j + 1) - p = j + 1 by omega]; exact hs
   ·have := ih (j + 1) s q h
    exact ⟨by omega, by omega, by omega, this.2.2.2⟩
  ·simp at h
theorem rSym_ok {D : Dealt} {B : List Nat} {p s q : Nat} (h : rSym D B p = .ok s q) : p < q ∧ q ≤ 8 * B.length ∧ q ≤ p + D.longest ∧ D.tab (keyAt B p (q - p)) = some s := by
 have := rSymF_ok D B p D.longest 0 s q h
 exact ⟨by omega, by omega, by omega, this.2.2.2⟩
theorem rLens_ok {B : List Nat} {q s : Nat} {row : List Nat} {lt : Nat × Nat} {q' : Nat} (h : rLens B q s row = .ok lt q') (hq : q ≤ 8 * B.length) : q ≤ q' ∧ q' ≤ 8 * B.length ∧ 1 ≤ lt.2 := by
 unfold rLens at h
 split at h
 ·simp only [R.ok.injEq] at h; obtain ⟨rfl, rfl⟩ := h; exact ⟨Nat.le_refl _, hq, Nat.le_refl _⟩
 ·split at h
  ·split at h
   ·simp only [R.ok.injEq] at h; obtain ⟨rfl, rfl⟩ := h; exact ⟨by omega, by omega, by simp⟩
   ·simp at h
  ·split at h
   ·split at h
    ·simp only [R.ok.injEq] at h; obtain ⟨rfl, rfl⟩ := h; exact ⟨by omega, by omega, by simp⟩
    ·simp at h
   ·split at h
    ·simp only [R.ok.injEq] at h; obtain ⟨rfl, rfl⟩ := h; exact ⟨by omega, by omega, by simp⟩
    ·simp at h
theorem rRowF_ok (D : Dealt) (B : List Nat) (n : Nat) : ∀ k p row r q, p ≤ 8 * B.length → rRowF D B n k p row = .ok r q → p ≤ q ∧ q ≤ 8 * B.length := by
 intro k
 induction k with
 | zero => intro p row r q hp h; simp only [rRowF, R.ok.injEq] at h; obtain ⟨rfl, rfl⟩ := h; exact ⟨Nat.le_refl _, hp⟩
 | succ k ih =>
  intro p row r q hp h
  rw [rRowF] at h
  split at h
  ·simp only [R.ok.injEq] at h; obtain ⟨rfl, rfl⟩ := h; exact ⟨Nat.le_refl _, hp⟩
  ·split at h
   ·simp at h
   ·simp at h
   ·rename_i s q1 hs
    have h1 := rSym_ok hs
    split at h
    ·simp at h
    ·split at h
     ·simp at h
     ·simp at h
     ·rename_i lt q2 hl
      have h2 := rLens_ok hl (by omega)
      split at h
      ·simp at h
      ·have := ih _ _ _ _ (by omega) h
       exact ⟨by omega, this.2⟩
theorem rCoding_ok {B : List Nat} {p : Nat} {ab : List Nat × List Nat} {q : Nat} (h : rCoding B p = .ok ab q) : p < q ∧ q ≤ 8 * B.length := by
 unfold rCoding at h
 split at h
 ·dsimp only at h
  split at h
  ·simp at h
  ·split at h
   ·split at h
    ·split at h
     ·rename_i row q1 hr
      have h1 := rRowF_ok _ _ _ _ _ _ _ _ (by omega) hr
      unfold rDealt at h
      split at h
      ·simp only [R.ok.injEq] at h; obtain ⟨_, rfl⟩ := h; exact ⟨by omega, by omega⟩
      ·simp at h
     ·simp at h
     ·simp at h
    ·simp at h
   ·simp at h
 ·simp at h
theorem rLength_ok {B : List Nat} {q c n q' : Nat} (h : rLength B q c = .ok n q') (hq : q ≤ 8 * B.length) : q ≤ q' ∧ q' ≤ 8 * B.length := by
 unfold rLength at h
 split at h
 ·simp at h
 ·split at h
  ·simp only [R.ok.injEq] at h; obtain ⟨_, rfl⟩ := h; exact ⟨by omega, by omega⟩
  ·split at h
   ·simp only [R.ok.injEq] at h; obtain ⟨_, rfl⟩ := h; exact ⟨by omega, by omega⟩
   ·split at h
    ·simp only [R.ok.injEq] at h; obtain ⟨_, rfl⟩ := h; exact ⟨by omega, by omega⟩
    ·simp at h
theorem rDist_ok {D : Dealt} {B : List Nat} {q n q' : Nat} (h : rDist D B q = .ok n q') : q ≤ q' ∧ q' ≤ 8 * B.length := by
 unfold rDist at h
 split at h
 ·simp at h
 ·simp at h
 ·rename_i s q1 hs
  have h1 := rSym_ok hs
  split at h
  ·simp at h
  ·split at h
   ·simp only [R.ok.injEq] at h; obtain ⟨_, rfl⟩ := h; exact ⟨by omega, by omega⟩
   ·split at h
    ·simp only [R.ok.injEq] at h; obtain ⟨_, rfl⟩ := h; exact ⟨by omega, by omega⟩
    ·simp at h
def gLeft (B : List Nat) (s : GS) : Nat := 2 * (8 * B.length - s.p) + (if s.place = 1 then 1 else 0)
theorem ended_facts (s : GS) (p n : Nat) (h : p ≤ 8 * n) : p ≤ (s.ended p).p ∧ (s.ended p).p ≤ 8 * n ∧ (s.ended p).place ≠ 1 := by
 unfold GS.ended
 dsimp only
 split <;> refine ⟨by omega, by omega, by omega⟩
theorem gPut_go {s s' : GS} {xs : List Nat} {p : Nat} (h : gPut s xs p = .go s') : s' = { s with out := s.out ++ xs, p := p } ∧ s.out.length + xs.length ≤ s.most := by
 unfold gPut at h
 split at h
 ·simp only [G.go.injEq] at h; exact ⟨h.symm, by omega⟩
 ·simp at h
theorem gStep_less {B : List Nat} {s s' : GS} (hp : s.p ≤ 8 * B.length) (h : gStep B s = .go s') : gLeft B s' < gLeft B s ∧ s'.p ≤ 8 * B.length := by
 unfold gStep at h
 split at h
 ·rename_i h1
  unfold gByte at h
  split at h
  ·simp only [G.go.injEq] at h
   subst h
   have := ended_facts s s.p _ hp
   unfold gLeft
   rw [if_pos h1, if_neg this.2.2]
   exact ⟨by omega, this.2.1⟩
  ·split at h
   ·obtain ⟨rfl, _⟩ := gPut_go h
    unfold gLeft
    dsimp only
    exact ⟨by split <;> omega, by omega⟩
   ·simp at h
 ·split at h
  ·rename_i h1 h2
   unfold gSym at h
   split at h
   ·simp at h
   ·simp at h
   ·rename_i c q hs
    have hq := rSym_ok hs
    split at h
    ·obtain ⟨rfl, _⟩ := gPut_go h
     unfold gLeft
     dsimp only
     exact ⟨by split <;> omega, by omega⟩
    ·split at h
     ·simp only [G.go.injEq] at h
      subst h
      have := ended_facts s q _ hq.2.1
      unfold gLeft
      rw [if_neg h1, if_neg this.2.2]
      exact ⟨by omega, this.2.1⟩
     ·unfold gCopy at h
      split at h
      ·simp at h
      ·simp at h
      ·rename_i n q1 hl
       have h3 := rLength_ok hl hq.2.1
       split at h
       ·simp at h
       ·simp at h
       ·rename_i dist q2 hd
        have h4 := rDist_ok hd
        split at h
        ·simp at h
        ·obtain ⟨rfl, _⟩ := gPut_go h
         unfold gLeft
         dsimp only
         exact ⟨by split <;> omega, by omega⟩
  ·rename_i h1 h2
   unfold gHead at h
   unfold gLeft
   rw [if_neg h1]
   split at h
   ·split at h
    ·split at h
     ·split at h
      ·simp only [G.go.injEq] at h
       subst h
       dsimp only
       exact ⟨by simp; omega, by omega⟩
      ·simp at h
     ·simp at h
    ·split at h
     ·simp only [G.go.injEq] at h
      subst h
      dsimp only
      exact ⟨by simp; omega, by omega⟩
     ·split at h
      ·split at h
       ·rename_i ab q hc
        have h5 := rCoding_ok hc
        simp only [G.go.injEq] at h
        subst h
        dsimp only
        exact ⟨by simp; omega, by omega⟩
       ·simp at h
       ·simp at h
      ·simp at h
   ·simp at h
theorem gRun_ex (B : List Nat) : ∀ k s, s.p ≤ 8 * B.length → gLeft B s < k → ∃ n e out q, GRun B n s e out q := by
 intro k
 induction k with
 | zero => intro s _ h; omega
 | succ k ih =>
  intro s hp hk
  by_cases h3 : s.place = 3
  ·exact ⟨_, _, _, _, .done s h3⟩
  ·cases hg : gStep B s with
   | go s1 =>
    have h1 := gStep_less hp hg
    obtain ⟨n, e, out, q, hr⟩ := ih s1 h1.2 (by omega)
    exact ⟨_, _, _, _, .go n s s1 e out q h3 hg hr⟩
   | no e out => exact ⟨_, _, _, _, .no s e out h3 hg⟩
   | miss => exact ⟨_, _, _, _, .miss s h3 hg⟩
theorem GRun.inv {B : List Nat} {k e : Nat} {s : GS} {out : List Nat} {q : Nat} (h : GRun B k s e out q) :
  (s.place = 3 ∧ e = 0 ∧ out = s.out ∧ q = s.p) ∨ (s.place ≠ 3 ∧ gStep B s = .no e out ∧ q = 0) ∨ (s.place ≠ 3 ∧ gStep B s = .miss ∧ e = 3 ∧ out = s.out ∧ q = 0) ∨ ∃ m s2, k = m + 1 ∧ s.place ≠ 3 ∧ gStep B s = .go s2 ∧ GRun B m s2 e out q := by
 cases h
 ·exact .inl ⟨‹_›, rfl, rfl, rfl⟩
 ·exact .inr (.inl ⟨‹_›, ‹_›, rfl⟩)
 ·exact .inr (.inr (.inl ⟨‹_›, ‹_›, rfl, rfl, rfl⟩))
 ·exact .inr (.inr (.inr ⟨_, _, rfl, ‹_›, ‹_›, ‹_›⟩))
end Go.Bel
namespace Go.Bel
theorem gPut_most {s : GS} {xs : List Nat} {p : Nat} (h : s.out.length ≤ s.most) : (∀ s', gPut s xs p = .go s' → s'.out.length ≤ s'.most ∧ s'.most = s.most) ∧ (∀ e out, gPut s xs p = .no e out → out.length ≤ s.most) := by
 constructor
 ·intro s' hp
  obtain ⟨rfl, hle⟩ := gPut_go hp
  exact ⟨by dsimp only; rw [List.length_append]; exact hle, rfl⟩
 ·intro e out hp
  unfold gPut at hp
  split at hp
  ·cases hp
  ·cases hp
   rw [List.length_append, List.length_take]
   omega
theorem gStep_most {B : List Nat} {s : GS} (h : s.out.length ≤ s.most) : (∀ s', gStep B s = .go s' → s'.out.length ≤ s'.most ∧ s'.most = s.most) ∧ (∀ e out, gStep B s = .no e out → out.length ≤ s.most) := by
 have he : ∀ p, (s.ended p).out.length ≤ (s.ended p).most ∧ (s.ended p).most = s.most := fun p => ⟨h, rfl⟩
 unfold gStep
 split
 ·unfold gByte
  split
  ·exact ⟨fun s' hs => (by cases hs; exact he _), fun e out hs => by cases hs⟩
  ·split
   ·exact gPut_most (s := { s with left := s.left - 1 }) h
   ·exact ⟨fun s' hs => (by cases hs), fun e out hs => by cases hs⟩
 ·split
  ·unfold gSym
   split
   ·exact ⟨fun s' hs => (by cases hs), fun e out hs => by cases hs; exact h⟩
   ·exact ⟨fun s' hs => (by cases hs), fun e out hs => by cases hs⟩
   ·split
    ·exact gPut_most h
    ·split
     ·exact ⟨fun s' hs => (by cases hs; exact he _), fun e out hs => by cases hs⟩
     ·unfold gCopy
      split
      ·exact ⟨fun s' hs => (by cases hs), fun e out hs => by cases hs; exact h⟩
      ·exact ⟨fun s' hs => (by cases hs), fun e out hs => by cases hs⟩
      ·split
       ·exact ⟨fun s' hs => (by cases hs), fun e out hs => by cases hs; exact h⟩
       ·exact ⟨fun s' hs => (by cases hs), fun e out hs => by cases hs⟩
       ·split
        ·exact ⟨fun s' hs => (by cases hs), fun e out hs => by cases hs; exact h⟩
        ·exact gPut_most h
  ·unfold gHead
   split
   ·split
    ·split
     ·split
      ·exact ⟨fun s' hs => (by cases hs; exact ⟨h, rfl⟩), fun e out hs => by cases hs⟩
      ·exact ⟨fun s' hs => (by cases hs), fun e out hs => by cases hs; exact h⟩
     ·exact ⟨fun s' hs => (by cases hs), fun e out hs => by cases hs⟩
    ·split
     ·exact ⟨fun s' hs => (by cases hs; exact ⟨h, rfl⟩), fun e out hs => by cases hs⟩
     ·split
      ·split
       ·exact ⟨fun s' hs => (by cases hs; exact ⟨h, rfl⟩), fun e out hs => by cases hs⟩
       ·exact ⟨fun s' hs => (by cases hs), fun e out hs => by cases hs; exact h⟩
       ·exact ⟨fun s' hs => (by cases hs), fun e out hs => by cases hs⟩
      ·exact ⟨fun s' hs => (by cases hs), fun e out hs => by cases hs; exact h⟩
   ·exact ⟨fun s' hs => (by cases hs), fun e out hs => by cases hs⟩
theorem GRun.most {B : List Nat} {n e : Nat} {s : GS} {out : List Nat} {q : Nat} (hr : GRun B n s e out q) (h : s.out.length ≤ s.most) : out.length ≤ s.most := by
 induction hr with
 | done s h3 => exact h
 | no s e out h3 hg => exact (gStep_most h).2 e out hg
 | miss s h3 hg => exact h
 | go n s s1 e out q h3 hg k ih =>
  have h1 := (gStep_most h).1 s1 hg
  have := ih h1.1
  rw [h1.2] at this
  exact this
end Go.Bel
