/- Proved here: how a decoder lies in memory, and what its calls leave alone; nothing of the program. -/
import Derived.Test.YtnoemlailgbpoaaDoorToldPure
import Derived.Test.YtnoemlailgbpoaaDoorCodesPure
namespace Go.Bel
open Go Go.RowKit

/- what a decoder holds: what it has put out (a slice, its bytes), how much it may, where it stands, is the block the last one, how many stored bytes are to come, its tables, the fixed ones -/
structure DSt where
  v : Value
  out : List Nat
  most : Nat
  place : Nat
  last : Bool
  left : Nat
  sm : Value
  sl : Nat
  dm : Value
  dl : Nat
  fx : Value

def DSt.cells (f : Nat) (st : DSt) : Array Value :=
  #[.pointer (some ⟨f, 0, none⟩), st.v, .int .i64 (st.most : Nat), .int .i64 (st.place : Nat), .bool st.last, .int .i64 (st.left : Nat), st.sm, .int .i64 (st.sl : Nat), st.dm, .int .i64 (st.dl : Nat), st.fx]

structure DecAt (w : World) (d f base t e : Nat) (st : DSt) : Prop where
  blk : w.heap[d]? = some (.cells (st.cells f) t (0, 0))
  own : w.ownsRow base e 1 st.v st.out.length (u8s st.out)
  dbase : d < base
  fbase : f < base
  ne : d ≠ f
  base_le : base ≤ w.heap.size

/- What a decoder's call leaves alone: all but the decoder, its feed and its row; the row stays, or is new. -/
structure Dst (d f : Nat) (w : World) (v : Value) (w' : World) (v' : Value) : Prop where
  step : Step (fun k => k = d ∨ k = f ∨ v.ownBlock = some k) w w'
  own : ∀ k, v'.ownBlock = some k → v.ownBlock = some k ∨ w.heap.size ≤ k

theorem Dst.refl (d f : Nat) (w : World) (v : Value) : Dst d f w v w v := ⟨Step.refl _ _, fun _ h => .inl h⟩
theorem Dst.trans {d f : Nat} {w w1 w2 : World} {v v1 v2 : Value} (h : Dst d f w v w1 v1) (k : Dst d f w1 v1 w2 v2) : Dst d f w v w2 v2 :=
  ⟨h.step.trans' k.step fun i hi hx => hx.elim .inl fun hx => hx.elim (fun x => .inr (.inl x)) fun hx => (h.own i hx).elim (fun x => .inr (.inr x)) (fun x => by omega),
    fun i hi => (k.own i hi).elim (h.own i) (fun hx => by have := h.step.size; exact .inr (by omega))⟩
theorem Dst.fed {d f : Nat} {w w' : World} {v : Value} {p : Nat} (h : Fed f w w' p) : Dst d f w v w' v := ⟨h.step.mono fun _k hk => .inr (.inl hk), fun _ h => .inl h⟩
theorem Dst.step0 {d f : Nat} {w w' : World} {v : Value} (h : Step (fun _ => False) w w') : Dst d f w v w' v := ⟨h.mono fun _ x => x.elim, fun _ h => .inl h⟩
theorem Dst.setCell (d f : Nat) (w : World) (v : Value) (i : Nat) (u : Value) : Dst d f w v (w.setCell ⟨d, i, none⟩ u) v := ⟨(Step.refl _ w).setCell (p := ⟨d, i, none⟩) (.inl rfl) u, fun _ h => .inl h⟩
theorem Dst.alloc {d f : Nat} {w w' : World} {v v' : Value} (h : Dst d f w v w' v') (o : Obj) : Dst d f w v (w'.alloc o) v' := ⟨h.step.alloc o, h.own⟩
theorem Dst.drew {d f : Nat} {w w' : World} {v v' : Value} (h : Dst d f w v w' v') : Dst d f w v w'.drew v' := ⟨h.step.drew, h.own⟩
theorem Dst.drewN {d f : Nat} {w w' : World} {v v' : Value} (h : Dst d f w v w' v') (n : Nat) : Dst d f w v (w'.drewN n) v' := ⟨h.step.drewN n, h.own⟩

/- Block k is none of the decoder's. -/
structure DOff (d f : Nat) (v : Value) (k : Nat) : Prop where
  d : k ≠ d
  f : k ≠ f
  row : v.ownBlock ≠ some k
theorem DOff.not {d f k : Nat} {v : Value} (h : DOff d f v k) : ¬ (k = d ∨ k = f ∨ v.ownBlock = some k) := fun x => x.elim h.d fun x => x.elim h.f h.row
theorem DOff.step {d f k : Nat} {w w' : World} {v v' : Value} (h : DOff d f v k) (hk : k < w.heap.size) (hw : Dst d f w v w' v') : DOff d f v' k :=
  ⟨h.d, h.f, fun e => (hw.own k e).elim h.row (fun x => by omega)⟩

theorem DecAt.other {w w' : World} {d f base t e : Nat} {st : DSt} (h : DecAt w d f base t e st) (hd : w'.heap[d]? = w.heap[d]?) (hr : ∀ k, st.v.ownBlock = some k → w'.heap[k]? = w.heap[k]?) (hs : w.heap.size ≤ w'.heap.size) : DecAt w' d f base t e st :=
  ⟨hd.trans h.blk, ownsRow_of_block h.own hr, h.dbase, h.fbase, h.ne, Nat.le_trans h.base_le hs⟩
theorem DecAt.row_ne {w : World} {d f base t e : Nat} {st : DSt} (h : DecAt w d f base t e st) : st.v.ownBlock ≠ some d ∧ st.v.ownBlock ≠ some f := by
  have hd := h.dbase; have hf := h.fbase
  exact ⟨fun x => by have := (h.own.lt d x).1; omega, fun x => by have := (h.own.lt f x).1; omega⟩
theorem DecAt.fed {w w' : World} {d f base t e p : Nat} {st : DSt} (h : DecAt w d f base t e st) (hf : Fed f w w' p) : DecAt w' d f base t e st :=
  h.other (hf.step.block d (lt_of_block h.blk) h.ne) (fun k hk => hf.step.block k (h.own.lt k hk).2 (fun x => h.row_ne.2 (x ▸ hk))) hf.step.size
theorem DecAt.step0 {w w' : World} {d f base t e : Nat} {st : DSt} (h : DecAt w d f base t e st) (hf : Step (fun _ => False) w w') : DecAt w' d f base t e st :=
  h.other (hf.block d (lt_of_block h.blk) (fun x => x)) (fun k hk => hf.block k (h.own.lt k hk).2 (fun x => x)) hf.size
/- a cell of the decoder's own is written -/
theorem DecAt.set {w : World} {d f base t e : Nat} {st st' : DSt} (h : DecAt w d f base t e st) (i : Nat) (u : Value) (hc : (st.cells f).set! i u = st'.cells f) (hv : st'.v = st.v) (ho : st'.out = st.out) : DecAt (w.setCell ⟨d, i, none⟩ u) d f base t e st' := by
  refine ⟨?_, ?_, h.dbase, h.fbase, h.ne, by simpa [World.setCell] using h.base_le⟩
  · have := blk_set h.blk i u
    rw [hc] at this
    exact this
  · rw [hv, ho]; exact ownsRow_setCell_other h.own (a := ⟨d, i, none⟩) (fun x => h.row_ne.1 x) u
theorem DecAt.cell {w : World} {d f base t e : Nat} {st : DSt} (h : DecAt w d f base t e st) :
    w.cell? ⟨d, 0, none⟩ = some (.pointer (some ⟨f, 0, none⟩)) ∧ w.cell? ⟨d, 1, none⟩ = some st.v ∧ w.cell? ⟨d, 2, none⟩ = some (.int .i64 (st.most : Nat)) ∧ w.cell? ⟨d, 3, none⟩ = some (.int .i64 (st.place : Nat)) ∧ w.cell? ⟨d, 4, none⟩ = some (.bool st.last) ∧ w.cell? ⟨d, 5, none⟩ = some (.int .i64 (st.left : Nat)) ∧
    w.cell? ⟨d, 6, none⟩ = some st.sm ∧ w.cell? ⟨d, 7, none⟩ = some (.int .i64 (st.sl : Nat)) ∧ w.cell? ⟨d, 8, none⟩ = some st.dm ∧ w.cell? ⟨d, 9, none⟩ = some (.int .i64 (st.dl : Nat)) ∧ w.cell? ⟨d, 10, none⟩ = some st.fx :=
  ⟨blk_cell h.blk 0 _ rfl, blk_cell h.blk 1 _ rfl, blk_cell h.blk 2 _ rfl, blk_cell h.blk 3 _ rfl, blk_cell h.blk 4 _ rfl, blk_cell h.blk 5 _ rfl, blk_cell h.blk 6 _ rfl, blk_cell h.blk 7 _ rfl, blk_cell h.blk 8 _ rfl, blk_cell h.blk 9 _ rfl, blk_cell h.blk 10 _ rfl⟩
theorem DecAt.free {w : World} {d f base t e : Nat} {st : DSt} (h : DecAt w d f base t e st) (i : Nat) : w.frozen? ⟨d, i, none⟩ = false := blk_free h.blk i
theorem DecAt.vslice {w : World} {d f base t e : Nat} {st : DSt} (h : DecAt w d f base t e st) : ∃ a c, st.v = .slice a st.out.length c := by
  obtain ⟨_, ⟨hv, hn⟩ | ⟨g, cap, _, hv, _⟩⟩ := h.own
  · exact ⟨none, 0, by rw [hv, hn]⟩
  · exact ⟨_, _, hv⟩
/- bytes have been put out: behind the append and its store -/
theorem DecAt.app {w w1 : World} {d f base t e g cap m : Nat} {st : DSt} {xs : List Nat} (h : DecAt w d f base t e st)
    (hown : w1.ownsRow base e 1 (.slice (some ⟨g, 0, none⟩) (st.out.length + m) cap) (st.out.length + m) (u8s st.out ++ u8s xs)) (hm : xs.length = m) (hgr : w.grownBy w1 st.v.ownBlock) (hg : st.v.ownBlock = some g ∨ w.heap.size ≤ g) :
    w1.heap[d]? = some (.cells (st.cells f) t (0, 0)) ∧
    DecAt (w1.setCell ⟨d, 1, none⟩ (.slice (some ⟨g, 0, none⟩) (st.out.length + m) cap)) d f base t e { st with v := .slice (some ⟨g, 0, none⟩) (st.out.length + m) cap, out := st.out ++ xs } ∧
    Wrt d w st.v (w1.setCell ⟨d, 1, none⟩ (.slice (some ⟨g, 0, none⟩) (st.out.length + m) cap)) (.slice (some ⟨g, 0, none⟩) (st.out.length + m) cap) := by
  have hd := h.dbase
  have hgb : base ≤ g := (hown.lt g rfl).1
  have hb1 : w1.heap[d]? = _ := (hgr.block d (lt_of_block h.blk) (fun x => h.row_ne.1 x.symm)).trans h.blk
  refine ⟨hb1, ⟨?_, ?_, h.dbase, h.fbase, h.ne, ?_⟩, ⟨?_, ?_⟩⟩
  · have := blk_set hb1 1 (.slice (some ⟨g, 0, none⟩) (st.out.length + m) cap)
    simpa [DSt.cells] using this
  · have ho := ownsRow_setCell_other hown (a := ⟨d, 1, none⟩) (by simp [Value.ownBlock]; omega) (.slice (some ⟨g, 0, none⟩) (st.out.length + m) cap)
    have e1 : (st.out ++ xs).length = st.out.length + m := by rw [List.length_append, hm]
    have e2 : u8s (st.out ++ xs) = u8s st.out ++ u8s xs := by simp [u8s]
    show World.ownsRow _ _ _ _ _ (st.out ++ xs).length (u8s (st.out ++ xs))
    rw [e1, e2]
    exact ho
  · have := h.base_le; have := hgr.size; simp [World.setCell]; omega
  · refine Step.setCell ((Step.refl _ w).grown hgr fun k hk => .inl (.inr hk)) ?_ _
    exact .inl rfl
  · intro k hk
    simp only [Value.ownBlock, Option.some.injEq] at hk
    subst hk
    exact hg

theorem Dst.of_wrt {d f : Nat} {w w' : World} {v v' : Value} (h : Wrt d w v w' v') : Dst d f w v w' v' := ⟨h.step.mono fun _k hk => hk.elim .inl fun x => .inr (.inr x), h.own⟩

/- A decoder that stands at bit p of the bytes B. -/
structure On (w : World) (d f base g off cap td tf e : Nat) (B : List Nat) (st : DSt) (p : Nat) : Prop where
  dec : DecAt w d f base td e st
  feed : w.heap[f]? = some (.cells #[.slice (some ⟨g, off, none⟩) B.length cap, .int .i64 (p : Nat)] tf (0, 0))
  src : Src w g off B
  goff : DOff d f st.v g
  glt : g < w.heap.size

theorem On.fed {w w' : World} {d f base g off cap td tf e : Nat} {B : List Nat} {st : DSt} {p p' : Nat} (h : On w d f base g off cap td tf e B st p) (hf : Fed f w w' p') : On w' d f base g off cap td tf e B st p' :=
  ⟨h.dec.fed hf, hf.feed _ _ _ h.feed, h.src.step hf.step h.goff.f, h.goff, Nat.lt_of_lt_of_le h.glt hf.step.size⟩
theorem On.step0 {w w' : World} {d f base g off cap td tf e : Nat} {B : List Nat} {st : DSt} {p : Nat} (h : On w d f base g off cap td tf e B st p) (hf : Step (fun _ => False) w w') : On w' d f base g off cap td tf e B st p :=
  ⟨h.dec.step0 hf, hf.at_ h.feed (fun x => x), h.src.step hf (fun x => x), h.goff, Nat.lt_of_lt_of_le h.glt hf.size⟩
theorem On.set {w : World} {d f base g off cap td tf e : Nat} {B : List Nat} {st st' : DSt} {p : Nat} (h : On w d f base g off cap td tf e B st p) (i : Nat) (u : Value) (hc : (st.cells f).set! i u = st'.cells f) (hv : st'.v = st.v) (ho : st'.out = st.out) :
    On (w.setCell ⟨d, i, none⟩ u) d f base g off cap td tf e B st' p :=
  ⟨h.dec.set i u hc hv ho, (Below.heap_setCell _ _ _ _ (fun x => h.dec.ne x.symm)).trans h.feed, h.src.step ((Step.refl (· = d) w).setCell (p := ⟨d, i, none⟩) rfl u) h.goff.d, by rw [hv]; exact h.goff, by simpa [World.setCell] using h.glt⟩
theorem On.put {w w' : World} {d f base g off cap td tf e : Nat} {B : List Nat} {st st' : DSt} {p : Nat} (h : On w d f base g off cap td tf e B st p) (hd : DecAt w' d f base td e st') (hw : Wrt d w st.v w' st'.v) :
    On w' d f base g off cap td tf e B st' p :=
  ⟨hd, hw.step.at_ h.feed (fun x => x.elim (fun y => h.dec.ne y.symm) h.dec.row_ne.2), h.src.step hw.step (fun x => x.elim h.goff.d h.goff.row),
    h.goff.step h.glt (Dst.of_wrt hw), Nat.lt_of_lt_of_le h.glt hw.step.size⟩
end Go.Bel
