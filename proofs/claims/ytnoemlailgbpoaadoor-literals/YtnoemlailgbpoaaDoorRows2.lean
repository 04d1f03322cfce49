/- Proved here: small facts on a block of memory that is read and written cell by cell; nothing of the program. -/
import Derived.Test.YtnoemlailgbpoaaDoorBase
import Derived.Laws.Tables
import Derived.Deep.WholeRow
namespace Go.Bel
open Go Go.RowKit

/- Block k is a row of n cells of type t, none of them frozen; cell i holds f i. -/
def RowAt (w : World) (k t n : Nat) (f : Nat → Value) : Prop :=
  ∃ A, w.heap[k]? = some (.cells A t (0, 0)) ∧ A.size = n ∧ ∀ i, i < n → A[i]? = some (f i)

namespace RowAt
variable {w w' : World} {k t n : Nat} {f g : Nat → Value}
theorem cell (h : RowAt w k t n f) (i : Nat) (hi : i < n) : w.cell? ⟨k, i, none⟩ = some (f i) := by
  obtain ⟨A, h1, _, h3⟩ := h
  exact blk_cell h1 i _ (h3 i hi)
theorem free (h : RowAt w k t n f) (i : Nat) : w.frozen? ⟨k, i, none⟩ = false := by
  obtain ⟨A, h1, _, _⟩ := h
  exact blk_free h1 i
theorem lt (h : RowAt w k t n f) : k < w.heap.size := by obtain ⟨A, h1, _⟩ := h; exact lt_of_block h1
theorem set (h : RowAt w k t n f) (i : Nat) (v : Value) : RowAt (w.setCell ⟨k, i, none⟩ v) k t n (fun j => if j = i then v else f j) := by
  obtain ⟨A, h1, h2, h3⟩ := h
  refine ⟨A.set! i v, blk_set h1 i v, by simp [h2], fun j hj => ?_⟩
  by_cases hji : j = i
  · subst hji
    simp [h2, hj]
  · simp only [if_neg hji]
    rw [← h3 j hj]
    simp [Ne.symm hji]
theorem of (h : RowAt w k t n f) (hb : w'.heap[k]? = w.heap[k]?) : RowAt w' k t n f := by
  obtain ⟨A, h1, r⟩ := h
  exact ⟨A, hb.trans h1, r⟩
theorem other (h : RowAt w k t n f) {a : Addr} (ha : k ≠ a.block) (v : Value) : RowAt (w.setCell a v) k t n f := h.of (Below.heap_setCell _ _ _ _ ha)
theorem alloc (h : RowAt w k t n f) (o : Obj) : RowAt (w.alloc o) k t n f := h.of (Below.heap_alloc _ _ _ h.lt)
theorem drew (h : RowAt w k t n f) : RowAt w.drew k t n f := h.of rfl
theorem drewN (h : RowAt w k t n f) (m : Nat) : RowAt (w.drewN m) k t n f := h.of rfl
theorem step {S : Nat → Prop} (h : RowAt w k t n f) (hs : Step S w w') (hn : ¬ S k) : RowAt w' k t n f := h.of (hs.block k h.lt hn)
theorem congr (h : RowAt w k t n f) (hf : ∀ i, i < n → f i = g i) : RowAt w k t n g := by
  obtain ⟨A, h1, h2, h3⟩ := h
  exact ⟨A, h1, h2, fun i hi => by rw [h3 i hi, hf i hi]⟩
theorem born (w : World) {A : Array Value} (t : Nat) (hs : A.size = n) (hf : ∀ i, i < n → A[i]? = some (f i)) : RowAt (w.alloc (.cells A t)) w.heap.size t n f :=
  ⟨A, by show (w.heap.push _)[w.heap.size]? = _; simp, hs, hf⟩
theorem arr (h : RowAt w k t n f) : ∃ A, w.heap[k]? = some (.cells A t (0, 0)) ∧ A.size = n ∧ ∀ i, i < n → A[i]? = some (f i) := h
theorem setRow (h : RowAt w k t n f) {A : Array Value} (hs : A.size = n) (hf : ∀ i, i < n → A[i]? = some (g i)) : RowAt (w.setRow k A) k t n g := by
  obtain ⟨A0, h1, h2, h3⟩ := h
  exact ⟨A, setRow_heap w k A0 A t (0, 0) h1, hs, hf⟩
theorem setRowOther (h : RowAt w k t n f) {k' : Nat} (hk : k ≠ k') (A : Array Value) : RowAt (w.setRow k' A) k t n f := h.of (setRow_other w k' k A hk)
end RowAt
theorem Step.setRowNew {S : Nat → Prop} {a w : World} (h : Step S a w) {k : Nat} (hk : a.heap.size ≤ k) (A : Array Value) : Step S a (w.setRow k A) :=
  ⟨by simpa using h.os, by simpa using h.tape, by simpa using h.output, by simpa using h.size, fun i hi hn => (setRow_other w k i A (by omega)).trans (h.block i hi hn)⟩
theorem all_one {A : Array Value} {n : Nat} {f : Nat → Value} (hs : A.size = n) (hf : ∀ i, i < n → A[i]? = some (f i)) (h : ∀ i, (f i).oneCell' = true) : A.all (·.oneCell') = true := by
  rw [Array.all_eq_true]
  intro i hi
  have := hf i (by omega)
  rw [Array.getElem?_eq_getElem hi] at this
  simp only [Option.some.injEq] at this
  rw [this]
  exact h i
end Go.Bel
