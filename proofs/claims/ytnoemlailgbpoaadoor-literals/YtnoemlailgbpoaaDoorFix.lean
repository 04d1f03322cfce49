/- Proved here: what the fixed tables' lists hold. -/
import Derived.Test.YtnoemlailgbpoaaDoorSlib3
import Derived.Test.YtnoemlailgbpoaaDoorDecFix
namespace Go.Proofs.YtnoemlailgbpoaaDoor
open Go.RowKit Go.Bel Go.Maps

theorem far_may : mayB (List.replicate 32 5) = true := by decide +kernel
theorem fix_all (g1 g2 g3 g4 : Nat) : allCi [(g1, 8, 144), (g2, 9, 112), (g3, 7, 24), (g4, 8, 8)] = fixLens.map fun (c : Nat) => Value.int .i64 (c : Nat) := by
  simp only [allCi, fixLens, List.flatMap_cons, List.flatMap_nil, List.map_append, List.map_replicate, List.append_nil, List.append_assoc, ci]
theorem fix_sum (g1 g2 g3 g4 : Nat) : sumLen [(g1, 8, 144), (g2, 9, 112), (g3, 7, 24), (g4, 8, 8)] 4 = 288 := by
  rfl
theorem ints_of_cells {w : World} {g : Nat} {L : List Nat} (h : ∀ j u, (L.map fun (c : Nat) => Value.int .i64 (c : Nat))[j]? = some u → w.cell? (Addr.add ⟨g, 0, none⟩ j) = some u) (hle : ∀ i : Nat, L[i]?.getD 0 ≤ 15) (hm : L.length ≤ 1000) : Ints w g 0 L := by
  refine ⟨fun i hi => ?_, hle, hm⟩
  have := h i (.int .i64 (L[i] : Nat)) (by rw [List.getElem?_map, List.getElem?_eq_getElem hi]; rfl)
  rw [show (Addr.add ⟨g, 0, none⟩ i) = ⟨g, 0 + i, none⟩ by simp [Addr.add]; omega] at this
  rw [this, List.getElem?_eq_getElem hi]
  rfl
theorem ints_far {w : World} {g : Nat} (h : w.heap[g]? = some (.cells (ci 5 32).toArray 3 (0, 0))) : Ints w g 0 (List.replicate 32 5) := by
  refine ⟨fun i hi => ?_, fun i => ?_, by simp⟩
  · rw [List.length_replicate] at hi
    refine blk_cell h (0 + i) _ ?_
    rw [List.getElem?_toArray, List.getElem?_replicate, if_pos (by omega), List.getElem?_replicate, if_pos hi]
    rfl
  · rw [List.getElem?_replicate]
    split <;> simp
end Go.Proofs.YtnoemlailgbpoaaDoor
