/- Proved here: what the library's Grow and Concat do as the fixed tables call them. -/
import Derived.Test.YtnoemlailgbpoaaDoorSlib
import Derived.Test.YtnoemlailgbpoaaDoorAppRow
import Derived.Lib.AppendZerosOnto
import Derived.Lib.SliceRun
namespace Go.Proofs.YtnoemlailgbpoaaDoor
open Go.RowKit Go.Bel Go.Maps

theorem zeroCells_size (z : Array Value) (n : Nat) : (Builtin.zeroCells z n).size = n * z.size := by
  simp [Builtin.zeroCells]

set_option maxRecDepth 20000 in
set_option maxHeartbeats 1000000 in
theorem grow_nil (n : Nat) (w : World) (hn1 : 1 ≤ n) (hn : n ≤ 1000) :
    Calls Tryd.prog 101 #[.slice none 0 0, .int .i64 (n : Nat)] w
      fun e w' => ∃ cap, e = .returned (.slice (some ⟨w.heap.size, 0, none⟩) 0 cap) ∧ n ≤ cap ∧ cap ≤ maxLen ∧ (∃ cs : Array Value, cs.size = cap ∧ w' = w.drew.alloc (.cells cs 3 (0, 0))) := by
  obtain ⟨i0, hi, hz0, hz1, hz2⟩ := info_parts Tryd.info3
  have hold : (Builtin.firstCells i0.size 0 (.slice none 0 0)).run Tryd.prog w.drew = .ok ([] : List Value).toArray w.drew := run_firstCells_none w.drew i0.size 0 0 0
  have hrz : ∀ ty, _ := fun ty => Lib.run_append_grow_zeros (P := Tryd.prog) w 119 3 ty 3 i0 (.int .i64 0) .i64 .i64 Tryd.underlying119 Tryd.underlying3 hi hz0 none 0 0 [] hold n hn1 (by omega) (by omega) (by omega) (by rw [hz2]; omega) (by rw [hz2]; simp [Builtin.nextslicecap]; split <;> omega)
  simp only [Nat.zero_add] at hrz
  have hge := grownCap_ge w n 0 3
  have hle := grownCap_le_maxLen w n 0 3 (by unfold maxLen; omega)
  obtain ⟨G, hG⟩ : ∃ G, G = grownCap w n 0 3 := ⟨_, rfl⟩
  rw [← hG] at hrz hge hle
  clear hG
  obtain ⟨cs, hcs⟩ : ∃ cs : Array Value, cs = ([] : List Value).toArray ++ Builtin.zeroCells (Value.int .i64 0).cells n ++ Builtin.zeroCells (Value.int .i64 0).cells (G - n) := ⟨_, rfl⟩
  rw [← hcs] at hrz
  have hsz : cs.size = G := by
    rw [hcs, Array.size_append, Array.size_append, zeroCells_size, zeroCells_size, show (Value.int .i64 0).cells.size = 1 from rfl]
    simp
    omega
  have HS := hide hsz
  have HGE := hide hge
  have HLE := hide hle
  have hG63 : (G : Int) ≤ 9223372036854775807 := by unfold maxLen at hle; omega
  have hnp : (0 : Int) < (n : Int) := by omega
  clear hcs hsz hge hle hold
  go_enter Tryd.func101, Tryd.ntmps101
  go_wp2_with (at_builtin; refine Lib.wpList_append_run _ rfl _ _ _ _ rfl _ _ rfl rfl _ _ (hrz _) ?_)
  go_ret
  exact ⟨G, rfl, unhide HGE, unhide HLE, cs, unhide HS, rfl⟩
end Go.Proofs.YtnoemlailgbpoaaDoor
