/- Proved here: what the feed's PassByte, Used and New do. -/
import Derived.Test.YtnoemlailgbpoaaDoorFeedNum
namespace Go.Proofs.YtnoemlailgbpoaaDoor
open Go.RowKit Go.Bel
set_option maxHeartbeats 400000 in
theorem feedUsed_any (f p : Nat) (s : Value) (w : World)
    (hF : w.heap[f]? = some (.cells #[s, .int .i64 (p : Nat)] 86 (0, 0))) (hp : p < 4611686018427387904) :
    Calls Tryd.prog 34 #[.pointer (some ⟨f, 0, none⟩)] w fun e w' => e = .returned (.int .i64 ((p + 7) / 8 : Nat)) ∧ w' = w := by
  obtain ⟨_, h1, _, hf⟩ := blk_two hF
  have HF := hide hF
  clear hF
  go_enter Tryd.func34, Tryd.ntmps34
  go_wp2
  go_ret
  exact ⟨rfl, rfl⟩

set_option maxHeartbeats 400000 in
theorem feedPass_any (f p : Nat) (s : Value) (w : World)
    (hF : w.heap[f]? = some (.cells #[s, .int .i64 (p : Nat)] 86 (0, 0))) (hp : p < 4611686018427387000) :
    Calls Tryd.prog 87 #[.pointer (some ⟨f, 0, none⟩)] w fun e w' => e = .returned (.tuple #[]) ∧ Fed f w w' ((p + 7) / 8 * 8) := by
  obtain ⟨_, h1, _, hf⟩ := blk_two hF
  have HF := hide hF
  clear hF
  go_enter Tryd.func87, Tryd.ntmps87
  go_wp2_with fail
  refine (feedUsed_any f p s _ (unhide HF) (by omega)).mono ?_
  rintro e w1 ⟨rfl, rfl⟩
  go_wp2
  go_end0
  refine ⟨rfl, ?_⟩
  have := Fed.set f w1 ((p + 7) / 8 * 8) 0
  rw [World.drewN_zero] at this
  simpa using this

set_option maxHeartbeats 400000 in
theorem feedNew_any (s : Value) (w : World) (hs : ∃ a n c, s = .slice a n c) :
    Calls Tryd.prog 30 #[s] w fun e w' => e = .returned (.pointer (some ⟨w.heap.size, 0, none⟩)) ∧ w' = w.alloc (.cells #[s, .int .i64 0] 86) := by
  obtain ⟨a, n, c, rfl⟩ := hs
  go_enter Tryd.func30, Tryd.ntmps30
  go_wp2
  go_ret
  exact ⟨rfl, rfl⟩
end Go.Proofs.YtnoemlailgbpoaaDoor
