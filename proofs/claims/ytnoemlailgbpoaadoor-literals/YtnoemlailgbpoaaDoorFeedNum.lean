/- Proved here: what one call of the feed's Number does where all its bits are there. -/
import Derived.Test.YtnoemlailgbpoaaDoorFeedBit
namespace Go.Proofs.YtnoemlailgbpoaaDoor
open Go.RowKit Go.Bel
set_option maxHeartbeats 400000 in
theorem feedNum_ok (f g off cap p n : Nat) (B : List Nat) (w : World)
    (hF : w.heap[f]? = some (.cells #[.slice (some ⟨g, off, none⟩) B.length cap, .int .i64 (p : Nat)] 86 (0, 0))) (hS : Src w g off B) (hgf : g ≠ f) (hn : n ≤ 60) (hlt : p + n ≤ 8 * B.length) :
    Calls Tryd.prog 72 #[.pointer (some ⟨f, 0, none⟩), .int .i64 (n : Nat)] w fun e w' => e = .returned (.int .i64 (numAt B p n : Nat)) ∧ Fed f w w' (p + n) := by
  have hm := hS.much
  have HF := hide hF
  clear hF
  go_enter Tryd.func72, Tryd.ntmps72
  go_wp2
  go_loopw [5, 8] (fun x i wr => ∃ k : Nat, k ≤ n ∧ i = .int .i64 (k : Nat) ∧ x = .int .i64 (numAt B p k : Nat) ∧ Fed f w wr (p + k)) (fun _ i _ => n - (intOf i).toNat)
  case atStart => exact ⟨0, Nat.zero_le _, rfl, rfl, Fed.refl (unhide HF)⟩
  case round =>
    obtain ⟨k, hk, rfl, rfl, hfed⟩ := hrel
    by_cases hlt : k < n
    · have hor := or_bit (numAt B p k) (bitAt B (p + k)) k (by omega) (bitAt_lt _ _) (numAt_lt _ _ _)
      have HO := hide hor
      clear hor
      go_wp2_with fail
      refine (feedBit_ok f g off cap (p + k) B wr (hfed.feed _ _ _ (unhide HF)) (hS.step hfed.step hgf) (by omega)).mono ?_
      rintro e w1 ⟨rfl, hfed1⟩
      have hb := bitAt_lt B (p + k)
      go_wp2
      go_roundw
      case rel => exact ⟨k + 1, by omega, by go_num, by rw [unhide HO]; rfl, hfed.trans hfed1⟩
      case measure => simp [intOf]; omega
    · go_wp2
      go_ret
      have : k = n := by omega
      subst this
      exact ⟨rfl, hfed⟩
end Go.Proofs.YtnoemlailgbpoaaDoor
