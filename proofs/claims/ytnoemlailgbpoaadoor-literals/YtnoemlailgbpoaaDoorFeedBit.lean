/- Proved here: what one call of the feed's Bit does where the bit is there, and where it is missing. -/
import Derived.Test.YtnoemlailgbpoaaDoorRows
import Derived.Test.YtnoemlailgbpoaaDoorBase
namespace Go.Proofs.YtnoemlailgbpoaaDoor
open Go.RowKit Go.Bel
set_option maxHeartbeats 400000 in
theorem feedBit_ok (f g off cap p : Nat) (B : List Nat) (w : World)
    (hF : w.heap[f]? = some (.cells #[.slice (some ⟨g, off, none⟩) B.length cap, .int .i64 (p : Nat)] 86 (0, 0))) (hS : Src w g off B) (hlt : p < 8 * B.length) :
    Calls Tryd.prog 76 #[.pointer (some ⟨f, 0, none⟩)] w fun e w' => e = .returned (.int .i64 (bitAt B p : Nat)) ∧ Fed f w w' (p + 1) := by
  obtain ⟨h0, h1, _, hf⟩ := blk_two hF
  have hc := hS.cell (p / 8) (by omega)
  have hm := hS.much
  have hby := hS.byte (p / 8)
  have hlt' : (p : Int) / 8 < (B.length : Int) := by omega
  have hend : wrap64 (bits BinOp.and IntKind.u8 ((B[p / 8]?.getD 0 : Nat) / 2 ^ (p % 8)) 1) = (bitAt B p : Nat) := by
    have e : (((B[p / 8]?.getD 0 : Nat) : Int) / 2 ^ (p % 8)) = ((B[p / 8]?.getD 0 / 2 ^ (p % 8) : Nat) : Int) := by simp
    rw [e, and_one_u8 _ (Nat.lt_of_le_of_lt (Nat.div_le_self _ _) hby)]
    have := bitAt_lt B p
    unfold bitAt at this ⊢
    exact IntWalk.wrap64_in _ ⟨by omega, by omega⟩
  have HE := hide hend
  have HF := hide hF
  clear hend hF hS hby
  go_enter Tryd.func76, Tryd.ntmps76
  go_wp2
  go_quiet (fail)
  go_wp2
  go_quiet (fail)
  go_wp2
  go_ret
  refine ⟨?_, Fed.set f w (p + 1) _⟩
  rw [← unhide HE]
  rfl

/- What the program panics with where a bit is missing. -/
def missing : Value := .iface 104 (.agg #[])

set_option maxHeartbeats 400000 in
theorem feedBit_miss (f len cap p : Nat) (a : Option Addr) (w : World)
    (hF : w.heap[f]? = some (.cells #[.slice a len cap, .int .i64 (p : Nat)] 86 (0, 0))) (hlen : len ≤ 140737488351232) (hp : p < 4611686018427387904) (hge : len ≤ p / 8) :
    Calls Tryd.prog 76 #[.pointer (some ⟨f, 0, none⟩)] w fun e w' => e = .panicked [{ v := missing, recovered := false }] ∧ ∃ n, w' = w.drewN n := by
  obtain ⟨h0, h1, _, hf⟩ := blk_two hF
  have hlt' : (len : Int) ≤ (p : Int) / 8 := by omega
  have HF := hide hF
  clear hF
  go_enter Tryd.func76, Tryd.ntmps76
  go_wp2
  go_quiet (fail)
  go_wp2
  exact ⟨rfl, rfl, _, rfl⟩
end Go.Proofs.YtnoemlailgbpoaaDoor
