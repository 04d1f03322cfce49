/- Proved here: what the feed's Whole does where the call that it is handed returns. -/
import Derived.Test.YtbpahojchgpdnaaGreatDoorPlain
import Derived.Defers
import Derived.Recover
namespace Go.Proofs.YtbpahojchgpdnaaGreatDoor
open Go.RowKit Go.Bel Go.Maps

theorem whole1_idle (a b c : Value) (w : World) :
    CallsD Tryz.prog 154 #[a, b, c] .returning w fun e u' w' => e = .returned (.tuple #[]) ∧ u' = .returning ∧ w' = w := by
  refine callsD_of_wpS Tryz.func154 rfl fun c₀ cs hu => ?_
  apply wpS_seq
  apply wpS_region
  simp [wpOpsS, go_sem, recoverD, hu, Tryz.ntmps154, Exit.thenS]
  refine wpS_of_wp ?_
  go_wp2
  cases c₀
  simp_all [bodyPostS, results, Tryz.results154]

end Go.Proofs.YtbpahojchgpdnaaGreatDoor
