/- Proved here: what the reference's zlibTail does. -/
import Derived.Deep.RegionWith
import Derived.Deep.LoopGhost
import Derived.Deep.RegionHeld3
import Derived.Test.YtbpahojchgpdnaaGreatDoorSummed
import Derived.Test.YtbpahojchgpdnaaGreatDoorLaw
namespace Go.Proofs.YtbpahojchgpdnaaGreatDoor
open Go.RowKit Go.Bel
theorem str_size (out : List Nat) : (strOf out).size = out.length := by
 unfold strOf
 rw [strOfNums_size, List.length_map]
end Go.Proofs.YtbpahojchgpdnaaGreatDoor
