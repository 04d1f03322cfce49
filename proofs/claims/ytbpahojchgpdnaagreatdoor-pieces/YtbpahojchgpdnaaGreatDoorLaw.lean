/- Proved here: what the law's same says of two answers that are the same. -/
import Derived.Laws.BytesArg
import Derived.Lib.BufferWrite
import Derived.Deep.LoopGhost
import Derived.Deep.RegionHeld3
import Derived.Test.YtbpahojchgpdnaaGreatDoorGFix
namespace Go.Proofs.YtbpahojchgpdnaaGreatDoor
open Go.RowKit Go.Bel
def strOf (out : List Nat) : ByteArray := strOfNums (out.map (fun x : Nat => (x : Int)))
theorem conv_row {W : World} {base : Nat} {v : Value} {out : List Nat} (h : W.ownsRow base 5 1 v out.length (u8s out)) :
  (convert 31 9 v).run Tryz.prog W = .ok (.string (strOf out)) W := by
 have h2 := h
 obtain ⟨_, ⟨hv, hn⟩ | ⟨g, cap, cur, hv, _⟩⟩ := h
 ·rw [hv, List.eq_nil_of_length_eq_zero hn]
  exact run_convert_bytes_nil W 31 5 Tryz.underlying31 Tryz.underlying5 0 0 9 Tryz.underlying9
 ·subst hv
  exact run_convert_bytes_arg W 31 5 Tryz.underlying31 Tryz.underlying5 g 0 out.length cap (out.map (fun x : Nat => (x : Int))) (by simp) (fun j hj => by
   have hc := h2.cellAt j (by omega)
   rw [Nat.zero_add, hc, u8s_get _ _ hj]
   simp [List.getD, List.getElem?_map, List.getElem?_eq_getElem hj]) 9 Tryz.underlying9
end Go.Proofs.YtbpahojchgpdnaaGreatDoor
