/- Proved here: what Unpack does with what is bare, where the decoder's steps are known. -/
import Derived.Test.YtbpahojchgpdnaaDoorRun
import Derived.Test.YtbpahojchgpdnaaDoorMade
namespace Go.Proofs.YtbpahojchgpdnaaDoor
open Go.RowKit Go.Bel Go.Maps

def init (most : Nat) : PS := { out := [], most := most, place := 0, last := false, left := 0, tab := fun _ => none, longest := 0, p := 0 }
def usedOf (e : Nat) (s : PS) : Nat := if e = 0 then (s.p + 7) / 8 else 0

theorem link_init (most : Nat) : Link (init most) (gInit most) := ⟨rfl, rfl, rfl, rfl, rfl, rfl, fun h => by simp [init] at h⟩

theorem unpack_ok (g off cap most n e : Nat) (B : List Nat) (s' : PS) (w : World) (hS : Go.Bel.Src w g off B) (hg : g < w.heap.size) (hO : OrderAt w) (h4 : 4 ≤ w.heap.size) (hm : most ≤ 1048576) (hr : PRun B n (init most) e s') :
    Calls Tryd.prog 9 #[.int .i64 0, .slice (some ⟨g, off, none⟩) B.length cap, .int .i64 (most : Nat)] w
      fun r w' => ∃ v', r = .returned (.agg #[.int .i64 (e : Nat), v', .int .i64 (usedOf e s' : Nat), .string ⟨#[]⟩]) ∧ w'.ownsRow w.heap.size 5 1 v' s'.out.length (u8s s'.out) ∧ Step (fun _ => False) w w' := by
  obtain ⟨q, hg2, hq⟩ := hr.grun (gInit most) (link_init most)
  have ha : asked (most : Int) = most := by unfold asked; rw [if_neg (by omega), if_neg (by omega)]; omega
  have hu : usedOf e s' = usedG 0 e q := by
    unfold usedOf usedG
    by_cases he : e = 0
    · rw [if_pos he, if_pos he, hq he]; omega
    · rw [if_neg he, if_neg he]
  rw [hu]
  exact unpackG g off cap n e (most : Int) B s'.out q w hS hg hO h4 (by rw [ha]; exact hg2)
end Go.Proofs.YtbpahojchgpdnaaDoor
