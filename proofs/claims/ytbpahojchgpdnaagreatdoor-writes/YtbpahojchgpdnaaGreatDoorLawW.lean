/- Proved here: of every kind the program and the reference answer the same. -/
import Derived.Test.YtbpahojchgpdnaaGreatDoorScript
import Derived.Test.YtbpahojchgpdnaaGreatDoorGzipC
import Derived.Test.YtbpahojchgpdnaaGreatDoorRefB
namespace Go.Proofs.YtbpahojchgpdnaaGreatDoor
open Go.RowKit Go.Bel
theorem agrees_no (wrap : Int) (b : ByteArray) (most : Int) (h0 : ¬ wrap = 0) (h1 : ¬ wrap = 1) (h2 : ¬ wrap = 2) : Agrees wrap b most := by
 refine ⟨1, 0, [], ⟨#[]⟩, Nat.zero_le _, fun g cap w hS hg hO h4 => ?_, fun w => ?_⟩
 ·refine (unpackNo wrap _ most w ⟨_, _, _, rfl⟩ h0 h1 h2).mono ?_
  rintro r w' ⟨rfl, hs⟩
  exact ⟨.slice none 0 0, rfl, World.ownsRow_nil _ _ _ _, hs⟩
 ·refine (unpackXNo wrap most b w h0 h1 h2).mono ?_
  rintro r w' ⟨rfl, hs⟩
  exact ⟨.slice none 0 0, rfl, World.ownsRow_nil _ _ _ _, hs⟩
end Go.Proofs.YtbpahojchgpdnaaGreatDoor
namespace Go.Proofs.YtbpahojchgpdnaaGreatDoor
open Go.RowKit Go.Bel
theorem holds_step {w w' : World} {v : Value} {ops : List OpS} (h : Holds w v ops) (hs : Step (fun _ => False) w w') : Holds w' v ops := by
 rcases h with h | ⟨g, off, cap, rfl, hS⟩
 ·exact .inl h
 ·exact .inr ⟨g, off, cap, rfl, hS.step hs (fun x => x)⟩
end Go.Proofs.YtbpahojchgpdnaaGreatDoor
