/- Proved here: of every kind the program and the reference answer the same. -/
import Derived.Test.YtbpahojchgpdnaaGreatDoorScript
import Derived.Test.YtbpahojchgpdnaaGreatDoorGzipC
import Derived.Test.YtbpahojchgpdnaaGreatDoorRefB
namespace Go.Proofs.YtbpahojchgpdnaaGreatDoor
open Go.RowKit Go.Bel
theorem agrees_zlib (b : ByteArray) (most : Int) (hb : b.size ≤ 140737488351232) : Agrees 1 b most := by
 obtain ⟨e, out, used, hz⟩ := zAll_ex (bytesOf b) (asked most)
 refine ⟨e, used, out, ⟨#[]⟩, Nat.le_trans (zAll_len hz) (asked_le most), fun g cap w hS hg hO h4 => ?_, fun w => ?_⟩
 ·rw [← bytesOf_length b]
  exact unpackZ g 0 cap e most (bytesOf b) out used w hS hg hO h4 hz
 ·exact unpackX1 e most b out used w toldX_any hb hz (zAll_used hz).1
theorem agrees_gzip (b : ByteArray) (most : Int) (hb : b.size ≤ 1048576) : Agrees 2 b most := by
 obtain ⟨e, out, used, name, hz⟩ := gzAll_ex (bytesOf b) (asked most)
 obtain ⟨hu, hu2, hu3⟩ := gzAll_used hz
 refine ⟨e, used, out, baOf name, Nat.le_trans hu3 (asked_le most), fun g cap w hS hg hO h4 => ?_, fun w => ?_⟩
 ·rw [← bytesOf_length b]
  exact unpackGz g 0 cap e most (bytesOf b) out used name w hS hg hO h4 (fun y hy => bytesOf_lt b y hy) (by rw [bytesOf_length]; omega) hz
 ·exact unpackX2 e most b out used name w toldX_any (by omega) hz hu
theorem agrees_no (wrap : Int) (b : ByteArray) (most : Int) (h0 : ¬ wrap = 0) (h1 : ¬ wrap = 1) (h2 : ¬ wrap = 2) : Agrees wrap b most := by
 refine ⟨1, 0, [], ⟨#[]⟩, Nat.zero_le _, fun g cap w hS hg hO h4 => ?_, fun w => ?_⟩
 ·refine (unpackNo wrap _ most w ⟨_, _, _, rfl⟩ h0 h1 h2).mono ?_
  rintro r w' ⟨rfl, hs⟩
  exact ⟨.slice none 0 0, rfl, World.ownsRow_nil _ _ _ _, hs⟩
 ·refine (unpackXNo wrap most b w h0 h1 h2).mono ?_
  rintro r w' ⟨rfl, hs⟩
  exact ⟨.slice none 0 0, rfl, World.ownsRow_nil _ _ _ _, hs⟩
theorem agrees_any (wrap : Int) (b : ByteArray) (most : Int) (hb : b.size ≤ 1048576) : Agrees wrap b most := by
 by_cases h0 : wrap = 0
 ·subst h0; exact agrees_bare b most (by omega)
 ·by_cases h1 : wrap = 1
  ·subst h1; exact agrees_zlib b most (by omega)
  ·by_cases h2 : wrap = 2
   ·subst h2; exact agrees_gzip b most hb
   ·exact agrees_no wrap b most h0 h1 h2
end Go.Proofs.YtbpahojchgpdnaaGreatDoor
namespace Go.Proofs.YtbpahojchgpdnaaGreatDoor
open Go.RowKit Go.Bel
theorem holds_step {w w' : World} {v : Value} {ops : List OpS} (h : Holds w v ops) (hs : Step (fun _ => False) w w') : Holds w' v ops := by
 rcases h with h | ⟨g, off, cap, rfl, hS⟩
 ·exact .inl h
 ·exact .inr ⟨g, off, cap, rfl, hS.step hs (fun x => x)⟩
end Go.Proofs.YtbpahojchgpdnaaGreatDoor
