/-  -/
import Derived.Test.YtbpahojchgpdnaaGreatDoorMade
import Derived.Test.YtbpahojchgpdnaaGreatDoorGround
import Derived.Laws.IdiomStrings
import Derived.Laws.BytesArg
import Derived.Deep.DeepCutAuto
import Derived.Test.YtbpahojchgpdnaaGreatDoorAgain
import Derived.Test.YtbpahojchgpdnaaGreatDoorGzipC
import Derived.Test.YtbpahojchgpdnaaGreatDoorZlibB
import Derived.Lib.SlBytesConst
/- Proved here: what reads answers where the decoder's steps over the bytes, and over the bytes with three more behind them, are known. -/
namespace Go.Proofs.YtbpahojchgpdnaaGreatDoor
open Go.RowKit Go.Bel Go.Maps
theorem bytes_back (s : ByteArray) : (⟨s.data.toList.toArray⟩ : ByteArray) = s := by cases s; simp
/- bytes that the call owns, as a string -/
theorem owned_string {w W : World} {base : Nat} {v : Value} {s : ByteArray} (h : w.ownsRow base 5 1 v (bytesOf s).length (u8s (bytesOf s))) (hW : ∀ k, v.ownBlock = some k → W.heap[k]? = w.heap[k]?) :
  (convert 31 9 v).run Tryz.prog W = .ok (.string s) W := by
 have h' := ownsRow_of_block h hW
 rw [bytesOf_length] at h'
 have h2 := h'
 obtain ⟨_, ⟨hv, hn⟩ | ⟨g, cap, cur, hv, _⟩⟩ := h'
 ·have hs : s = ByteArray.empty := by
   cases s with
   | mk d => have : d.size = 0 := hn; simp at this; subst this; rfl
  rw [hv, hs]
  exact run_convert_bytes_nil W 31 5 Tryz.underlying31 Tryz.underlying5 0 0 9 Tryz.underlying9
 ·subst hv
  have hl : s.data.toList.length = s.size := by simp
  have := run_convert_bytes_back W 31 9 5 ⟨g, 0, none⟩ cap s.data.toList Tryz.underlying31 Tryz.underlying5 Tryz.underlying9 (fun j hj => by
   have hc := h2.cellAt j (by omega)
   have e : (⟨g, 0, none⟩ : Addr).add j = ⟨g, j, none⟩ := by unfold Addr.add; split <;> simp_all
   rw [e, hc]
   have hb : j < (bytesOf s).length := by rw [bytesOf_length]; omega
   simp [u8s, bytesOf, List.getElem?_map, List.getElem?_eq_getElem hj])
  rw [hl, bytes_back] at this
  exact this
theorem asked_nat (n : Nat) (h : n ≤ 1048576) : asked (n : Int) = n := by unfold asked; rw [if_neg (by omega), if_neg (by omega)]; omega
end Go.Proofs.YtbpahojchgpdnaaGreatDoor
/- Proved here: what Pack hands back is unpacked again by Unpack. -/
namespace Go.Proofs.YtbpahojchgpdnaaGreatDoor
open Go.RowKit Go.Bel Go.Maps
/- a row of bytes that a call owns, as a feed reads it -/
theorem src_own {w : World} {base : Nat} {v : Value} {B : List Nat} (h : w.ownsRow base 5 1 v B.length (u8s B)) (hB : AllB B) (h0 : 0 < B.length) (hl : B.length ≤ 140737488351232) : ∃ g c, v = .slice (some ⟨g, 0, none⟩) B.length c ∧ Go.Bel.Src w g 0 B ∧ g < w.heap.size ∧ base ≤ g := by
 have h9 := h
 rcases h.2 with ⟨_, h1⟩ | ⟨g, cap, _, hv, hg, _⟩
 ·omega
 ·refine ⟨g, cap, hv, ?_, (h.lt g (by rw [hv]; rfl)).2, hg⟩
  rw [hv] at h9
  refine ⟨fun i hi => ?_, all_get hB, hl⟩
  rw [Nat.zero_add, h9.cellAt i (by omega), u8s_get _ _ hi]
/- Unpack at some bytes -/
end Go.Proofs.YtbpahojchgpdnaaGreatDoor
/- Proved here: known answers true. -/
namespace Go.Proofs.YtbpahojchgpdnaaGreatDoor
open Go.RowKit Go.Bel Go.Maps
/- the bytes of the first example: a block of type 1 that holds one byte -/
end Go.Proofs.YtbpahojchgpdnaaGreatDoor
/- Proved here: a string's bytes as a row; packing them stored. -/
namespace Go.Proofs.YtbpahojchgpdnaaGreatDoor
open Go.RowKit Go.Bel Go.Maps
theorem conv_str (w : World) (s : ByteArray) : (convert 9 31 (.string s)).run Tryz.prog w = .ok (.slice (some ⟨w.heap.size, 0, none⟩) s.size (grownCap w s.size 0 5))
      (w.drew.alloc (.cells (bytesRow s (grownCap w s.size 0 5)) 5 ((bytesRow s (grownCap w s.size 0 5)).size, (bytesRow s (grownCap w s.size 0 5)).size + 1))) :=
  run_bytes_of_string w 9 31 5 s Tryz.underlying9 Tryz.underlying31 Tryz.underlying5
theorem str_step (w : World) (o : Obj) : Step (fun _ => False) w (w.drew.alloc o) := ((Step.refl _ _).drew).alloc _
theorem str_bytes (w : World) (s : ByteArray) (cap : Nat) (fr : Nat × Nat) (hc : s.size ≤ cap) (hs : s.size ≤ 1048576) : BytesIn (w.drew.alloc (.cells (bytesRow s cap) 5 fr)) (.slice (some ⟨w.heap.size, 0, none⟩) s.size cap) (bytesOf s) := by
 refine ⟨.inr ⟨w.heap.size, 0, cap, by rw [bytesOf_length], fun i hi => ?_⟩, fun y hy => bytesOf_lt s y hy, fun j off n c hu => ?_, fun a n c hu => ?_, by rw [bytesOf_length]; exact hs⟩
 ·rw [bytesOf_length] at hi
  rw [Nat.zero_add]
  have h1 := World.cell?_alloc_mark w.drew (bytesRow s cap) 5 fr i
  refine h1.trans ?_
  rw [bytesRow_at s cap i hi]
  have hi2 : i < s.data.size := hi
  congr 2
  simp [bytesOf, Array.getElem?_eq_getElem hi2]
 ·simp only [Value.slice.injEq, Option.some.injEq, Addr.mk.injEq, and_true] at hu
  rw [World.size_alloc, ← hu.1.1]
  show w.heap.size < w.heap.size + 1
  omega
 ·simp only [Value.slice.injEq] at hu
  omega
theorem stoR_len {n : Nat} {ys : List Nat} {bits : List Bool} (h : StoR n ys bits) : bits.length ≤ 9 * ys.length + 50 := by
 induction h with
 | last n ys h =>
  have := storedBits_length n ys true
  omega
 | more n ys bits h ht ih =>
  have := storedBits_length n (ys.take 65535) false
  rw [List.length_take] at this
  rw [List.length_drop] at ih
  rw [List.length_append]
  omega
theorem packSaid_stored (ys : List Nat) (hl : ys.length ≤ 1048576) : PackSaid 0 ys (StoR 0 ys) := by
 obtain ⟨bits, hb⟩ := stoR_ex ys.length 0 ys (Nat.le_refl _)
 intro u w hu hO h4
 refine (packBare_stored ys bits hb u w hu hO h4).mono ?_
 rintro e w' ⟨v', rfl, hp⟩
 exact ⟨v', bits, rfl, hb, by have := stoR_len hb; omega, hp⟩
theorem stoR_pos {n : Nat} {ys : List Nat} {bits : List Bool} (h : StoR n ys bits) : 3 ≤ bits.length := by
 induction h with
 | last n ys h => unfold storedBits; simp only [List.length_append, beginBits_length]; omega
 | more n ys bits h ht ih => rw [List.length_append]; omega
end Go.Proofs.YtbpahojchgpdnaaGreatDoor
