/- Proved here: what the wrapping decoder's New and askedFor do. -/
import Derived.Test.YtbpahojchgpdnaaGreatDoorGTake
set_option maxRecDepth 20000
set_option maxHeartbeats 4000000
namespace Go.Proofs.YtbpahojchgpdnaaGreatDoor
open Go.RowKit Go.Bel Go.Maps
theorem newDecG (f most : Nat) (w : World) :
  Calls Tryz.prog 49 #[.pointer (some ⟨f, 0, none⟩), .int .i64 (most : Nat)] w fun e w' => e = .returned (.pointer (some ⟨w.heap.size, 0, none⟩)) ∧
   w' = w.alloc (.cells #[.pointer (some ⟨f, 0, none⟩), .slice none 0 0, .int .i64 0, .int .i64 (most : Nat), .int .i64 0, .bool false, .int .i64 0, .map none, .int .i64 0, .map none, .int .i64 0, .pointer none] 128) := by
 go_enter Tryz.func49, Tryz.ntmps49
 go_wp2
 go_ret
 exact ⟨rfl, rfl⟩
def asked (most : Int) : Nat := if most < 0 then 0 else if 1048576 < most then 1048576 else most.toNat
theorem asked_le (most : Int) : asked most ≤ 1048576 := by unfold asked; split <;> (try split) <;> omega
theorem askedG (most : Int) (w : World) :
  Calls Tryz.prog 37 #[.int .i64 most] w fun e w' => e = .returned (.int .i64 (asked most : Nat)) ∧ w' = w := by
 by_cases h0 : most < 0
 ·have ha : asked most = 0 := by unfold asked; rw [if_pos h0]
  rw [ha]
  have h1 : max most 0 = 0 := by omega
  go_enter Tryz.func37, Tryz.ntmps37
  go_wp2_with fail
  go_ret
  exact ⟨rfl, rfl⟩
 ·by_cases h2 : 1048576 < most
  ·have ha : asked most = 1048576 := by unfold asked; rw [if_neg h0, if_pos h2]
   rw [ha]
   have h1 : max most 0 = most := by omega
   have h3 : min most 1048576 = 1048576 := by omega
   go_enter Tryz.func37, Tryz.ntmps37
   go_wp2_with fail
   go_ret
   exact ⟨rfl, rfl⟩
  ·have ha : ((asked most : Nat) : Int) = most := by unfold asked; rw [if_neg h0, if_neg h2]; omega
   have h1 : max most 0 = most := by omega
   have h3 : min most 1048576 = most := by omega
   rw [ha]
   go_enter Tryz.func37, Tryz.ntmps37
   go_wp2_with fail
   go_ret
   exact ⟨rfl, rfl⟩
theorem newWrap (f most : Nat) (w : World) :
  Calls Tryz.prog 36 #[.int .i64 0, .pointer (some ⟨f, 0, none⟩), .int .i64 (most : Nat)] w fun e w' => e = .returned (.tuple #[.pointer (some ⟨w.heap.size + 1, 0, none⟩), .int .i64 0]) ∧
   w' = ((w.alloc (.cells #[.pointer (some ⟨f, 0, none⟩), .slice none 0 0, .int .i64 0, .int .i64 (most : Nat), .int .i64 0, .bool false, .int .i64 0, .map none, .int .i64 0, .map none, .int .i64 0, .pointer none] 128)).alloc
    (.cells #[.pointer (some ⟨f, 0, none⟩), .pointer (some ⟨w.heap.size, 0, none⟩), .slice (some ⟨w.heap.size + 1 + 1, 0, none⟩) 1 1, .slice none 0 0, .string ⟨#[]⟩] 96)).alloc
    (.cells #[.func (.func 50) #[.pointer (some ⟨w.heap.size + 1, 0, none⟩)] #[]] 138) := by
 go_enter Tryz.func36, Tryz.ntmps36
 go_wp2_with fail
 refine (newDecG f most _).mono ?_
 rintro e w1 ⟨rfl, hw1⟩
 have hmf : ∀ (fn : Fn) (first cap : Array Value) (w : World), (Instr.makeFunc fn first cap).run Tryz.prog w = .ok (.func fn first cap) w := fun _ _ _ _ => rfl
 go_wp2_with fail
 go_ret2
 exact ⟨rfl, rfl⟩
end Go.Proofs.YtbpahojchgpdnaaGreatDoor
namespace Go.Proofs.YtbpahojchgpdnaaGreatDoor
open Go.RowKit Go.Bel Go.Maps
theorem RunP.widen {d f base g off cap z e : Nat} {B out : List Nat} {q : Nat} {v : Value} {S S' : Nat → Prop} {w w' : World} (h : RunP d f base g off cap z e B out q v S w w') (hs : ∀ k, S k → S' k) : RunP d f base g off cap z e B out q v S' w w' := by
 obtain ⟨st, q', h1, h2, h3, h5, h6⟩ := h.ex
 exact ⟨st, q', h1, h2, h3, h5.mono (fun k hk => hk.imp (hs k) id), h6⟩
theorem RunP.set {d f base g off cap z e D : Nat} {B out : List Nat} {q : Nat} {v : Value} {w w' : World} (h : RunP d f base g off cap z e B out q v (· = D) w w') (hDo : DOff d f v D) (hDb : D < base) (hgD : g ≠ D) (i n : Nat) (u : Value) : RunP d f base g off cap z e B out q v (· = D) w ((w'.setCell ⟨D, i, none⟩ u).drewN n) := by
 obtain ⟨st, q', h1, h2, h3, h5, h6⟩ := h.ex
 have hs : Step (· = D) w' ((w'.setCell ⟨D, i, none⟩ u).drewN n) := ((Step.refl (· = D) w').setCell (p := ⟨D, i, none⟩) rfl u).drewN n
 have hDr : st.v.ownBlock ≠ some D := fun hx => by have := (h3.dec.own.lt D hx).1; omega
 refine ⟨st, q', h1, h2, ⟨?_, hs.at_ h3.feed (fun x => hDo.f x.symm), h3.src.step hs hgD, h3.goff, Nat.lt_of_lt_of_le h3.glt hs.size⟩, ?_, h6⟩
 ·exact h3.dec.other (hs.block d (lt_of_block h3.dec.blk) (fun x => hDo.d x.symm)) (fun k hk => hs.block k (h3.dec.own.lt k hk).2 (fun x => hDr (x ▸ hk))) hs.size
 ·exact h5.trans (hs.mono (fun k hk => .inl hk))
end Go.Proofs.YtbpahojchgpdnaaGreatDoor
namespace Go.Proofs.YtbpahojchgpdnaaGreatDoor
open Go.RowKit Go.Bel Go.Maps
def gInit (most : Nat) : GS := { out := [], most := most, place := 0, last := false, left := 0, ls := [], ld := [], p := 0 }
theorem wrapNameG (D : Nat) (x : ByteArray) (w : World) (hD : w.cell? ⟨D, 4, none⟩ = some (.string x)) :
  Calls Tryz.prog 54 #[.pointer (some ⟨D, 0, none⟩)] w fun e w' => e = .returned (.string x) ∧ w' = w := by
 go_enter Tryz.func54, Tryz.ntmps54
 go_wp2_with fail
 go_ret
 exact ⟨rfl, rfl⟩
def usedG (z e q : Nat) : Nat := if e = 0 then z + (q + 7) / 8 else 0
end Go.Proofs.YtbpahojchgpdnaaGreatDoor
