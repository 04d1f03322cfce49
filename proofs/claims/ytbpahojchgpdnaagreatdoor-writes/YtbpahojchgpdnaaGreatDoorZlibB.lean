/- Proved here: how the wrapping decoder goes through a Zlib. -/
import Derived.Test.YtbpahojchgpdnaaGreatDoorZlibA
set_option maxRecDepth 20000
set_option maxHeartbeats 4000000
namespace Go.Proofs.YtbpahojchgpdnaaGreatDoor
open Go.RowKit Go.Bel Go.Maps
def zPart (Z : Nat) : Nat → Value
 | 0 => .func (.func 75) #[.pointer (some ⟨Z, 0, none⟩)] #[]
 | 1 => .func (.func 76) #[.pointer (some ⟨Z, 0, none⟩)] #[]
 | 2 => .func (.func 77) #[.pointer (some ⟨Z, 0, none⟩)] #[]
 | _ => .func (.func 78) #[.pointer (some ⟨Z, 0, none⟩)] #[]
theorem cf_first (args : Array Value) (w : World) : (callFunc 75 args).run Tryz.prog w = .ok (.enter 75 args) w := by kernel_rfl
theorem cf_second (args : Array Value) (w : World) : (callFunc 76 args).run Tryz.prog w = .ok (.enter 76 args) w := by kernel_rfl
theorem cf_bare (args : Array Value) (w : World) : (callFunc 77 args).run Tryz.prog w = .ok (.enter 77 args) w := by kernel_rfl
theorem cf_sum (args : Array Value) (w : World) : (callFunc 78 args).run Tryz.prog w = .ok (.enter 78 args) w := by kernel_rfl
def freshD (f most : Nat) : Obj := .cells #[.pointer (some ⟨f, 0, none⟩), .slice none 0 0, .int .i64 0, .int .i64 (most : Nat), .int .i64 0, .bool false, .int .i64 0, .map none, .int .i64 0, .map none, .int .i64 0, .pointer none] 128 (0, 0)
def partsAt (P i np : Nat) : Value := if i < np then partsV P i (np - i) else .slice (some ⟨P, np - 1, none⟩) 0 0
theorem partsAt_lt {P i np : Nat} (h : i < np) : partsAt P i np = partsV P i ((np - i - 1) + 1) := by
 unfold partsAt
 rw [if_pos h, show np - i - 1 + 1 = np - i by omega]
theorem partsAt_next {P i np : Nat} (h : i < np) : partsN P i (np - i - 1) = partsAt P (i + 1) np := by
 unfold partsAt partsN
 by_cases h1 : i + 1 < np
 ·rw [if_pos h1, if_neg (by omega)]
  unfold partsV
  rw [show np - (i + 1) = np - i - 1 by omega]
 ·rw [if_neg h1, if_pos (by omega), show np - 1 = i by omega]
theorem whole_step {D f d P i n p : Nat} {s : Value} {z : Nat} {S : Nat → Prop} {Q : Bool → Nat → World → Prop} {L : World → Prop} {w : World} {r : Ending} {w2 : World} (h : WWholeP D f d P i n p s z S Q L w r w2) (hfS : S f) : Step (fun k => k = D ∨ S k ∨ k = w.heap.size + 1) w w2 := by
 obtain ⟨w1, w', vo, nm, h1, _, h2, _, ⟨thr, e, _, _, _, h3⟩ | ⟨_, _, _, _, h3⟩⟩ := h.ex
 ·exact ((h1.mono (fun _ x => x.elim)).trans (h2.mono (fun k x => .inr (.inl x)))).trans (h3.mono (fun k x => x.elim .inl (fun y => .inr (.inr y))))
 ·exact ((h1.mono (fun _ x => x.elim)).trans (h2.mono (fun k x => .inr (.inl x)))).trans (h3.mono (fun k x => x.elim (fun y => .inr (.inl (y ▸ hfS))) (fun y => .inr (.inr y))))
end Go.Proofs.YtbpahojchgpdnaaGreatDoor
namespace Go.Proofs.YtbpahojchgpdnaaGreatDoor
open Go.RowKit Go.Bel Go.Maps
theorem taken_ne {w : World} {base h t : Nat} {v : Value} {ys : List Nat} {A : Array Value} (own : Taken w base v ys) (blk : w.heap[h]? = some (.cells A t (0, 0))) (ht : t ≠ 5) : v.ownBlock ≠ some h := fun x => by
 obtain ⟨_, ⟨hv, _⟩ | ⟨g, cap, cur, hv, _, hh, _⟩⟩ := own
 ·rw [hv] at x; cases x
 ·rw [hv] at x
  cases x
  rw [hh] at blk
  cases blk
  exact ht rfl
theorem taken_step {S : Nat → Prop} {w w' : World} {base : Nat} {v : Value} {ys : List Nat} (h : Taken w base v ys) (hs : Step S w w') (hn : ∀ k, v.ownBlock = some k → ¬ S k) : Taken w' base v ys :=
 ownsRow_of_block h fun k hk => hs.block k (h.lt k hk).2 (hn k hk)
def zRest (B : List Nat) (most i p first sum : Nat) (o : List Nat) (e : Nat) (out : List Nat) (used : Nat) : Prop :=
 match i with
 | 0 => p = 0 ∧ zAll B most e out used
 | 1 => first < 256 ∧ zSec B most p first e out used
 | 2 => zBody B most p e out used
 | 3 => sum = adWith 1 o ∧ p % 8 = 0 ∧ zTail B p o e out used
 | _ => e = 0 ∧ p = 8 * used ∧ o = out
abbrev ZW (f D : Nat) (w : World) (Q : Ending → World → Prop) : Prop := Calls Tryz.prog 125 #[.pointer (some ⟨f, 0, none⟩), .func (.func 124) #[.pointer (some ⟨D, 0, none⟩)] #[]] w Q
theorem watn_inj {w : World} {D f d : Nat} {p p' v v' : Value} {n n' : ByteArray} (h : WAtN w D f d p v n) (h' : WAtN w D f d p' v' n') : v = v' ∧ n = n' := by
 have e := h.symm.trans h'
 simp only [Option.some.injEq, Obj.cells.injEq, Array.mk.injEq, List.cons.injEq, Value.string.injEq, and_true, true_and] at e
 exact ⟨e.2.1, e.2.2⟩
end Go.Proofs.YtbpahojchgpdnaaGreatDoor
namespace Go.Proofs.YtbpahojchgpdnaaGreatDoor
open Go.RowKit Go.Bel Go.Maps
theorem zlibParts_ok (D : Nat) (w : World) :
  Calls Tryz.prog 51 #[.pointer (some ⟨D, 0, none⟩)] w fun e w' => e = .returned (.slice (some ⟨w.heap.size + 1, 0, none⟩) 4 4) ∧
   w' = (w.alloc (.cells #[.pointer (some ⟨D, 0, none⟩), .int .i64 0, .int .u32 1] 132)).alloc (.cells #[zPart w.heap.size 0, zPart w.heap.size 1, zPart w.heap.size 2, zPart w.heap.size 3] 138) := by
 have hmf : ∀ (fn : Fn) (first cap : Array Value) (w : World), (Instr.makeFunc fn first cap).run Tryz.prog w = .ok (.func fn first cap) w := fun _ _ _ _ => rfl
 go_enter Tryz.func51, Tryz.ntmps51
 go_wp2_with fail
 go_ret
 exact ⟨rfl, rfl⟩
structure NewP (w w' : World) (f most np : Nat) (X : Obj) (F : Nat → Value) (P : Nat) : Prop where
 step : Step (fun _ => False) w w'
 size : w'.heap.size = P + 1
 lt : w.heap.size + 2 < P
 dec : w'.heap[w.heap.size]? = some (freshD f most)
 wrap : WAtN w' (w.heap.size + 1) f w.heap.size (partsAt P 0 np) (.slice none 0 0) ⟨#[]⟩
 kept : w'.heap[w.heap.size + 2]? = some X
 parts : ∀ j, j < np → w'.cell? ⟨P, j, none⟩ = some (F j)
theorem newWrapZ (f most : Nat) (w : World) :
  Calls Tryz.prog 36 #[.int .i64 1, .pointer (some ⟨f, 0, none⟩), .int .i64 (most : Nat)] w fun e w' => e = .returned (.tuple #[.pointer (some ⟨w.heap.size + 1, 0, none⟩), .int .i64 0]) ∧
   NewP w w' f most 4 (.cells #[.pointer (some ⟨w.heap.size + 1, 0, none⟩), .int .i64 0, .int .u32 1] 132 (0, 0)) (zPart (w.heap.size + 2)) (w.heap.size + 3) := by
 go_enter Tryz.func36, Tryz.ntmps36
 go_wp2_with fail
 refine (newDecG f most _).mono ?_
 rintro e w1 ⟨rfl, hw1⟩
 obtain ⟨d, hd⟩ : ∃ d, d = w.heap.size := ⟨_, rfl⟩
 have hz1 : w1.heap.size = d + 1 := by rw [hw1, hd]; simp
 have hs1 : Step (fun _ => False) w w1 := by rw [hw1]; exact (Step.refl _ _).alloc _
 have hd1 : w1.heap[d]? = some (freshD f most) := by rw [hw1, hd]; exact heap_alloc_new _ _
 have hdl : d ≤ w.heap.size := by omega
 have hdg : w.heap.size ≤ d := by omega
 rw [← hd]
 clear hw1 hd
 go_wp2_with fail
 obtain ⟨w2, hw2⟩ : ∃ w2, w2 = w1.alloc (.cells #[.pointer (some ⟨f, 0, none⟩), .pointer (some ⟨d, 0, none⟩), .slice none 0 0, .slice none 0 0, .string ⟨#[]⟩] 96) := ⟨_, rfl⟩
 have hz2 : w2.heap.size = d + 1 + 1 := by rw [hw2]; simp [hz1]
 have hs2 : Step (fun _ => False) w1 w2 := by rw [hw2]; exact (Step.refl _ _).alloc _
 have hD2 : WAtN w2 (d + 1) f d (.slice none 0 0) (.slice none 0 0) ⟨#[]⟩ := by rw [hw2, ← hz1]; exact heap_alloc_new _ _
 rw [← hw2]
 clear hw2
 refine (zlibParts_ok (d + 1) w2).mono ?_
 rintro e w3 ⟨rfl, hw3⟩
 rw [hz2] at hw3 ⊢
 have hz3 : w3.heap.size = d + 3 + 1 := by rw [hw3]; simp [hz2]
 have hs3 : Step (fun _ => False) w2 w3 := by rw [hw3]; exact ((Step.refl _ _).alloc _).alloc _
 have hX3 : w3.heap[d + 2]? = some (.cells #[.pointer (some ⟨d + 1, 0, none⟩), .int .i64 0, .int .u32 1] 132 (0, 0)) := by
  rw [hw3, show d + 2 = w2.heap.size from hz2.symm]
  exact (Below.heap_alloc _ _ _ (by simp)).trans (heap_alloc_new _ _)
 have hP3 : w3.heap[d + 3]? = some (.cells #[zPart (d + 2) 0, zPart (d + 2) 1, zPart (d + 2) 2, zPart (d + 2) 3] 138 (0, 0)) := by
  rw [hw3, show d + 3 = (w2.alloc (.cells #[.pointer (some ⟨d + 1, 0, none⟩), .int .i64 0, .int .u32 1] 132)).heap.size by simp [hz2]]
  exact heap_alloc_new _ _
 clear hw3
 have hD3 := hs3.at_ hD2 (fun x => x)
 have k2 : w3.cell? ⟨d + 1, 2, none⟩ = some (.slice none 0 0) := blk_cell hD3 2 _ rfl
 have kf : w3.frozen? ⟨d + 1, 2, none⟩ = false := blk_free hD3 2
 have HFIN := hide (show NewP w (w3.setCell ⟨d + 1, 2, none⟩ (.slice (some ⟨d + 1 + 1 + 1, 0, none⟩) 4 4)) f most 4 (.cells #[.pointer (some ⟨d + 1, 0, none⟩), .int .i64 0, .int .u32 1] 132 (0, 0)) (zPart (d + 2)) (d + 3) from by
  obtain rfl : d = w.heap.size := by omega
  have hs4 : Step (· = w.heap.size + 1) w3 (w3.setCell ⟨w.heap.size + 1, 2, none⟩ (.slice (some ⟨w.heap.size + 1 + 1 + 1, 0, none⟩) 4 4)) := (Step.refl (· = w.heap.size + 1) w3).setCell (p := ⟨w.heap.size + 1, 2, none⟩) rfl _
  refine ⟨((hs1.trans hs2).trans hs3).trans' hs4 (fun k hk x => by omega), by simp [hz3], by omega, hs4.at_ ((hs2.trans hs3).at_ hd1 (fun x => x)) (by omega), ?_, hs4.at_ hX3 (by omega), fun j hj => ?_⟩
  ·have h9 := blk_set hD3 2 (.slice (some ⟨w.heap.size + 1 + 1 + 1, 0, none⟩) 4 4)
   simp at h9
   exact h9
  ·refine hs4.cell ?_ (by show ¬ (w.heap.size + 3 = w.heap.size + 1); omega)
   match j, hj with
   | 0, _ => exact blk_cell hP3 0 _ rfl
   | 1, _ => exact blk_cell hP3 1 _ rfl
   | 2, _ => exact blk_cell hP3 2 _ rfl
   | 3, _ => exact blk_cell hP3 3 _ rfl)
 clear hD3 hX3 hP3 hs1 hs2 hs3 hd1 hD2
 go_wp2_with fail
 go_ret2
 obtain rfl : d = w.heap.size := by omega
 exact ⟨rfl, unhide HFIN⟩
theorem zAll_used {B : List Nat} {most e : Nat} {out : List Nat} {used : Nat} (h : zAll B most e out used) : (e ≠ 0 → used = 0) ∧ (e = 0 → ∃ q n o, used = q / 8 + 4 ∧ q + 32 ≤ 8 * B.length ∧ GRun B n (gAt most 16) 0 o q) := by
 unfold zAll at h
 by_cases h1 : 0 + 8 ≤ 8 * B.length
 ·rw [if_pos h1] at h
  by_cases h2 : zOk1 (numAt B 0 8)
  ·rw [if_pos h2] at h
   unfold zSec at h
   by_cases h3 : 0 + 8 + 8 ≤ 8 * B.length
   ·rw [if_pos h3] at h
    by_cases h4 : zOk2 (numAt B 0 8) (numAt B (0 + 8) 8)
    ·rw [if_pos h4] at h
     obtain ⟨n, e1, o1, q1, hr, ht⟩ := h
     by_cases h5 : e1 = 0
     ·subst h5
      rw [if_pos rfl] at ht
      obtain ⟨_, ht⟩ := ht
      by_cases h6 : q1 + 32 ≤ 8 * B.length
      ·rw [if_pos h6] at ht
       by_cases h7 : bigAt B q1 4 = adWith 1 o1
       ·rw [if_pos h7] at ht
        exact ⟨fun x => absurd ht.1 x, fun _ => ⟨q1, n, o1, ht.2, h6, hr⟩⟩
       ·rw [if_neg h7] at ht
        exact ⟨fun _ => ht.2, fun x => by omega⟩
      ·rw [if_neg h6] at ht
       exact ⟨fun _ => ht.2, fun x => by omega⟩
     ·rw [if_neg h5] at ht
      exact ⟨fun _ => ht.2.2, fun x => absurd (ht.1.symm.trans x) h5⟩
    ·rw [if_neg h4] at h
     exact ⟨fun _ => h.2.2, fun x => by omega⟩
   ·rw [if_neg h3] at h
    exact ⟨fun _ => h.2.2, fun x => by omega⟩
  ·rw [if_neg h2] at h
   exact ⟨fun _ => h.2.2, fun x => by omega⟩
 ·rw [if_neg h1] at h
  exact ⟨fun _ => h.2.2, fun x => by omega⟩
theorem zAll_len {B : List Nat} {most e : Nat} {out : List Nat} {used : Nat} (h : zAll B most e out used) : out.length ≤ most := by
 have h0 : ∀ o : List Nat, o = [] → o.length ≤ most := fun o ho => by rw [ho]; exact Nat.zero_le _
 unfold zAll at h
 split at h
 ·split at h
  ·unfold zSec at h
   split at h
   ·split at h
    ·obtain ⟨n, e1, o1, q1, hr, ht⟩ := h
     have hlen := (gAt_run hr).2.2
     split at ht
     ·rw [ht.1]; exact hlen
     ·rw [ht.2.1]; exact hlen
    ·exact h0 _ h.2.1
   ·exact h0 _ h.2.1
  ·exact h0 _ h.2.1
 ·exact h0 _ h.2.1
end Go.Proofs.YtbpahojchgpdnaaGreatDoor
