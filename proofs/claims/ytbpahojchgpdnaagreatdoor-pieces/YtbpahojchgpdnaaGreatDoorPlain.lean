/- Proved here: what dealRow and readCoding do where all lengths are told one by one, no distance has one, and the codes may be. -/
import Derived.Test.YtbpahojchgpdnaaGreatDoorFrame
namespace Go.Proofs.YtbpahojchgpdnaaGreatDoor
open Go.RowKit Go.Bel Go.Maps
theorem ints_take {w : World} {g : Nat} {L : List Nat} (h : Ints w g 0 L) (n : Nat) : Ints w g 0 (L.take n) :=
 ⟨fun i hi => by
   have hi2 : i < L.length := by simp at hi; omega
   have hi3 : i < n := by simp at hi; omega
   rw [h.cell i hi2, List.getElem?_take_of_lt hi3], fun i => by
   by_cases hi : i < n
   ·rw [List.getElem?_take_of_lt hi]; exact h.le i
   ·rw [List.getElem?_eq_none (by simp; omega)]; simp, by have := h.much; simp; omega⟩
theorem ints_drop {w : World} {g : Nat} {L : List Nat} (h : Ints w g 0 L) (n : Nat) : Ints w g n (L.drop n) :=
 ⟨fun i hi => by
   have hi2 : n + i < L.length := by simp at hi; omega
   have := h.cell (n + i) hi2
   rw [Nat.zero_add] at this
   rw [this, List.getElem?_drop], fun i => by rw [List.getElem?_drop]; exact h.le _, by have := h.much; simp; omega⟩
end Go.Proofs.YtbpahojchgpdnaaGreatDoor
namespace Go.Proofs.YtbpahojchgpdnaaGreatDoor
open Go.RowKit Go.Bel Go.Maps
structure ToldAt (B : List Nat) (p : Nat) (pos : Nat → Nat) (L : List Nat) : Prop where
 there : p + 71 ≤ 8 * B.length
 n1 : numAt B p 5 = 0
 n2 : numAt B (p + 5) 5 = 0
 n3 : numAt B (p + 10) 4 = 15
 may1 : mayB (firstLens B (p + 14) 19) = true
 pos0 : pos 0 = p + 71
 len : L.length = 258
 lt : ∀ i : Nat, L[i]?.getD 0 < 16
 code : ∀ i, i < 258 → CodeAt (dealAll (firstLens B (p + 14) 19)).longest (dealAll (firstLens B (p + 14) 19)).tab B (pos i) (pos (i + 1)) (L[i]?.getD 0)
 end_ : 0 < (L.take 257)[256]?.getD 0
 may : mayB (L.take 257) = true
 none_ : cntTo (L.drop 257) (L.drop 257).length = 0
structure HeadAt (B : List Nat) (p : Nat) (last : Bool) (kind : Nat) : Prop where
 there : p + 3 ≤ 8 * B.length
 last_ : bitAt B p = last.toNat
 kind_ : numAt B (p + 1) 2 = kind
theorem onSetLast {w : World} {d f base g off cap z p : Nat} {B : List Nat} {st : DSt} {b : Bool} (h : OnD w d f base g off cap z B st p) : OnD (w.setCell ⟨d, 5, none⟩ (.bool b)) d f base g off cap z B { st with last := b } p :=
 h.set 5 _ (by simp [DSt.cells]) rfl rfl
end Go.Proofs.YtbpahojchgpdnaaGreatDoor
namespace Go.Proofs.YtbpahojchgpdnaaGreatDoor
open Go.RowKit Go.Bel Go.Maps
structure PS where
 out : List Nat
 most : Nat
 place : Nat
 last : Bool
 left : Nat
 tab : Tab
 longest : Nat
 p : Nat
def PS.ended (s : PS) (p : Nat) : PS := { s with place := if s.last then 3 else 0, p := if s.last then (p + 7) / 8 * 8 else p }
def fixLens : List Nat := List.replicate 144 8 ++ List.replicate 112 9 ++ List.replicate 24 7 ++ List.replicate 8 8
inductive PStep (B : List Nat) : PS → PS → Prop
 | stored (s : PS) (q n : Nat) (last : Bool) (h0 : s.place = 0) (hh : HeadAt B s.p last 0) (hq : q = (s.p + 3 + 7) / 8 * 8) (hp : q + 32 ≤ 8 * B.length) (hn : numAt B q 16 = n) (hm : numAt B (q + 16) 16 = 65535 - n) (hn2 : n ≤ 65535) :
   PStep B s { s with last := last, left := n, place := 1, p := q + 32 }
 | told (s : PS) (last : Bool) (pos : Nat → Nat) (L : List Nat) (h0 : s.place = 0) (hh : HeadAt B s.p last 2) (ht : ToldAt B (s.p + 3) pos L) :
   PStep B s { s with last := last, place := 2, tab := (dealAll (L.take 257)).tab, longest := (dealAll (L.take 257)).longest, p := pos 258 }
 | fixed (s : PS) (last : Bool) (h0 : s.place = 0) (hh : HeadAt B s.p last 1) :
   PStep B s { s with last := last, place := 2, tab := (dealAll fixLens).tab, longest := (dealAll fixLens).longest, p := s.p + 3 }
 | byte (s : PS) (h0 : s.place = 1) (hl : 0 < s.left) (hl2 : s.left ≤ 65535) (hp : s.p + 8 ≤ 8 * B.length) (hr : s.out.length < s.most) :
   PStep B s { s with out := s.out ++ [numAt B s.p 8], left := s.left - 1, p := s.p + 8 }
 | bytes (s : PS) (h0 : s.place = 1) (hl : s.left = 0) (hp : s.p ≤ 8 * B.length) : PStep B s (s.ended s.p)
 | sym (s : PS) (q c : Nat) (h0 : s.place = 2) (hc : CodeAt s.longest s.tab B s.p q c) (h256 : c < 256) (hr : s.out.length < s.most) : PStep B s { s with out := s.out ++ [c], p := q }
 | syms (s : PS) (q : Nat) (h0 : s.place = 2) (hc : CodeAt s.longest s.tab B s.p q 256) : PStep B s (s.ended q)
inductive PMuch (B : List Nat) : PS → PS → Prop
 | byte (s : PS) (h0 : s.place = 1) (hl : 0 < s.left) (hl2 : s.left ≤ 65535) (hp : s.p + 8 ≤ 8 * B.length) (hr : s.out.length = s.most) : PMuch B s { s with left := s.left - 1, p := s.p + 8 }
 | sym (s : PS) (q c : Nat) (h0 : s.place = 2) (hc : CodeAt s.longest s.tab B s.p q c) (h256 : c < 256) (hr : s.out.length = s.most) : PMuch B s { s with p := q }
end Go.Proofs.YtbpahojchgpdnaaGreatDoor
namespace Go.Proofs.YtbpahojchgpdnaaGreatDoor
open Go.RowKit Go.Bel Go.Maps
def fixG (i : Nat) : Nat := if i < 144 then 8 else if i < 256 then 9 else if i < 280 then 7 else if i < 288 then 8 else 0
theorem four_length (a b c d x y z u : Nat) : (List.replicate a x ++ List.replicate b y ++ List.replicate c z ++ List.replicate d u).length = a + b + c + d := by
 simp only [List.length_append, List.length_replicate]
theorem four_get (a b c d x y z u i : Nat) : (List.replicate a x ++ List.replicate b y ++ List.replicate c z ++ List.replicate d u)[i]?.getD 0 = if i < a then x else if i < a + b then y else if i < a + b + c then z else if i < a + b + c + d then u else 0 := by
 by_cases h1 : i < a
 ·rw [if_pos h1, List.getElem?_append_left (by simp only [List.length_append, List.length_replicate]; omega), List.getElem?_append_left (by simp only [List.length_append, List.length_replicate]; omega), List.getElem?_append_left (by simp only [List.length_replicate]; omega), List.getElem?_replicate, if_pos h1]
  rfl
 rw [if_neg h1]
 by_cases h2 : i < a + b
 ·rw [if_pos h2, List.getElem?_append_left (by simp only [List.length_append, List.length_replicate]; omega), List.getElem?_append_left (by simp only [List.length_append, List.length_replicate]; omega), List.getElem?_append_right (by simp only [List.length_replicate]; omega), List.getElem?_replicate, List.length_replicate, if_pos (by omega)]
  rfl
 rw [if_neg h2]
 by_cases h3 : i < a + b + c
 ·rw [if_pos h3, List.getElem?_append_left (by simp only [List.length_append, List.length_replicate]; omega), List.getElem?_append_right (by simp only [List.length_append, List.length_replicate]; omega), List.getElem?_replicate, List.length_append, List.length_replicate, List.length_replicate, if_pos (by omega)]
  rfl
 rw [if_neg h3, List.getElem?_append_right (by simp only [List.length_append, List.length_replicate]; omega), List.getElem?_replicate]
 simp only [List.length_append, List.length_replicate]
 by_cases h4 : i < a + b + c + d
 ·rw [if_pos h4, if_pos (by omega)]; rfl
 ·rw [if_neg h4, if_neg (by omega)]; rfl
theorem fixLens_length : fixLens.length = 288 := four_length 144 112 24 8 8 9 7 8
theorem fixLens_get (i : Nat) : fixLens[i]?.getD 0 = fixG i := four_get 144 112 24 8 8 9 7 8 i
theorem fixG_le (i : Nat) : fixG i ≤ 9 := by unfold fixG; split <;> (try split) <;> (try split) <;> (try split) <;> omega
theorem fix_cnt8 (s : Nat) : s ≤ 288 → cntEq fixLens 8 s = min s 144 + (s - 280) := by
 induction s with
 | zero => intro _; rfl
 | succ s ih =>
  intro hs
  rw [cntEq, ih (by omega), fixLens_get]
  unfold fixG
  split
  ·rw [if_pos rfl]; omega
  ·split
   ·rw [if_neg (by omega)]; omega
   ·split
    ·rw [if_neg (by omega)]; omega
    ·split
     ·rw [if_pos rfl]; omega
     ·omega
theorem fix_cnt9 (s : Nat) : s ≤ 288 → cntEq fixLens 9 s = min (s - 144) 112 := by
 induction s with
 | zero => intro _; rfl
 | succ s ih =>
  intro hs
  rw [cntEq, ih (by omega), fixLens_get]
  unfold fixG
  split
  ·rw [if_neg (by omega)]; omega
  ·split
   ·rw [if_pos rfl]; omega
   ·split
    ·rw [if_neg (by omega)]; omega
    ·split
     ·rw [if_neg (by omega)]; omega
     ·omega
theorem fix_cnt7 (s : Nat) : s ≤ 288 → cntEq fixLens 7 s = min (s - 256) 24 := by
 induction s with
 | zero => intro _; rfl
 | succ s ih =>
  intro hs
  rw [cntEq, ih (by omega), fixLens_get]
  unfold fixG
  split
  ·rw [if_neg (by omega)]; omega
  ·split
   ·rw [if_neg (by omega)]; omega
   ·split
    ·rw [if_pos rfl]; omega
    ·split
     ·rw [if_neg (by omega)]; omega
     ·omega
theorem fix_cnt0 (l : Nat) (h1 : 1 ≤ l) (h7 : l ≠ 7) (h8 : l ≠ 8) (h9 : l ≠ 9) (s : Nat) : cntEq fixLens l s = 0 := by
 induction s with
 | zero => rfl
 | succ s ih =>
  rw [cntEq, ih, fixLens_get]
  unfold fixG
  split
  ·rw [if_neg (by omega)]
  ·split
   ·rw [if_neg (by omega)]
   ·split
    ·rw [if_neg (by omega)]
    ·split
     ·rw [if_neg (by omega)]
     ·rw [if_neg (by omega)]
theorem fix_low (l : Nat) (hl : l ≤ 6) : nx fixLens l = 2 ^ l := by
 induction l with
 | zero => rfl
 | succ l ih => rw [nx, ih (by omega), fix_cnt0 (l + 1) (by omega) (by omega) (by omega) (by omega), Nat.pow_succ]; omega
theorem fix_nx6 : nx fixLens 6 = 64 := fix_low 6 (by omega)
theorem fix_nx7 : nx fixLens 7 = 152 := by rw [nx, fix_nx6, fixLens_length, fix_cnt7 288 (by omega)]; omega
theorem fix_nx8 : nx fixLens 8 = 456 := by rw [nx, fix_nx7, fixLens_length, fix_cnt8 288 (by omega)]; omega
theorem fix_nx9 : nx fixLens 9 = 1024 := by rw [nx, fix_nx8, fixLens_length, fix_cnt9 288 (by omega)]; omega
theorem fix_nx (k : Nat) : nx fixLens (9 + k) = 1024 * 2 ^ k := by
 induction k with
 | zero => rw [Nat.add_zero, fix_nx9]
 | succ k ih => rw [show 9 + (k + 1) = (9 + k) + 1 from rfl, nx, ih, fix_cnt0 _ (by omega) (by omega) (by omega) (by omega), Nat.pow_succ]; omega
theorem fix_le (i : Nat) : fixLens[i]?.getD 0 ≤ 15 := by rw [fixLens_get]; have := fixG_le i; omega
theorem fix_may : mayB fixLens = true := by
 have h1 : nx fixLens 15 = 1024 * 2 ^ 6 := fix_nx 6
 rw [nx_eq, wTo_wgt fixLens fix_le] at h1
 have h2 : wgtTo fixLens fixLens.length = 32768 := by omega
 unfold mayB
 rw [h2]
 rfl
end Go.Proofs.YtbpahojchgpdnaaGreatDoor
