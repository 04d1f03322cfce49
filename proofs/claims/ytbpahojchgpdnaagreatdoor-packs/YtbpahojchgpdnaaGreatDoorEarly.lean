/- Proved here: what deal, Deal and DealDistances do. -/
import Derived.RangeFuncNested
import Derived.RangeFuncBound
import Derived.RangeFuncCalls
import Derived.RangeFuncLeaves
import Derived.RangeFuncWrites
import Derived.Shelf.Abstract
import Derived.Shelf.RegionOpen
import Derived.OwnWalkIn
import Derived.TacticsInMore
import Derived.LoopNIn
import Derived.LoopIn
import Derived.Maps.OwnIn
import Derived.Test.YtbpahojchgpdnaaGreatDoorCodesLen
import Derived.Deep.RegionHeld3
import Derived.RegionDies
import Derived.Test.YtbpahojchgpdnaaGreatDoorPlain
set_option maxRecDepth 20000
set_option maxHeartbeats 4000000
namespace Go.Proofs.YtbpahojchgpdnaaGreatDoor
open Go.RowKit Go.Shelf Go.Bel Go.Maps
def givIn (L : List Nat) (l : Nat) (st : Dealt) : Nat → List (Nat × Nat)
 | 0 => []
 | k + 1 => givIn L l st k ++ (if L[k]?.getD 0 = l then [((dealIn L l st k).next, k)] else [])
def stIn (L : List Nat) (l : Nat) : Dealt := ⟨2 * (dealTo L l).next, (dealTo L l).tab, (dealTo L l).longest⟩
def givTo (L : List Nat) : Nat → List (Nat × Nat)
 | 0 => []
 | l + 1 => givTo L l ++ givIn L (l + 1) (stIn L l) L.length
theorem givIn_length (L : List Nat) (l : Nat) (st : Dealt) (k : Nat) : (givIn L l st k).length ≤ k := by
 induction k with
 | zero => simp [givIn]
 | succ k ih =>
  rw [givIn, List.length_append]
  split <;> simp <;> omega
theorem givTo_length (L : List Nat) (l : Nat) : (givTo L l).length ≤ l * L.length := by
 induction l with
 | zero => simp [givTo]
 | succ l ih =>
  have := givIn_length L (l + 1) (stIn L l) L.length
  rw [givTo, List.length_append, Nat.succ_mul]
  omega
theorem next_bd (L : List Nat) (h15 : ∀ i : Nat, L[i]?.getD 0 ≤ 15) (hm : mayB L = true) (l k : Nat) (hl : l < 15) (hk : k < L.length) (hq : L[k]?.getD 0 = l + 1) :
  2 ^ (l + 1) ≤ (dealIn L (l + 1) (stIn L l) k).next ∧ (dealIn L (l + 1) (stIn L l) k).next < 2 ^ (l + 2) ∧ (dealIn L (l + 1) (stIn L l) k).next < 65536 := by
 have e : (dealIn L (l + 1) (stIn L l) k).next = Go.Bel.keyOf L k := by
  rw [dealIn_next]
  unfold Go.Bel.keyOf stIn
  dsimp only
  rw [hq, dealTo_next, show l + 1 - 1 = l by omega]
 have h1 := keyOf_lt L k hk (by omega)
 have h2 := room L h15 hm
 have h3 := nx_mono L (show l + 1 ≤ 15 by omega)
 have h4 := nx_pos L l
 rw [hq] at h1
 have h5 : 2 ^ (l + 2) * 2 ^ (15 - (l + 1)) = 65536 := by
  rw [← Nat.pow_add, show l + 2 + (15 - (l + 1)) = 16 by omega]
 have h6 : nx L (l + 1) ≤ 2 ^ (l + 2) := by
  have hp : 0 < 2 ^ (15 - (l + 1)) := Nat.pow_pos (by omega)
  exact Nat.le_of_mul_le_mul_right (by omega) hp
 have h7 : 2 * nx L l ≤ (dealIn L (l + 1) (stIn L l) k).next := by
  rw [dealIn_next]
  unfold stIn
  dsimp only
  rw [dealTo_next]
  omega
 have h8 : 2 ^ (l + 2) ≤ 2 ^ 16 := Nat.pow_le_pow_right (by omega) (by omega)
 rw [e] at h7 ⊢
 have h9 : 2 ^ (l + 1) = 2 * 2 ^ l := by rw [Nat.pow_succ, Nat.mul_comm]
 omega
def Keep2 (a b : Nat) (A B : World) : Prop := B.heap[a]? = A.heap[a]? ∧ B.heap[b]? = A.heap[b]?
theorem Keep2.trans {a b : Nat} {A B C : World} (h : Keep2 a b A B) (k : Keep2 a b B C) : Keep2 a b A C := ⟨k.1.trans h.1, k.2.trans h.2⟩
theorem Keep2.ints {a b off : Nat} {A B : World} {L : List Nat} (h : Keep2 a b A B) (hc : Ints A b off L) : Ints B b off L :=
 ⟨fun i hi => (World.cell?_of_block (a := ⟨b, off + i, none⟩) h.2).trans (hc.cell i hi), hc.le, hc.much⟩
attribute [local go_sem] Oper.semAt_some
theorem dealt_in (F : Fence) (n : Nat) (h5 : F.fn 157) (hro : F.round = none) (a : Option Addr) (len cap : Nat) (w : World) :
  CallsIn F n Tryz.prog 157 #[.slice a len cap] w fun e w' => e = .returned (.func (.func 178) #[] #[.pointer (some ⟨w.heap.size, 0, none⟩)]) ∧ w' = w.alloc (.cells #[.slice a len cap] 57) := by
 refine callsIn_of_wp Tryz.func157 rfl h5 ?_ hro
 simp only [Tryz.ntmps157, List.size_toArray, List.length_cons, List.length_nil, Nat.reduceAdd, Nat.reduceSub, Array.replicate_succ, Array.replicate_zero, List.push_toArray, List.append_toArray, List.nil_append, List.cons_append]
 gi_wp2
 go_ret
 exact ⟨rfl, rfl⟩
end Go.Proofs.YtbpahojchgpdnaaGreatDoor
namespace Go.Proofs.YtbpahojchgpdnaaGreatDoor
open Go.RowKit Go.Bel Go.Maps
abbrev nat (a : Nat) : Value := .int .i64 (a : Nat)
end Go.Proofs.YtbpahojchgpdnaaGreatDoor
namespace Go.Proofs.YtbpahojchgpdnaaGreatDoor
open Go.RowKit Go.Bel Go.Maps
theorem rSymF_no (D : Dealt) (B : List Nat) (p : Nat) : ∀ r j e, rSymF D B p r j = .no e → e = 9 := by
 intro r
 induction r with
 | zero => intro j e h; simp only [rSymF, R.no.injEq] at h; exact h.symm
 | succ r ih =>
  intro j e h
  rw [rSymF] at h
  split at h
  ·split at h
   ·simp at h
   ·exact ih _ _ h
  ·simp at h
theorem rSym_no {D : Dealt} {B : List Nat} {p e : Nat} (h : rSym D B p = .no e) : e = 9 := rSymF_no D B p _ _ _ h
theorem getD_append_rep (row : List Nat) (t l : Nat) (hrow : ∀ i : Nat, row[i]?.getD 0 ≤ 15) (hl : l ≤ 15) : ∀ i : Nat, (row ++ List.replicate t l)[i]?.getD 0 ≤ 15 := by
 intro i
 by_cases hi : i < row.length
 ·rw [List.getElem?_append_left hi]; exact hrow i
 ·rw [List.getElem?_append_right (by omega)]
  by_cases h2 : i - row.length < t
  ·simp [h2, hl]
  ·rw [List.getElem?_eq_none (by simp; omega)]; simp
end Go.Proofs.YtbpahojchgpdnaaGreatDoor
namespace Go.Proofs.YtbpahojchgpdnaaGreatDoor
open Go.RowKit Go.Bel Go.Maps
theorem cnt_zero (L : List Nat) (k : Nat) (h : cntTo L k = 0) : ∀ i, i < k → L[i]?.getD 0 = 0 := by
 induction k with
 | zero => intro i hi; omega
 | succ k ih =>
  rw [cntTo] at h
  intro i hi
  by_cases hk : i = k
  ·subst hk
   by_cases h0 : 0 < L[i]?.getD 0
   ·rw [if_pos h0] at h; omega
   ·omega
  ·exact ih (by omega) i (by omega)
theorem dealIn_none (L : List Nat) (l : Nat) (st : Dealt) (hl : 1 ≤ l) (k : Nat) (h : ∀ i, i < k → L[i]?.getD 0 = 0) : (dealIn L l st k).longest = st.longest := by
 induction k with
 | zero => rfl
 | succ k ih =>
  rw [dealIn]
  have := h k (by omega)
  rw [if_neg (by omega)]
  exact ih (fun i hi => h i (by omega))
theorem longest_zero (L : List Nat) (h : cntTo L L.length = 0) : (dealAll L).longest = 0 := by
 have h0 := cnt_zero L L.length h
 have : ∀ l, (dealTo L l).longest = 0 := by
  intro l
  induction l with
  | zero => rfl
  | succ l ih => rw [dealTo, dealIn_none L (l + 1) _ (by omega) L.length h0]; exact ih
 exact this 15
end Go.Proofs.YtbpahojchgpdnaaGreatDoor
namespace Go.Proofs.YtbpahojchgpdnaaGreatDoor
open Go.RowKit Go.Bel Go.Maps
theorem tab_lt {L : List Nat} (hL : L.length ≤ 1000) : ∀ c s, (dealAll L).tab c = some s → s < 100000 := fun c s h => by
 have := ((dealTo_tab L 15 c s).1 h).1
 omega
theorem longest_le (L : List Nat) : (dealAll L).longest ≤ 15 := dealTo_longest_le L 15
end Go.Proofs.YtbpahojchgpdnaaGreatDoor
