/- Proved here: how the codes that are dealt out are kept in a map; nothing of the program. -/
import Derived.Test.YtnoemlailgbpoaaDoorBase
import Derived.Maps.Own
import Derived.Maps.OwnOps
import Derived.Maps.OwnSet
namespace Go.Bel
open Go Go.RowKit Go.Maps

/- a code's key: what symbol it has, if one -/
abbrev Tab := Nat → Option Nat

def MapIs (D : DataW Unit) (M : Tab) : Prop :=
  ∀ key : Nat, (∀ s, M key = some s → Maps.has D (.int .u32 (key : Nat)) = true ∧ D.atKey (.int .u32 (key : Nat)) (.lit (.int .i64 0)) = .lit (.int .i64 (s : Nat))) ∧ (M key = none → Maps.has D (.int .u32 (key : Nat)) = false)

theorem mapIs_nil : MapIs (.map []) (fun _ => none) := fun key => ⟨fun s h => by simp at h, fun _ => rfl⟩

theorem lit_inj {k key : Nat} (e : Lit.int .u32 (k : Nat) = Lit.int .u32 (key : Nat)) : k = key := by
  have h2 : (k : Int) = (key : Int) := by simpa using e
  omega

theorem mapIs_put {D : DataW Unit} {M : Tab} (h : MapIs D M) (hD : IsMap D) (key s : Nat) : MapIs (D.put (.int .u32 (key : Nat)) (.lit (.int .i64 (s : Nat)))) (fun k => if k = key then some s else M k) := by
  intro k
  by_cases hk : k = key
  · subst hk
    refine ⟨fun s' hs => ?_, fun hn => by simp at hn⟩
    simp at hs
    subst hs
    exact ⟨has_put_same hD (by exact trivial) _, atKey_put_same hD (by exact trivial) _ _⟩
  · have hne : (Lit.int .u32 (k : Nat)) ≠ (Lit.int .u32 (key : Nat)) := fun e => hk (lit_inj e)
    have := h k
    simp only [if_neg hk]
    rw [has_put_other hne, atKey_put_other hne]
    exact this

/- the key of the first k bits from bit p on, the first the highest, behind a bit of value 1 -/
def keyAt (B : List Nat) (p : Nat) : Nat → Nat
  | 0 => 1
  | k + 1 => 2 * keyAt B p k + bitAt B (p + k)

theorem keyAt_bd (B : List Nat) (p k : Nat) : 2 ^ k ≤ keyAt B p k ∧ keyAt B p k < 2 ^ (k + 1) := by
  induction k with
  | zero => simp [keyAt]
  | succ k ih =>
    have := bitAt_lt B (p + k)
    rw [keyAt, Nat.pow_succ 2 k, Nat.pow_succ 2 (k + 1)]
    omega
theorem keyAt_lt (B : List Nat) (p k : Nat) (hk : k ≤ 15) : keyAt B p k < 65536 := by
  have := (keyAt_bd B p k).2
  have h : 2 ^ (k + 1) ≤ 2 ^ 16 := Nat.pow_le_pow_right (by omega) (by omega)
  omega

theorem or_two (a b : Nat) (hb : b < 2) : 2 * a ||| b = 2 * a + b := by
  have h := Nat.two_pow_add_eq_or_of_lt (i := 1) (b := b) (by simpa using hb) a
  simpa using h.symm

/- lengths that lie in memory -/
structure Ints (w : World) (g off : Nat) (L : List Nat) : Prop where
  cell : ∀ i : Nat, i < L.length → w.cell? ⟨g, off + i, none⟩ = some (.int .i64 (L[i]?.getD 0 : Nat))
  le : ∀ i : Nat, L[i]?.getD 0 ≤ 15
  much : L.length ≤ 1000

theorem Ints.step {S : Nat → Prop} {w w' : World} {g off : Nat} {L : List Nat} (h : Ints w g off L) (hs : Step S w w') (hn : ¬ S g) : Ints w' g off L :=
  ⟨fun i hi => hs.cell (h.cell i hi) hn, h.le, h.much⟩

/- how many of the first k lengths are above 0, and the sum of their shares, in parts of 2^15 -/
def cntTo (L : List Nat) : Nat → Nat
  | 0 => 0
  | k + 1 => cntTo L k + (if 0 < L[k]?.getD 0 then 1 else 0)
def wgtTo (L : List Nat) : Nat → Nat
  | 0 => 0
  | k + 1 => wgtTo L k + (if 0 < L[k]?.getD 0 then 32768 / 2 ^ (L[k]?.getD 0) else 0)
theorem cntTo_le (L : List Nat) (k : Nat) : cntTo L k ≤ k := by
  induction k with
  | zero => simp [cntTo]
  | succ k ih => rw [cntTo]; split <;> omega
theorem wgtTo_le (L : List Nat) (k : Nat) : wgtTo L k ≤ 32768 * k := by
  induction k with
  | zero => simp [wgtTo]
  | succ k ih =>
    rw [wgtTo]
    have : 32768 / 2 ^ (L[k]?.getD 0) ≤ 32768 := Nat.div_le_self _ _
    split <;> omega
def mayB (L : List Nat) : Bool := wgtTo L L.length == 32768 || (cntTo L L.length == 1 && wgtTo L L.length == 16384)

/- what deal has made so far: the next code's key, the table, the longest length -/
structure Dealt where
  next : Nat
  tab : Tab
  longest : Nat
def dealIn (L : List Nat) (l : Nat) (st : Dealt) : Nat → Dealt
  | 0 => st
  | k + 1 =>
    let x := dealIn L l st k
    if L[k]?.getD 0 = l then { next := x.next + 1, tab := fun c => if c = x.next then some k else x.tab c, longest := l } else x
def dealTo (L : List Nat) : Nat → Dealt
  | 0 => { next := 1, tab := fun _ => none, longest := 0 }
  | l + 1 => dealIn L (l + 1) ⟨2 * (dealTo L l).next, (dealTo L l).tab, (dealTo L l).longest⟩ L.length
def dealAll (L : List Nat) : Dealt := dealTo L 15

theorem dealIn_next_le (L : List Nat) (l : Nat) (st : Dealt) (k : Nat) : (dealIn L l st k).next ≤ st.next + k := by
  induction k with
  | zero => simp [dealIn]
  | succ k ih =>
    rw [dealIn]
    split
    · show (dealIn L l st k).next + 1 ≤ _; omega
    · omega
theorem dealTo_next_le (L : List Nat) (l : Nat) : (dealTo L l).next + L.length ≤ 2 ^ l * (1 + L.length) := by
  induction l with
  | zero => simp [dealTo]
  | succ l ih =>
    have := dealIn_next_le L (l + 1) ⟨2 * (dealTo L l).next, (dealTo L l).tab, (dealTo L l).longest⟩ L.length
    rw [dealTo, Nat.pow_succ]
    simp at this
    have e : 2 ^ l * 2 * (1 + L.length) = 2 * (2 ^ l * (1 + L.length)) := by rw [Nat.mul_comm (2 ^ l) 2, Nat.mul_assoc]
    rw [e]
    omega
theorem dealTo_bd (L : List Nat) (hL : L.length ≤ 1000) (l : Nat) (hl : l ≤ 15) : (dealTo L l).next ≤ 32800768 := by
  have h := dealTo_next_le L l
  have h2 : 2 ^ l ≤ 2 ^ 15 := Nat.pow_le_pow_right (by omega) hl
  have h3 : 2 ^ l * (1 + L.length) ≤ 2 ^ 15 * (1 + L.length) := Nat.mul_le_mul_right _ h2
  omega
theorem dealIn_longest_le (L : List Nat) (l : Nat) (st : Dealt) (h : st.longest ≤ l) (k : Nat) : (dealIn L l st k).longest ≤ l := by
  induction k with
  | zero => simpa [dealIn] using h
  | succ k ih =>
    rw [dealIn]
    split
    · exact Nat.le_refl _
    · exact ih
theorem dealTo_longest_le (L : List Nat) (l : Nat) : (dealTo L l).longest ≤ l := by
  induction l with
  | zero => simp [dealTo]
  | succ l ih => rw [dealTo]; exact dealIn_longest_le _ _ _ (by simp; omega) _
end Go.Bel
