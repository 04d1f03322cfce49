/- Proved here: what a Zlib comes to, by its bytes; nothing of the program. -/
import Derived.Test.YtbpahojchgpdnaaGreatDoorMiddle
import Derived.Test.YtbpahojchgpdnaaGreatDoorSummed
namespace Go.Proofs.YtbpahojchgpdnaaGreatDoor
open Go.RowKit Go.Bel Go.Maps
def gAt (most p : Nat) : GS := { gInit most with p := p }
def zTail (B : List Nat) (q : Nat) (o : List Nat) (e : Nat) (out : List Nat) (used : Nat) : Prop :=
 out = o ∧ if q + 32 ≤ 8 * B.length then (if bigAt B q 4 = adWith 1 o then e = 0 ∧ used = q / 8 + 4 else e = 12 ∧ used = 0) else e = 3 ∧ used = 0
def zBody (B : List Nat) (most p e : Nat) (out : List Nat) (used : Nat) : Prop :=
 ∃ n e1 o1 q1, GRun B n (gAt most p) e1 o1 q1 ∧ if e1 = 0 then zTail B q1 o1 e out used else e = e1 ∧ out = o1 ∧ used = 0
def zSec (B : List Nat) (most p c e : Nat) (out : List Nat) (used : Nat) : Prop :=
 if p + 8 ≤ 8 * B.length then (if zOk2 c (numAt B p 8) then zBody B most (p + 8) e out used else e = 4 ∧ out = [] ∧ used = 0) else e = 3 ∧ out = [] ∧ used = 0
def zAll (B : List Nat) (most e : Nat) (out : List Nat) (used : Nat) : Prop :=
 if 0 + 8 ≤ 8 * B.length then (if zOk1 (numAt B 0 8) then zSec B most (0 + 8) (numAt B 0 8) e out used else e = 4 ∧ out = [] ∧ used = 0) else e = 3 ∧ out = [] ∧ used = 0
theorem gAt_run {B : List Nat} {most p n e : Nat} {out : List Nat} {q : Nat} (h : GRun B n (gAt most p) e out q) : AllB out ∧ q % 8 = 0 ∧ out.length ≤ most := by
 obtain ⟨h1, h2⟩ := h.bytes (by intro y hy; simp [gAt, gInit] at hy) (by simp [gAt, gInit])
 exact ⟨h1, h2, h.most (by simp [gAt, gInit])⟩
end Go.Proofs.YtbpahojchgpdnaaGreatDoor
namespace Go.Proofs.YtbpahojchgpdnaaGreatDoor
open Go.RowKit Go.Bel Go.Maps
inductive TextR (B : List Nat) : Nat → List Nat → Bool → Nat → Prop
 | miss (p : Nat) (h : 8 * B.length < p + 8) : TextR B p [] false p
 | zero (p : Nat) (h : p + 8 ≤ 8 * B.length) (hz : numAt B p 8 = 0) : TextR B p [] true (p + 8)
 | more (p : Nat) (l : List Nat) (ok : Bool) (q : Nat) (h : p + 8 ≤ 8 * B.length) (hz : numAt B p 8 ≠ 0) (ht : TextR B (p + 8) l ok q) : TextR B p (numAt B p 8 :: l) ok q
theorem textR_ex (B : List Nat) : ∀ k p, 8 * B.length ≤ p + k → ∃ l ok q, TextR B p l ok q := by
 intro k
 induction k with
 | zero => intro p h; exact ⟨_, _, _, .miss p (by omega)⟩
 | succ k ih =>
  intro p h
  by_cases h1 : p + 8 ≤ 8 * B.length
  ·by_cases h2 : numAt B p 8 = 0
   ·exact ⟨_, _, _, .zero p h1 h2⟩
   ·obtain ⟨l, ok, q, ht⟩ := ih (p + 8) (by omega)
    exact ⟨_, _, _, .more p l ok q h1 h2 ht⟩
  ·exact ⟨_, _, _, .miss p (by omega)⟩
theorem TextR.len {B : List Nat} {p q : Nat} {l : List Nat} {ok : Bool} (h : TextR B p l ok q) : p + 8 * l.length ≤ 8 * B.length ∨ l = [] := by
 induction h with
 | miss p h => exact .inr rfl
 | zero p h hz => exact .inr rfl
 | more p l ok q h hz ht ih =>
  left
  rcases ih with ih | ih
  ·simp; omega
  ·subst ih; simpa using h
theorem TextR.bytes {B : List Nat} {p q : Nat} {l : List Nat} {ok : Bool} (h : TextR B p l ok q) : AllB l := by
 induction h with
 | miss p h => intro y hy; simp at hy
 | zero p h hz => intro y hy; simp at hy
 | more p l ok q h hz ht ih =>
  intro y hy
  rcases List.mem_cons.1 hy with rfl | hy
  ·exact numAt_lt B p 8
  ·exact ih y hy
def latinC (c : Nat) : List Nat := if c < 128 then [c] else [192 + c / 64, 128 + c % 64]
def latinB (l : List Nat) : List Nat := l.flatMap latinC
def baOf (l : List Nat) : ByteArray := ⟨(l.map UInt8.ofNat).toArray⟩
def gzNo (x : Nat) (nm : List Nat) (e : Nat) (out : List Nat) (used : Nat) (name : List Nat) : Prop := e = x ∧ out = [] ∧ used = 0 ∧ name = nm
def gzSize (B : List Nat) (q : Nat) (o nm : List Nat) (e : Nat) (out : List Nat) (used : Nat) (name : List Nat) : Prop :=
 out = o ∧ name = nm ∧ if q + 32 ≤ 8 * B.length then (if numAt B q 32 = o.length then e = 0 ∧ used = q / 8 + 4 else e = 12 ∧ used = 0) else e = 3 ∧ used = 0
def gzTail (B : List Nat) (q : Nat) (o nm : List Nat) (e : Nat) (out : List Nat) (used : Nat) (name : List Nat) : Prop :=
 if q + 32 ≤ 8 * B.length then (if numAt B q 32 = crcWith 0 o then gzSize B (q + 32) o nm e out used name else e = 12 ∧ out = o ∧ used = 0 ∧ name = nm) else e = 3 ∧ out = o ∧ used = 0 ∧ name = nm
def gzBody (B : List Nat) (most p : Nat) (nm : List Nat) (e : Nat) (out : List Nat) (used : Nat) (name : List Nat) : Prop :=
 ∃ n e1 o1 q1, GRun B n (gAt most p) e1 o1 q1 ∧ if e1 = 0 then gzTail B q1 o1 nm e out used name else e = e1 ∧ out = o1 ∧ used = 0 ∧ name = nm
def gzCheck (B : List Nat) (most fl p : Nat) (nm : List Nat) (e : Nat) (out : List Nat) (used : Nat) (name : List Nat) : Prop :=
 if fl / 2 % 2 = 1 then (if p + 16 ≤ 8 * B.length then (if numAt B p 16 = crcWith 0 (B.take (p / 8)) % 65536 then gzBody B most (p + 16) nm e out used name else gzNo 12 nm e out used name) else gzNo 3 nm e out used name) else gzBody B most p nm e out used name
def gzRemark (B : List Nat) (most fl p : Nat) (nm : List Nat) (e : Nat) (out : List Nat) (used : Nat) (name : List Nat) : Prop :=
 if fl / 16 % 2 = 1 then ∃ l ok q, TextR B p l ok q ∧ if ok = true then gzCheck B most fl q nm e out used name else gzNo 3 nm e out used name else gzCheck B most fl p nm e out used name
def gzName (B : List Nat) (most fl p : Nat) (l0 : List Nat) (e : Nat) (out : List Nat) (used : Nat) (name : List Nat) : Prop :=
 if fl / 8 % 2 = 1 then ∃ l ok q, TextR B p l ok q ∧ if ok = true then gzRemark B most fl q (latinB (l0 ++ l)) e out used name else gzNo 3 [] e out used name else gzRemark B most fl p [] e out used name
def gzPass (B : List Nat) (most fl p left : Nat) (e : Nat) (out : List Nat) (used : Nat) (name : List Nat) : Prop :=
 if fl / 4 % 2 = 1 then (if p + 8 * left ≤ 8 * B.length then gzName B most fl (p + 8 * left) [] e out used name else gzNo 3 [] e out used name) else gzName B most fl p [] e out used name
def gzExtra (B : List Nat) (most fl p : Nat) (e : Nat) (out : List Nat) (used : Nat) (name : List Nat) : Prop :=
 if fl / 4 % 2 = 1 then (if p + 16 ≤ 8 * B.length then gzPass B most fl (p + 16) (numAt B p 16) e out used name else gzNo 3 [] e out used name) else gzName B most fl p [] e out used name
def gzSkip (B : List Nat) (most fl p left : Nat) (e : Nat) (out : List Nat) (used : Nat) (name : List Nat) : Prop :=
 if p + 8 * left ≤ 8 * B.length then gzExtra B most fl (p + 8 * left) e out used name else gzNo 3 [] e out used name
def gzFlags (B : List Nat) (most p : Nat) (e : Nat) (out : List Nat) (used : Nat) (name : List Nat) : Prop :=
 if p + 8 ≤ 8 * B.length then (if numAt B p 8 < 32 then gzSkip B most (numAt B p 8) (p + 8) 6 e out used name else gzNo 4 [] e out used name) else gzNo 3 [] e out used name
def gzMark (B : List Nat) (m p : Nat) (K : Nat → List Nat → Nat → List Nat → Prop) (e : Nat) (out : List Nat) (used : Nat) (name : List Nat) : Prop :=
 if p + 8 ≤ 8 * B.length then (if numAt B p 8 = m then K e out used name else gzNo 4 [] e out used name) else gzNo 3 [] e out used name
def gz2 (B : List Nat) (most : Nat) : Nat → List Nat → Nat → List Nat → Prop := gzMark B 8 16 (gzFlags B most 24)
def gz1 (B : List Nat) (most : Nat) : Nat → List Nat → Nat → List Nat → Prop := gzMark B 139 8 (gz2 B most)
def gzAll (B : List Nat) (most : Nat) : Nat → List Nat → Nat → List Nat → Prop := gzMark B 31 0 (gz1 B most)
end Go.Proofs.YtbpahojchgpdnaaGreatDoor
namespace Go.Proofs.YtbpahojchgpdnaaGreatDoor
open Go.RowKit Go.Bel Go.Maps
theorem numAt_low (B : List Nat) (k n : Nat) (h : n ≤ 8) : numAt B (8 * k) n = B[k]?.getD 0 % 2 ^ n := by
 induction n with
 | zero => simp [numAt, Nat.mod_one]
 | succ n ih =>
  have e1 : (8 * k + n) / 8 = k := by omega
  have e2 : (8 * k + n) % 8 = n := by omega
  unfold numAt bitAt
  rw [ih (by omega), e1, e2, Nat.pow_succ, Nat.mod_mul]
  rw [Nat.mul_comm]
theorem numAt_add (B : List Nat) (p m n : Nat) : numAt B p (m + n) = numAt B p m + 2 ^ m * numAt B (p + m) n := by
 induction n with
 | zero => simp [numAt]
 | succ n ih =>
  show numAt B p (m + n) + bitAt B (p + (m + n)) * 2 ^ (m + n) = _
  rw [ih]
  show _ = numAt B p m + 2 ^ m * (numAt B (p + m) n + bitAt B (p + m + n) * 2 ^ n)
  rw [Nat.pow_add, ← Nat.add_assoc p m n, Nat.mul_add, Nat.add_assoc, Nat.mul_left_comm (2 ^ m)]
end Go.Proofs.YtbpahojchgpdnaaGreatDoor
