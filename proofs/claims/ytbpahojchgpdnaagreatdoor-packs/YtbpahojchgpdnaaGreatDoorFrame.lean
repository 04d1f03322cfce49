/- Proved here: what readFirsts does where all its bits are there and the lengths may be. -/
import Derived.Deep.RegionHeld3
import Derived.Test.YtbpahojchgpdnaaGreatDoorGround
import Derived.Deep.RegionLaw
import Derived.Deep.AppendLies
namespace Go.Proofs.YtbpahojchgpdnaaGreatDoor
open Go.RowKit Go.Bel Go.Maps
def fsTo (B : List Nat) (p : Nat) : Nat → Nat → Nat
 | 0, _ => 0
 | k + 1, i => if i = orderList[k]?.getD 0 then numAt B (p + 3 * k) 3 else fsTo B p k i
theorem fsTo_le (B : List Nat) (p k i : Nat) : fsTo B p k i ≤ 7 := by
 induction k with
 | zero => simp [fsTo]
 | succ k ih =>
  rw [fsTo]
  split
  ·have := numAt_lt B (p + 3 * k) 3; omega
  ·exact ih
def firstLens (B : List Nat) (p c : Nat) : List Nat := (List.range 19).map (fsTo B p c)
theorem firstLens_length (B : List Nat) (p c : Nat) : (firstLens B p c).length = 19 := by simp [firstLens]
theorem firstLens_get (B : List Nat) (p c i : Nat) (hi : i < 19) : (firstLens B p c)[i]?.getD 0 = fsTo B p c i := by simp [firstLens, hi]
theorem firstLens_le (B : List Nat) (p c i : Nat) : (firstLens B p c)[i]?.getD 0 ≤ 15 := by
 by_cases hi : i < 19
 ·rw [firstLens_get _ _ _ _ hi]; have := fsTo_le B p c i; omega
 ·rw [List.getElem?_eq_none (by rw [firstLens_length]; omega)]; simp
theorem order_lt (i : Nat) : orderList[i]?.getD 0 < 19 := by
 by_cases hi : i < 19
 ·have : i = 0 ∨ i = 1 ∨ i = 2 ∨ i = 3 ∨ i = 4 ∨ i = 5 ∨ i = 6 ∨ i = 7 ∨ i = 8 ∨ i = 9 ∨ i = 10 ∨ i = 11 ∨ i = 12 ∨ i = 13 ∨ i = 14 ∨ i = 15 ∨ i = 16 ∨ i = 17 ∨ i = 18 := by omega
  rcases this with rfl | rfl | rfl | rfl | rfl | rfl | rfl | rfl | rfl | rfl | rfl | rfl | rfl | rfl | rfl | rfl | rfl | rfl | rfl <;> decide
 ·rw [List.getElem?_eq_none (by simp [orderList]; omega)]; simp
structure OrderAt (w : World) : Prop where
 order : ∀ i : Nat, i < 19 → w.cell? ⟨0, i, none⟩ = some (.int .i64 (orderList[i]?.getD 0 : Nat))
 many : w.cell? ⟨1, 0, none⟩ = some (.int .i64 18) ∧ w.cell? ⟨1, 1, none⟩ = some (.int .i64 11) ∧ w.cell? ⟨1, 2, none⟩ = some (.int .i64 7)
 few : w.cell? ⟨2, 0, none⟩ = some (.int .i64 17) ∧ w.cell? ⟨2, 1, none⟩ = some (.int .i64 3) ∧ w.cell? ⟨2, 2, none⟩ = some (.int .i64 3)
 again : w.cell? ⟨3, 0, none⟩ = some (.int .i64 16) ∧ w.cell? ⟨3, 1, none⟩ = some (.int .i64 3) ∧ w.cell? ⟨3, 2, none⟩ = some (.int .i64 2)
theorem OrderAt.step {S : Nat → Prop} {w w' : World} (h : OrderAt w) (hs : Step S w w') (hn : ∀ k, k < 4 → ¬ S k) : OrderAt w' :=
 ⟨fun i hi => hs.cell (h.order i hi) (hn 0 (by omega)), ⟨hs.cell h.many.1 (hn 1 (by omega)), hs.cell h.many.2.1 (hn 1 (by omega)), hs.cell h.many.2.2 (hn 1 (by omega))⟩,
  ⟨hs.cell h.few.1 (hn 2 (by omega)), hs.cell h.few.2.1 (hn 2 (by omega)), hs.cell h.few.2.2 (hn 2 (by omega))⟩, ⟨hs.cell h.again.1 (hn 3 (by omega)), hs.cell h.again.2.1 (hn 3 (by omega)), hs.cell h.again.2.2 (hn 3 (by omega))⟩⟩
end Go.Proofs.YtbpahojchgpdnaaGreatDoor
namespace Go.Proofs.YtbpahojchgpdnaaGreatDoor
open Go.RowKit Go.Bel
def Lies (w : World) (k off : Nat) (xs : List Nat) : Prop := ∀ i : Nat, i < xs.length → w.cell? ⟨k, off + i, none⟩ = some (.int .u8 (xs[i]?.getD 0 : Nat))
theorem Lies.news {w : World} {k off : Nat} {xs : List Nat} (h : Lies w k off xs) : ∀ j u, (u8s xs)[j]? = some u → w.cell? ((⟨k, off, none⟩ : Addr).add j) = some u := by
 intro j u hu
 have hj : j < xs.length := by
  rcases Nat.lt_or_ge j xs.length with h1 | h1
  ·exact h1
  ·rw [List.getElem?_eq_none (by simpa using h1)] at hu; cases hu
 rw [u8s_get xs j hj] at hu
 cases hu
 have h2 := h j hj
 have hadd : (⟨k, off, none⟩ : Addr).add j = ⟨k, off + j, none⟩ := by unfold Addr.add; split <;> simp_all
 rw [hadd]
 exact h2
theorem u8s_one (xs : List Nat) : ∀ u ∈ u8s xs, u.oneCell' = true := by
 intro u hu
 simp only [u8s, List.mem_map] at hu
 obtain ⟨c, _, rfl⟩ := hu
 rfl
end Go.Proofs.YtbpahojchgpdnaaGreatDoor
namespace Go.Proofs.YtbpahojchgpdnaaGreatDoor
open Go.RowKit Go.Bel Go.Maps
theorem Tryz.info3 : (Tryz.prog.info? 3).map (fun i => (i.zero, i.size, i.bytes)) = some (some (.int .i64 0), 1, 8) := by kernel_rfl
structure CodeAt (longest : Nat) (M : Tab) (B : List Nat) (p q s : Nat) : Prop where
 lt : p < q
 le : q - p ≤ longest
 there : q ≤ 8 * B.length
 is : M (keyAt B p (q - p)) = some s
 no : ∀ j, 1 ≤ j → j < q - p → M (keyAt B p j) = none
abbrev i64s (L : List Nat) : List Value := L.map fun c => Value.int .i64 (c : Nat)
end Go.Proofs.YtbpahojchgpdnaaGreatDoor
namespace Go.Bel
open Go Go.RowKit Go.Proofs.YtbpahojchgpdnaaGreatDoor
inductive R (α : Type) where
 | ok (a : α) (q : Nat)
 | no (e : Nat)
 | miss
def rSymF (D : Dealt) (B : List Nat) (p : Nat) : Nat → Nat → R Nat
 | 0, _ => .no 9
 | r + 1, j => if p + j < 8 * B.length then (match D.tab (keyAt B p (j + 1)) with | some s => .ok s (p + (j + 1)) | none => rSymF D B p r (j + 1)) else .miss
def rSym (D : Dealt) (B : List Nat) (p : Nat) : R Nat := rSymF D B p D.longest 0
def rLens (B : List Nat) (q s : Nat) (row : List Nat) : R (Nat × Nat) :=
 if s < 16 then .ok (s, 1) q
 else if s = 16 then (if q + 2 ≤ 8 * B.length then .ok (row[row.length - 1]?.getD 0, numAt B q 2 + 3) (q + 2) else .miss)
 else if s = 17 then (if q + 3 ≤ 8 * B.length then .ok (0, numAt B q 3 + 3) (q + 3) else .miss)
 else (if q + 7 ≤ 8 * B.length then .ok (0, numAt B q 7 + 11) (q + 7) else .miss)
def rRowF (D : Dealt) (B : List Nat) (n : Nat) : Nat → Nat → List Nat → R (List Nat)
 | 0, p, row => .ok row p
 | k + 1, p, row =>
  if n ≤ row.length then .ok row p else
  match rSym D B p with
  | .no e => .no e
  | .miss => .miss
  | .ok s q =>
   if s = 16 ∧ row.length = 0 then .no 8 else
   match rLens B q s row with
   | .no e => .no e
   | .miss => .miss
   | .ok lt q' => if n < row.length + lt.2 then .no 8 else rRowF D B n k q' (row ++ List.replicate lt.2 lt.1)
def rRow (D : Dealt) (B : List Nat) (n p : Nat) : R (List Nat) := rRowF D B n n p []
def farB (L : List Nat) : Bool := cntTo L L.length == 0 || mayB L
def rDealt (row : List Nat) (a q : Nat) : R (List Nat × List Nat) :=
 if 0 < row[256]?.getD 0 ∧ mayB (row.take a) = true ∧ farB (row.drop a) = true then .ok (row.take a, row.drop a) q else .no 7
def rCoding (B : List Nat) (p : Nat) : R (List Nat × List Nat) :=
 if p + 14 ≤ 8 * B.length then
  let a := numAt B p 5 + 257
  let b := numAt B (p + 5) 5 + 1
  let c := numAt B (p + 10) 4 + 4
  if 286 < a ∨ 30 < b then .no 7
  else if p + 14 + 3 * c ≤ 8 * B.length then
   (if mayB (firstLens B (p + 14) c) = true then
    (match rRow (dealAll (firstLens B (p + 14) c)) B (a + b) (p + 14 + 3 * c) with
    | .ok row q => rDealt row a q
    | .no e => .no e
    | .miss => .miss)
   else .no 7)
  else .miss
 else .miss
structure GS where
 out : List Nat
 most : Nat
 place : Nat
 last : Bool
 left : Nat
 ls : List Nat
 ld : List Nat
 p : Nat
 taken : Nat := 0
def GS.ended (s : GS) (p : Nat) : GS := { s with place := if s.last then 3 else 0, p := if s.last then (p + 7) / 8 * 8 else p }
inductive G where
 | go (s : GS)
 | no (e : Nat) (out : List Nat)
 | miss
def fixLensG : List Nat := List.replicate 144 8 ++ List.replicate 112 9 ++ List.replicate 24 7 ++ List.replicate 8 8
def fixDist : List Nat := List.replicate 32 5
def gPut (s : GS) (xs : List Nat) (p : Nat) : G :=
 if s.out.length + xs.length ≤ s.most then .go { s with out := s.out ++ xs, p := p } else .no 11 (s.out ++ xs.take (s.most - s.out.length))
def gHead (B : List Nat) (s : GS) : G :=
 if s.p + 3 ≤ 8 * B.length then
  if numAt B (s.p + 1) 2 = 0 then
   (if (s.p + 3 + 7) / 8 * 8 + 32 ≤ 8 * B.length then
    (if numAt B ((s.p + 3 + 7) / 8 * 8 + 16) 16 = 65535 - numAt B ((s.p + 3 + 7) / 8 * 8) 16 then
     .go { s with last := bitAt B s.p == 1, left := numAt B ((s.p + 3 + 7) / 8 * 8) 16, place := 1, p := (s.p + 3 + 7) / 8 * 8 + 32 }
    else .no 6 s.out)
   else .miss)
  else if numAt B (s.p + 1) 2 = 1 then .go { s with last := bitAt B s.p == 1, place := 2, ls := fixLensG, ld := fixDist, p := s.p + 3 }
  else if numAt B (s.p + 1) 2 = 2 then
   (match rCoding B (s.p + 3) with
   | .ok ab q => .go { s with last := bitAt B s.p == 1, place := 2, ls := ab.1, ld := ab.2, p := q }
   | .no e => .no e s.out
   | .miss => .miss)
  else .no 5 s.out
 else .miss
def gByte (B : List Nat) (s : GS) : G :=
 if s.left = 0 then .go (s.ended s.p)
 else if s.p + 8 ≤ 8 * B.length then gPut { s with left := s.left - 1 } [numAt B s.p 8] (s.p + 8) else .miss
def rLength (B : List Nat) (q c : Nat) : R Nat :=
 if 285 < c then .no 9
 else if c = 285 then .ok 258 q
 else if c < 265 then .ok (c - 257 + 3) q
 else if q + (c - 261) / 4 ≤ 8 * B.length then .ok ((4 + (c - 265) % 4) * 2 ^ ((c - 261) / 4) + 3 + numAt B q ((c - 261) / 4)) (q + (c - 261) / 4)
 else .miss
def rDist (D : Dealt) (B : List Nat) (q : Nat) : R Nat :=
 match rSym D B q with
 | .no e => .no e
 | .miss => .miss
 | .ok s q' =>
  if 30 ≤ s then .no 9
  else if s < 4 then .ok (s + 1) q'
  else if q' + (s / 2 - 1) ≤ 8 * B.length then .ok ((2 + s % 2) * 2 ^ (s / 2 - 1) + 1 + numAt B q' (s / 2 - 1)) (q' + (s / 2 - 1))
  else .miss
def copied (out : List Nat) (dist len : Nat) : List Nat := (List.range len).map fun i => out[out.length - dist + i % dist]?.getD 0
def gCopy (B : List Nat) (s : GS) (c q : Nat) : G :=
 match rLength B q c with
 | .no e => .no e s.out
 | .miss => .miss
 | .ok n q1 =>
  match rDist (dealAll s.ld) B q1 with
  | .no e => .no e s.out
  | .miss => .miss
  | .ok dist q2 => if s.out.length < dist then .no 10 s.out else gPut s (copied s.out dist n) q2
def gSym (B : List Nat) (s : GS) : G :=
 match rSym (dealAll s.ls) B s.p with
 | .no e => .no e s.out
 | .miss => .miss
 | .ok c q => if c < 256 then gPut s [c] q else if c = 256 then .go (s.ended q) else gCopy B s c q
def gStep (B : List Nat) (s : GS) : G := if s.place = 1 then gByte B s else if s.place = 2 then gSym B s else gHead B s
inductive GRun (B : List Nat) : Nat → GS → Nat → List Nat → Nat → Prop
 | done (s : GS) (h : s.place = 3) : GRun B 0 s 0 s.out s.p
 | no (s : GS) (e : Nat) (out : List Nat) (h3 : s.place ≠ 3) (h : gStep B s = .no e out) : GRun B 1 s e out 0
 | miss (s : GS) (h3 : s.place ≠ 3) (h : gStep B s = .miss) : GRun B 1 s 3 s.out 0
 | go (n : Nat) (s s1 : GS) (e : Nat) (out : List Nat) (q : Nat) (h3 : s.place ≠ 3) (h : gStep B s = .go s1) (k : GRun B n s1 e out q) : GRun B (n + 1) s e out q
theorem rSymF_ok (D : Dealt) (B : List Nat) (p : Nat) : ∀ r j s q, rSymF D B p r j = .ok s q → p + j < q ∧ q ≤ 8 * B.length ∧ q ≤ p + j + r ∧ D.tab (keyAt B p (q - p)) = some s := by
 intro r
 induction r with
 | zero => intro j s q h; simp [rSymF] at h
 | succ r ih =>
  intro j s q h
  rw [rSymF] at h
  split at h
  ·rename_i hlt
   split at h
   ·rename_i s' hs
    simp only [R.ok.injEq] at h
    obtain ⟨rfl, rfl⟩ := h
    refine ⟨by omega, by omega, by omega, ?_⟩
    rw [show p + (j + 1) - p = j + 1 by omega]; exact hs
   ·have := ih (j + 1) s q h
    exact ⟨by omega, by omega, by omega, this.2.2.2⟩
  ·simp at h
theorem rSym_ok {D : Dealt} {B : List Nat} {p s q : Nat} (h : rSym D B p = .ok s q) : p < q ∧ q ≤ 8 * B.length ∧ q ≤ p + D.longest ∧ D.tab (keyAt B p (q - p)) = some s := by
 have := rSymF_ok D B p D.longest 0 s q h
 exact ⟨by omega, by omega, by omega, this.2.2.2⟩
theorem rLens_ok {B : List Nat} {q s : Nat} {row : List Nat} {lt : Nat × Nat} {q' : Nat} (h : rLens B q s row = .ok lt q') (hq : q ≤ 8 * B.length) : q ≤ q' ∧ q' ≤ 8 * B.length ∧ 1 ≤ lt.2 := by
 unfold rLens at h
 split at h
 ·simp only [R.ok.injEq] at h; obtain ⟨rfl, rfl⟩ := h; exact ⟨Nat.le_refl _, hq, Nat.le_refl _⟩
 ·split at h
  ·split at h
   ·simp only [R.ok.injEq] at h; obtain ⟨rfl, rfl⟩ := h; exact ⟨by omega, by omega, by simp⟩
   ·simp at h
  ·split at h
   ·split at h
    ·simp only [R.ok.injEq] at h; obtain ⟨rfl, rfl⟩ := h; exact ⟨by omega, by omega, by simp⟩
    ·simp at h
   ·split at h
    ·simp only [R.ok.injEq] at h; obtain ⟨rfl, rfl⟩ := h; exact ⟨by omega, by omega, by simp⟩
    ·simp at h
theorem rLength_ok {B : List Nat} {q c n q' : Nat} (h : rLength B q c = .ok n q') (hq : q ≤ 8 * B.length) : q ≤ q' ∧ q' ≤ 8 * B.length := by
 unfold rLength at h
 split at h
 ·simp at h
 ·split at h
  ·simp only [R.ok.injEq] at h; obtain ⟨_, rfl⟩ := h; exact ⟨by omega, by omega⟩
  ·split at h
   ·simp only [R.ok.injEq] at h; obtain ⟨_, rfl⟩ := h; exact ⟨by omega, by omega⟩
   ·split at h
    ·simp only [R.ok.injEq] at h; obtain ⟨_, rfl⟩ := h; exact ⟨by omega, by omega⟩
    ·simp at h
theorem rDist_ok {D : Dealt} {B : List Nat} {q n q' : Nat} (h : rDist D B q = .ok n q') : q ≤ q' ∧ q' ≤ 8 * B.length := by
 unfold rDist at h
 split at h
 ·simp at h
 ·simp at h
 ·rename_i s q1 hs
  have h1 := rSym_ok hs
  split at h
  ·simp at h
  ·split at h
   ·simp only [R.ok.injEq] at h; obtain ⟨_, rfl⟩ := h; exact ⟨by omega, by omega⟩
   ·split at h
    ·simp only [R.ok.injEq] at h; obtain ⟨_, rfl⟩ := h; exact ⟨by omega, by omega⟩
    ·simp at h
theorem gPut_go {s s' : GS} {xs : List Nat} {p : Nat} (h : gPut s xs p = .go s') : s' = { s with out := s.out ++ xs, p := p } ∧ s.out.length + xs.length ≤ s.most := by
 unfold gPut at h
 split at h
 ·simp only [G.go.injEq] at h; exact ⟨h.symm, by omega⟩
 ·simp at h
theorem GRun.inv {B : List Nat} {k e : Nat} {s : GS} {out : List Nat} {q : Nat} (h : GRun B k s e out q) :
  (s.place = 3 ∧ e = 0 ∧ out = s.out ∧ q = s.p) ∨ (s.place ≠ 3 ∧ gStep B s = .no e out ∧ q = 0) ∨ (s.place ≠ 3 ∧ gStep B s = .miss ∧ e = 3 ∧ out = s.out ∧ q = 0) ∨ ∃ m s2, k = m + 1 ∧ s.place ≠ 3 ∧ gStep B s = .go s2 ∧ GRun B m s2 e out q := by
 cases h
 ·exact .inl ⟨‹_›, rfl, rfl, rfl⟩
 ·exact .inr (.inl ⟨‹_›, ‹_›, rfl⟩)
 ·exact .inr (.inr (.inl ⟨‹_›, ‹_›, rfl, rfl, rfl⟩))
 ·exact .inr (.inr (.inr ⟨_, _, rfl, ‹_›, ‹_›, ‹_›⟩))
end Go.Bel
namespace Go.Bel
theorem gPut_most {s : GS} {xs : List Nat} {p : Nat} (h : s.out.length ≤ s.most) : (∀ s', gPut s xs p = .go s' → s'.out.length ≤ s'.most ∧ s'.most = s.most) ∧ (∀ e out, gPut s xs p = .no e out → out.length ≤ s.most) := by
 constructor
 ·intro s' hp
  obtain ⟨rfl, hle⟩ := gPut_go hp
  exact ⟨by dsimp only; rw [List.length_append]; exact hle, rfl⟩
 ·intro e out hp
  unfold gPut at hp
  split at hp
  ·cases hp
  ·cases hp
   rw [List.length_append, List.length_take]
   omega
theorem gStep_most {B : List Nat} {s : GS} (h : s.out.length ≤ s.most) : (∀ s', gStep B s = .go s' → s'.out.length ≤ s'.most ∧ s'.most = s.most) ∧ (∀ e out, gStep B s = .no e out → out.length ≤ s.most) := by
 have he : ∀ p, (s.ended p).out.length ≤ (s.ended p).most ∧ (s.ended p).most = s.most := fun p => ⟨h, rfl⟩
 unfold gStep
 split
 ·unfold gByte
  split
  ·exact ⟨fun s' hs => (by cases hs; exact he _), fun e out hs => by cases hs⟩
  ·split
   ·exact gPut_most (s := { s with left := s.left - 1 }) h
   ·exact ⟨fun s' hs => (by cases hs), fun e out hs => by cases hs⟩
 ·split
  ·unfold gSym
   split
   ·exact ⟨fun s' hs => (by cases hs), fun e out hs => by cases hs; exact h⟩
   ·exact ⟨fun s' hs => (by cases hs), fun e out hs => by cases hs⟩
   ·split
    ·exact gPut_most h
    ·split
     ·exact ⟨fun s' hs => (by cases hs; exact he _), fun e out hs => by cases hs⟩
     ·unfold gCopy
      split
      ·exact ⟨fun s' hs => (by cases hs), fun e out hs => by cases hs; exact h⟩
      ·exact ⟨fun s' hs => (by cases hs), fun e out hs => by cases hs⟩
      ·split
       ·exact ⟨fun s' hs => (by cases hs), fun e out hs => by cases hs; exact h⟩
       ·exact ⟨fun s' hs => (by cases hs), fun e out hs => by cases hs⟩
       ·split
        ·exact ⟨fun s' hs => (by cases hs), fun e out hs => by cases hs; exact h⟩
        ·exact gPut_most h
  ·unfold gHead
   split
   ·split
    ·split
     ·split
      ·exact ⟨fun s' hs => (by cases hs; exact ⟨h, rfl⟩), fun e out hs => by cases hs⟩
      ·exact ⟨fun s' hs => (by cases hs), fun e out hs => by cases hs; exact h⟩
     ·exact ⟨fun s' hs => (by cases hs), fun e out hs => by cases hs⟩
    ·split
     ·exact ⟨fun s' hs => (by cases hs; exact ⟨h, rfl⟩), fun e out hs => by cases hs⟩
     ·split
      ·split
       ·exact ⟨fun s' hs => (by cases hs; exact ⟨h, rfl⟩), fun e out hs => by cases hs⟩
       ·exact ⟨fun s' hs => (by cases hs), fun e out hs => by cases hs; exact h⟩
       ·exact ⟨fun s' hs => (by cases hs), fun e out hs => by cases hs⟩
      ·exact ⟨fun s' hs => (by cases hs), fun e out hs => by cases hs; exact h⟩
   ·exact ⟨fun s' hs => (by cases hs), fun e out hs => by cases hs⟩
theorem GRun.most {B : List Nat} {n e : Nat} {s : GS} {out : List Nat} {q : Nat} (hr : GRun B n s e out q) (h : s.out.length ≤ s.most) : out.length ≤ s.most := by
 induction hr with
 | done s h3 => exact h
 | no s e out h3 hg => exact (gStep_most h).2 e out hg
 | miss s h3 hg => exact h
 | go n s s1 e out q h3 hg k ih =>
  have h1 := (gStep_most h).1 s1 hg
  have := ih h1.1
  rw [h1.2] at this
  exact this
end Go.Bel
