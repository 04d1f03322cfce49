/- Proved here: what the finder's slot, common and pays answer. -/
import Derived.Deep.LoopGhost
import Derived.Deep.RegionHeld3
import Derived.Test.YtbpahojchgpdnaaGreatDoorFrame
set_option maxRecDepth 20000
set_option maxHeartbeats 4000000
namespace Go.Proofs.YtbpahojchgpdnaaGreatDoor
open Go.RowKit Go.Bel
structure FSrc (w : World) (F j off cap : Nat) (ys : List Nat) : Prop where
 cell : w.cell? ⟨F, 0, none⟩ = some (.slice (some ⟨j, off, none⟩) ys.length cap)
 lies : Lies w j off ys
 byte : ∀ i : Nat, ys[i]?.getD 0 < 256
 few : ys.length ≤ 1048576
def paysB (l d : Nat) : Bool := decide (3 < l) || (decide (l = 3) && decide (d ≤ 4096))
theorem pays_ok (l d : Nat) (w : World) : Calls Tryz.prog 163 #[.int .i64 (l : Nat), .int .i64 (d : Nat)] w fun e w' => e = .returned (.bool (paysB l d)) ∧ w' = w := by
 by_cases h1 : 3 < l
 ·have h1' : (l : Int) > 3 := by omega
  have HB := hide (show paysB l d = true by unfold paysB; rw [decide_eq_true h1]; rfl)
  go_enter Tryz.func163, Tryz.ntmps163
  go_wp2_with fail
  go_ret
  exact ⟨by rw [unhide HB]; rfl, rfl⟩
 ·have h1' : ¬ (l : Int) > 3 := by omega
  by_cases h2 : l = 3
  ·have h2' : ((l : Int) == 3) = true := beq_iff_eq.2 (by omega)
   by_cases h3 : d ≤ 4096
   ·have h3' : (d : Int) ≤ 4096 := by omega
    have HB := hide (show paysB l d = true by unfold paysB; rw [decide_eq_true h2, decide_eq_true h3]; simp)
    clear h2
    go_enter Tryz.func163, Tryz.ntmps163
    go_wp2_with fail
    go_ret
    exact ⟨by rw [unhide HB]; rfl, rfl⟩
   ·have h3' : ¬ (d : Int) ≤ 4096 := by omega
    have HB := hide (show paysB l d = false by unfold paysB; rw [decide_eq_false h1, decide_eq_false h3]; simp)
    clear h2
    go_enter Tryz.func163, Tryz.ntmps163
    go_wp2_with fail
    go_ret
    exact ⟨by rw [unhide HB]; rfl, rfl⟩
  ·have h2' : ((l : Int) == 3) = false := beq_eq_false_iff_ne.2 (by omega)
   have HB := hide (show paysB l d = false by unfold paysB; rw [decide_eq_false h1, decide_eq_false h2]; rfl)
   go_enter Tryz.func163, Tryz.ntmps163
   go_wp2_with fail
   go_ret
   exact ⟨by rw [unhide HB]; rfl, rfl⟩
def slotF (ys : List Nat) (p : Nat) : Nat := (bits BinOp.or IntKind.u32 (bits BinOp.or IntKind.u32 (ys[p]?.getD 0 : Int) ((ys[p + 1]?.getD 0 : Int) * 256)) ((ys[p + 2]?.getD 0 : Int) * 65536) * 2654435761 % 4294967296 / 131072).toNat
theorem slotF_lt (ys : List Nat) (p : Nat) : slotF ys p < 32768 := by unfold slotF; omega
theorem slot_ok (F j off cap p : Nat) (ys : List Nat) (w : World) (h : FSrc w F j off cap ys) (hp : p ≤ 1048576) :
  Calls Tryz.prog 181 #[.pointer (some ⟨F, 0, none⟩), .int .i64 (p : Nat)] w fun e w' => (if p + 3 ≤ ys.length then e = .returned (.tuple #[.int .i64 (slotF ys p : Nat), .bool true]) else e = .returned (.tuple #[.int .i64 0, .bool false])) ∧ Step (fun _ => False) w w' := by
 have c0 := h.cell
 by_cases hlt : p + 3 ≤ ys.length
 ·simp only [if_pos hlt]
  have hg : ¬ ((p : Int) + 3 > (ys.length : Int)) := by omega
  have q0 := h.lies p (by omega)
  have q1 := h.lies (p + 1) (by omega)
  have q2 := h.lies (p + 2) (by omega)
  have y0 := h.byte p
  have y1 := h.byte (p + 1)
  have y2 := h.byte (p + 2)
  unfold slotF
  generalize ys[p]?.getD 0 = a0 at *
  generalize ys[p + 1]?.getD 0 = a1 at *
  generalize ys[p + 2]?.getD 0 = a2 at *
  have hn := h.few
  obtain ⟨n, hnn⟩ : ∃ n, n = ys.length := ⟨_, rfl⟩
  rw [← hnn] at c0 hg hlt hn
  have i0 : (p : Int) < (n : Int) := by omega
  have i1 : (p : Int) + 1 < (n : Int) := by omega
  have i2 : (p : Int) + 2 < (n : Int) := by omega
  have z0 : (0 : Int) ≤ (p : Int) := by omega
  clear h hnn
  go_enter Tryz.func181, Tryz.ntmps181
  go_wp2_with fail
  go_region
  go_wp2_with fail
  go_ret2
  obtain ⟨X, hX⟩ : ∃ X : Int, X = bits BinOp.or IntKind.u32 (bits BinOp.or IntKind.u32 (a0 : Int) ((a1 : Int) * 256)) ((a2 : Int) * 65536) * 2654435761 % 4294967296 / 131072 := ⟨_, rfl⟩
  have hX0 : 0 ≤ X ∧ X < 32768 := by omega
  refine ⟨?_, (Step.refl _ _).drew⟩
  rw [← hX, show ((X.toNat : Nat) : Int) = X by omega, hX]
  rfl
 ·simp only [if_neg hlt]
  have hg : (p : Int) + 3 > (ys.length : Int) := by omega
  clear h
  generalize ys.length = n at *
  go_enter Tryz.func181, Tryz.ntmps181
  go_wp2_with fail
  go_ret2
  exact ⟨rfl, Step.refl _ _⟩
def commonF (ys : List Nat) : Nat → Nat → Nat → Nat
 | _, _, 0 => 0
 | p, q, m + 1 => if ys[p]?.getD 0 = ys[q]?.getD 0 then commonF ys (p + 1) (q + 1) m + 1 else 0
theorem commonF_le (ys : List Nat) : ∀ m p q, commonF ys p q m ≤ m := by
 intro m
 induction m with
 | zero => intro p q; simp [commonF]
 | succ m ih =>
  intro p q
  rw [commonF]
  split
  ·have := ih (p + 1) (q + 1); omega
  ·omega
theorem commonF_same (ys : List Nat) : ∀ m p q i, i < commonF ys p q m → ys[p + i]?.getD 0 = ys[q + i]?.getD 0 := by
 intro m
 induction m with
 | zero => intro p q i hi; simp [commonF] at hi
 | succ m ih =>
  intro p q i hi
  rw [commonF] at hi
  split at hi
  ·rename_i h
   cases i with
   | zero => exact h
   | succ i =>
    have := ih (p + 1) (q + 1) i (by omega)
    rw [show p + (i + 1) = p + 1 + i by omega, show q + (i + 1) = q + 1 + i by omega]
    exact this
  ·omega
theorem commonF_is (ys : List Nat) : ∀ m p q l, l ≤ m → (∀ i, i < l → ys[p + i]?.getD 0 = ys[q + i]?.getD 0) → (l = m ∨ ys[p + l]?.getD 0 ≠ ys[q + l]?.getD 0) → l = commonF ys p q m := by
 intro m
 induction m with
 | zero => intro p q l h _ _; simp [commonF]; omega
 | succ m ih =>
  intro p q l h1 h2 h3
  rw [commonF]
  cases l with
  | zero =>
   have h4 : ys[p]?.getD 0 ≠ ys[q]?.getD 0 := by
    rcases h3 with h3 | h3
    ·omega
    ·exact h3
   rw [if_neg h4]
  | succ l =>
   rw [if_pos (show ys[p]?.getD 0 = ys[q]?.getD 0 from h2 0 (by omega)), ← ih (p + 1) (q + 1) l (by omega) (fun i hi => by
    have := h2 (i + 1) (by omega)
    rw [show p + (i + 1) = p + 1 + i by omega, show q + (i + 1) = q + 1 + i by omega] at this
    exact this) (by
    rw [show p + (l + 1) = p + 1 + l by omega, show q + (l + 1) = q + 1 + l by omega] at h3
    rcases h3 with h3 | h3
    ·exact .inl (by omega)
    ·exact .inr h3)]
theorem common_ok (F j off cap p q m : Nat) (ys : List Nat) (w : World) (h : FSrc w F j off cap ys) (hpq : p ≤ q) (hm : q + m ≤ ys.length) :
  Calls Tryz.prog 162 #[.pointer (some ⟨F, 0, none⟩), .int .i64 (p : Nat), .int .i64 (q : Nat), .int .i64 (m : Nat)] w fun e w' => e = .returned (.int .i64 (commonF ys p q m : Nat)) ∧ Step (fun _ => False) w w' := by
 have HH := hide h
 have hfew := h.few
 clear h
 go_enter Tryz.func162, Tryz.ntmps162
 go_wp2_with fail
 go_loopg [9] m (fun g u9 wr => ∃ l : Nat, u9 = .int .i64 (l : Nat) ∧ g + l = m ∧ (∀ i, i < l → ys[p + i]?.getD 0 = ys[q + i]?.getD 0) ∧ Step (fun _ => False) w wr)
 case atStart => exact ⟨0, rfl, by omega, fun i hi => by omega, Step.refl _ _⟩
 case round =>
  obtain ⟨l, rfl, hg, heq, hst⟩ := hrel
  have HEQ := hide heq
  have HST := hide hst
  by_cases hlt : l < m
  ·have hlt' : (l : Int) < (m : Int) := by omega
   have c0 := hst.cell (p := ⟨F, 0, none⟩) (unhide HH).cell (fun y => y)
   have q0 := hst.cell (p := ⟨j, off + (p + l), none⟩) ((unhide HH).lies (p + l) (by omega)) (fun y => y)
   have q1 := hst.cell (p := ⟨j, off + (q + l), none⟩) ((unhide HH).lies (q + l) (by omega)) (fun y => y)
   obtain ⟨n, hnn⟩ : ∃ n, n = ys.length := ⟨_, rfl⟩
   obtain ⟨a, ha⟩ : ∃ a, a = p + l := ⟨_, rfl⟩
   obtain ⟨b, hb⟩ : ∃ b, b = q + l := ⟨_, rfl⟩
   rw [← hnn] at c0
   rw [← ha] at q0
   rw [← hb] at q1
   have ia : (p : Int) + (l : Int) = (a : Int) := by omega
   have ib : (q : Int) + (l : Int) = (b : Int) := by omega
   have ia1 : (a : Int) < (n : Int) := by omega
   have ib1 : (b : Int) < (n : Int) := by omega
   have ia0 : (0 : Int) ≤ (a : Int) := by omega
   have ib0 : (0 : Int) ≤ (b : Int) := by omega
   have iaw : IntKind.i64.wrap (a : Int) = (a : Int) := by rw [IntKind.wrap_i64]; omega
   have ibw : IntKind.i64.wrap (b : Int) = (b : Int) := by rw [IntKind.wrap_i64]; omega
   obtain ⟨x, hx⟩ : ∃ x, x = ys[a]?.getD 0 := ⟨_, rfl⟩
   obtain ⟨y, hy⟩ : ∃ y, y = ys[b]?.getD 0 := ⟨_, rfl⟩
   rw [← hx] at q0
   rw [← hy] at q1
   have HX := hide (show ys[p + l]?.getD 0 = x by rw [hx, ha])
   have HY := hide (show ys[q + l]?.getD 0 = y by rw [hy, hb])
   clear heq hst hnn ha hb hx hy
   by_cases hxy : x = y
   ·have hxy' : ((x : Int) == (y : Int)) = true := beq_iff_eq.2 (by omega)
    have HXY := hide hxy
    clear hxy
    go_wp2_with fail
    go_region
    go_wp2_with fail
    go_roundg (gk - 1)
    case measure => omega
    case rel =>
     refine ⟨l + 1, by simp, by omega, fun i hi => ?_, (unhide HST).drew⟩
     by_cases hil : i = l
     ·subst hil
      rw [unhide HX, unhide HY, unhide HXY]
     ·exact unhide HEQ i (by omega)
   ·have hxy' : ((x : Int) == (y : Int)) = false := beq_eq_false_iff_ne.2 (by omega)
    have HL := hide (commonF_is ys m p q l (by omega) (unhide HEQ) (.inr (by rw [unhide HX, unhide HY]; exact hxy)))
    clear hxy
    go_wp2_with fail
    go_region
    go_wp2_with fail
    go_ret
    exact ⟨by rw [← unhide HL]; rfl, (unhide HST).drew⟩
  ·have hlt' : ¬ (l : Int) < (m : Int) := by omega
   have HL := hide (commonF_is ys m p q l (by omega) heq (.inl (by omega)))
   clear heq hst
   go_wp2_with fail
   go_region
   go_wp2_with fail
   go_ret
   exact ⟨by rw [← unhide HL]; rfl, (unhide HST).drew⟩
end Go.Proofs.YtbpahojchgpdnaaGreatDoor
namespace Go.Proofs.YtbpahojchgpdnaaGreatDoor
open Go.RowKit Go.Bel
def nL (ys : List Nat) : Nat → Nat → Int
 | 0 => fun _ => -1
 | n + 1 => if n + 3 ≤ ys.length then fun t => if t = slotF ys n then (n : Int) else nL ys n t else nL ys n
def nA (ys : List Nat) : Nat → Nat → Int
 | 0 => fun _ => 0
 | n + 1 => if n + 3 ≤ ys.length then fun p => if p = n then nL ys n (slotF ys n) else nA ys n p else nA ys n
structure FAt (w : World) (F j off cap gl ga : Nat) (ys : List Nat) (noted : Nat) (L A : Nat → Int) : Prop where
 blk : w.heap[F]? = some (.cells #[.slice (some ⟨j, off, none⟩) ys.length cap, .int .i64 (noted : Nat), .slice (some ⟨gl, 0, none⟩) 32768 32768, .slice (some ⟨ga, 0, none⟩) ys.length ys.length] 182 (0, 0))
 lies : Lies w j off ys
 byte : ∀ i : Nat, ys[i]?.getD 0 < 256
 few : ys.length ≤ 1048576
 last : RowAt w gl 3 32768 (fun s => .int .i64 (L s))
 ahead : RowAt w ga 3 ys.length (fun p => .int .i64 (A p))
 apart : F ≠ gl ∧ F ≠ ga ∧ gl ≠ ga ∧ j ≠ F ∧ j ≠ gl ∧ j ≠ ga
 lok : ∀ s, s < 32768 → L s = -1 ∨ (0 ≤ L s ∧ L s < noted ∧ L s + 3 ≤ ys.length)
 aok : ∀ p, p < noted → p + 3 ≤ ys.length → A p = -1 ∨ (0 ≤ A p ∧ A p < p)
 isL : L = nL ys noted
 isA : A = nA ys noted
theorem FAt.src {w : World} {F j off cap gl ga : Nat} {ys : List Nat} {noted : Nat} {L A : Nat → Int} (h : FAt w F j off cap gl ga ys noted L A) : FSrc w F j off cap ys :=
 ⟨blk_cell h.blk 0 _ rfl, h.lies, h.byte, h.few⟩
theorem FAt.step {S : Nat → Prop} {w w' : World} {F j off cap gl ga : Nat} {ys : List Nat} {noted : Nat} {L A : Nat → Int} (h : FAt w F j off cap gl ga ys noted L A) (hs : Step S w w') (hn : ¬ S F ∧ ¬ S j ∧ ¬ S gl ∧ ¬ S ga) : FAt w' F j off cap gl ga ys noted L A :=
 ⟨hs.at_ h.blk hn.1, fun i hi => hs.cell (p := ⟨j, off + i, none⟩) (h.lies i hi) hn.2.1, h.byte, h.few, h.last.step hs hn.2.2.1, h.ahead.step hs hn.2.2.2, h.apart, h.lok, h.aok, h.isL, h.isA⟩
theorem FAt.step0 {w w' : World} {F j off cap gl ga : Nat} {ys : List Nat} {noted : Nat} {L A : Nat → Int} (h : FAt w F j off cap gl ga ys noted L A) (hs : Step (fun _ => False) w w') : FAt w' F j off cap gl ga ys noted L A :=
 h.step hs ⟨fun y => y, fun y => y, fun y => y, fun y => y⟩
def FS (F gl ga k : Nat) : Prop := k = F ∨ k = gl ∨ k = ga
theorem FAt.skip {w : World} {F j off cap gl ga : Nat} {ys : List Nat} {noted : Nat} {L A : Nat → Int} (h : FAt w F j off cap gl ga ys noted L A) (hn : ¬ noted + 3 ≤ ys.length) : FAt (w.setCell ⟨F, 1, none⟩ (.int .i64 ((noted : Int) + 1))) F j off cap gl ga ys (noted + 1) L A := by
 obtain ⟨a1, a2, a3, a4, a5, a6⟩ := h.apart
 have hs : Step (· = F) w (w.setCell ⟨F, 1, none⟩ (.int .i64 ((noted : Int) + 1))) := (Step.refl (· = F) w).setCell (p := ⟨F, 1, none⟩) rfl _
 refine ⟨?_, fun i hi => hs.cell (p := ⟨j, off + i, none⟩) (h.lies i hi) a4, h.byte, h.few, h.last.step hs (fun y => a1 y.symm), h.ahead.step hs (fun y => a2 y.symm), h.apart, fun s hs' => ?_, fun p hp hp3 => h.aok p (by omega) hp3, by rw [nL, if_neg hn]; exact h.isL, by rw [nA, if_neg hn]; exact h.isA⟩
 ·have h9 := blk_set h.blk 1 (.int .i64 ((noted : Int) + 1))
  simpa using h9
 ·rcases h.lok s hs' with y | ⟨y1, y2, y3⟩
  ·exact .inl y
  ·exact .inr ⟨y1, by omega, y3⟩
theorem FAt.put {w : World} {F j off cap gl ga : Nat} {ys : List Nat} {noted : Nat} {L A : Nat → Int} (h : FAt w F j off cap gl ga ys noted L A) (s : Nat) (hs : s < 32768) (he : s = slotF ys noted) (hn : noted + 3 ≤ ys.length) :
  FAt (((w.setCell ⟨ga, noted, none⟩ (.int .i64 (L s))).setCell ⟨gl, s, none⟩ (.int .i64 (noted : Nat))).setCell ⟨F, 1, none⟩ (.int .i64 ((noted : Int) + 1))) F j off cap gl ga ys (noted + 1) (fun t => if t = s then (noted : Int) else L t) (fun p => if p = noted then L s else A p) := by
 obtain ⟨a1, a2, a3, a4, a5, a6⟩ := h.apart
 obtain ⟨w1, hw1⟩ : ∃ w1, w1 = w.setCell ⟨ga, noted, none⟩ (.int .i64 (L s)) := ⟨_, rfl⟩
 obtain ⟨w2, hw2⟩ : ∃ w2, w2 = w1.setCell ⟨gl, s, none⟩ (.int .i64 (noted : Nat)) := ⟨_, rfl⟩
 have s1 : Step (· = ga) w w1 := by rw [hw1]; exact (Step.refl (· = ga) w).setCell (p := ⟨ga, noted, none⟩) rfl _
 have s2 : Step (· = gl) w1 w2 := by rw [hw2]; exact (Step.refl (· = gl) w1).setCell (p := ⟨gl, s, none⟩) rfl _
 have s3 : Step (· = F) w2 (w2.setCell ⟨F, 1, none⟩ (.int .i64 ((noted : Int) + 1))) := (Step.refl (· = F) w2).setCell (p := ⟨F, 1, none⟩) rfl _
 have r1 : RowAt w1 ga 3 ys.length (fun p => .int .i64 (if p = noted then L s else A p)) := by
  rw [hw1]
  exact (h.ahead.set noted (.int .i64 (L s))).congr (fun i _ => by by_cases y : i = noted <;> simp [y])
 have r2 : RowAt w2 gl 3 32768 (fun t => .int .i64 (if t = s then (noted : Int) else L t)) := by
  rw [hw2]
  exact ((h.last.step s1 a3).set s (.int .i64 (noted : Nat))).congr (fun i _ => by by_cases y : i = s <;> simp [y])
 have hb2 := s2.at_ (s1.at_ h.blk a2) a1
 rw [← hw1, ← hw2]
 refine ⟨?_, fun i hi => s3.cell (p := ⟨j, off + i, none⟩) (s2.cell (p := ⟨j, off + i, none⟩) (s1.cell (p := ⟨j, off + i, none⟩) (h.lies i hi) a6) a5) a4, h.byte, h.few, r2.step s3 (fun y => a1 y.symm), (r1.step s2 (fun y => a3 y.symm)).step s3 (fun y => a2 y.symm), h.apart, fun t ht => ?_, fun p hp hp3 => ?_, by rw [nL, if_pos hn, ← he, ← h.isL], by rw [nA, if_pos hn, ← he, ← h.isL, ← h.isA]⟩
 ·have h9 := blk_set hb2 1 (.int .i64 ((noted : Int) + 1))
  simpa using h9
 ·by_cases y : t = s
  ·simp only [if_pos y]
   exact .inr ⟨by omega, by omega, by omega⟩
  ·simp only [if_neg y]
   rcases h.lok t ht with z | ⟨z1, z2, z3⟩
   ·exact .inl z
   ·exact .inr ⟨z1, by omega, z3⟩
 ·by_cases y : p = noted
  ·simp only [if_pos y]
   rcases h.lok s hs with z | ⟨z1, z2, z3⟩
   ·exact .inl z
   ·exact .inr ⟨z1, by omega⟩
  ·simp only [if_neg y]
   exact h.aok p (by omega) hp3
structure NoteP (w w' : World) (F j off cap gl ga noted q : Nat) (ys : List Nat) : Prop where
 ex : ∃ n' L' A', (n' = noted ∨ n' = q) ∧ q ≤ n' ∧ FAt w' F j off cap gl ga ys n' L' A' ∧ Step (FS F gl ga) w w'
theorem note_ok (F j off cap gl ga noted q : Nat) (ys : List Nat) (L A : Nat → Int) (w : World) (h : FAt w F j off cap gl ga ys noted L A) (hq : q ≤ ys.length) :
  Calls Tryz.prog 160 #[.pointer (some ⟨F, 0, none⟩), .int .i64 (q : Nat)] w fun e w' => e = .returned (.tuple #[]) ∧ NoteP w w' F j off cap gl ga noted q ys := by
 have HH := hide h
 have hfew := h.few
 clear h
 go_enter Tryz.func160, Tryz.ntmps160
 go_wp2_with fail
 go_loopg [] (q - noted) (fun g wr => ∃ (n : Nat) (L' A' : Nat → Int), (n = noted ∨ n ≤ q) ∧ g = q - n ∧ FAt wr F j off cap gl ga ys n L' A' ∧ Step (FS F gl ga) w wr)
 case atStart => exact ⟨noted, L, A, .inl rfl, rfl, unhide HH, Step.refl _ _⟩
 case round =>
  obtain ⟨n, L', A', hn, hg, hf, hst⟩ := hrel
  obtain ⟨a1, a2, a3, a4, a5, a6⟩ := hf.apart
  have c1 : wr.cell? ⟨F, 1, none⟩ = some (.int .i64 (n : Nat)) := blk_cell hf.blk 1 _ rfl
  have f1 : wr.frozen? ⟨F, 1, none⟩ = false := blk_free hf.blk 1
  have hFl := lt_of_block hf.blk
  have HF := hide hf
  have HST := hide hst
  by_cases hlt : n < q
  ·have hlt' : (n : Int) < (q : Int) := by omega
   have HS := hide (slot_ok F j off cap n ys wr hf.src (by omega))
   clear hf hst
   go_wp2_with fail
   refine (unhide HS).mono ?_
   rintro r w1 ⟨hr, hs1⟩
   have hf1 := (unhide HF).step0 hs1
   have c11 : w1.cell? ⟨F, 1, none⟩ = some (.int .i64 (n : Nat)) := blk_cell hf1.blk 1 _ rfl
   have f11 : w1.frozen? ⟨F, 1, none⟩ = false := blk_free hf1.blk 1
   have HF1 := hide hf1
   have HST1 := hide ((unhide HST).trans (hs1.mono (fun _ y => y.elim)))
   by_cases h3 : n + 3 ≤ ys.length
   ·rw [if_pos h3] at hr
    obtain ⟨s, hse⟩ : ∃ s, s = slotF ys n := ⟨_, rfl⟩
    have hs : s < 32768 := by rw [hse]; exact slotF_lt ys n
    rw [← hse] at hr
    subst hr
    have c12 : w1.cell? ⟨F, 2, none⟩ = some (.slice (some ⟨gl, 0, none⟩) 32768 32768) := blk_cell hf1.blk 2 _ rfl
    have c13 : w1.cell? ⟨F, 3, none⟩ = some (.slice (some ⟨ga, 0, none⟩) ys.length ys.length) := blk_cell hf1.blk 3 _ rfl
    have l1 := hf1.last.cell s hs
    have lf := hf1.last.free s
    have af := hf1.ahead.free n
    have ac := hf1.ahead.cell n (by omega)
    have hgl := hf1.last.lt
    have hga := hf1.ahead.lt
    have HP := hide (hf1.put s hs hse h3)
    have n1 : ¬ F = gl := a1
    have n2 : ¬ F = ga := a2
    have n3 : ¬ gl = ga := a3
    have n4 : ¬ gl = F := fun y => a1 y.symm
    have n5 : ¬ ga = F := fun y => a2 y.symm
    have n6 : ¬ ga = gl := fun y => a3 y.symm
    have s0 : (0 : Int) ≤ (s : Int) := by omega
    have s1 : (s : Int) < 32768 := by omega
    have m0 : (0 : Int) ≤ (n : Int) := by omega
    have m1 : (n : Int) < (ys.length : Int) := by omega
    obtain ⟨len, hlen⟩ : ∃ len, len = ys.length := ⟨_, rfl⟩
    rw [← hlen] at c13 m1
    obtain ⟨x, hx⟩ : ∃ x, x = L' s := ⟨_, rfl⟩
    rw [← hx] at l1
    have HX := hide hx
    have HG := hide hg
    clear hf1 hs1 HS hlen hx hg hse a1 a2 a3 a4 a5 a6
    go_wp2_with fail
    go_region
    go_wp2_with fail
    go_region
    go_wp2_with fail
    go_roundg (gk - 1)
    case measure => have := unhide HG; omega
    case rel =>
     have hp := unhide HP
     rw [← unhide HX] at hp
     refine ⟨n + 1, _, _, .inr (by omega), by have := unhide HG; omega, hp.step0 (((Step.refl _ _).drew).drew), ?_⟩
     exact ((((unhide HST1).setCell (p := ⟨ga, n, none⟩) (.inr (.inr rfl)) _).setCell (p := ⟨gl, s, none⟩) (.inr (.inl rfl)) _).setCell (p := ⟨F, 1, none⟩) (.inl rfl) _).drew.drew
   ·rw [if_neg h3] at hr
    subst hr
    have HP := hide (hf1.skip h3)
    clear hf1 hs1 HS
    go_wp2_with fail
    go_roundg (gk - 1)
    case measure => omega
    case rel => exact ⟨n + 1, L', A', .inr (by omega), by omega, unhide HP, (unhide HST1).setCell (.inl rfl) _⟩
  ·have hlt' : ¬ (n : Int) < (q : Int) := by omega
   clear hf hst
   go_wp2_with fail
   go_end0
   exact ⟨rfl, ⟨n, L', A', by omega, by omega, unhide HF, unhide HST⟩⟩
end Go.Proofs.YtbpahojchgpdnaaGreatDoor
