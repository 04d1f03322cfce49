/- Proved here: lengths that writeCoding has told are read again, plain; nothing of the program. -/
import Derived.Test.YtbpahojchgpdnaaGreatDoorMarksB
import Derived.Test.YtbpahojchgpdnaaGreatDoorAgain
namespace Go.Proofs.YtbpahojchgpdnaaGreatDoor
open Go.RowKit Go.Bel Go.Maps
theorem often_take (L : List Nat) (a i : Nat) (hz : ∀ j, a ≤ j → often L j = 0) : often (L.take a) i = often L i := by
 unfold often at *
 by_cases hi : i < a
 ·rw [List.getElem?_take_of_lt hi]
 ·rw [hz i (by omega), List.getElem?_eq_none (by rw [List.length_take]; omega)]; rfl
theorem cntEq_congr {L M : List Nat} (h : ∀ i, often L i = often M i) (l : Nat) : ∀ n, cntEq L l n = cntEq M l n
 | 0 => rfl
 | n + 1 => by rw [cntEq, cntEq, cntEq_congr h l n, often_def, often_def, h n]
theorem cntEq_stop {L : List Nat} {l a : Nat} (hl : l ≠ 0) (hz : ∀ j, a ≤ j → often L j = 0) : ∀ d, cntEq L l (a + d) = cntEq L l a
 | 0 => rfl
 | d + 1 => by
  rw [← Nat.add_assoc, cntEq, cntEq_stop hl hz d, often_def, hz _ (by omega), if_neg (fun e => hl e.symm)]; rfl
theorem nx_take {L : List Nat} {a : Nat} (ha : a ≤ L.length) (hz : ∀ j, a ≤ j → often L j = 0) : ∀ l, nx (L.take a) l = nx L l
 | 0 => rfl
 | l + 1 => by
  rw [nx, nx, nx_take ha hz l, List.length_take, Nat.min_eq_left ha, cntEq_congr (fun i => often_take L a i hz) (l + 1) a]
  have := cntEq_stop (l := l + 1) (by omega) hz (L.length - a)
  rw [show a + (L.length - a) = L.length by omega] at this
  rw [this]
theorem keyOf_take {L : List Nat} {a : Nat} (ha : a ≤ L.length) (hz : ∀ j, a ≤ j → often L j = 0) (s : Nat) : Go.Bel.keyOf (L.take a) s = Go.Bel.keyOf L s := by
 unfold Go.Bel.keyOf
 rw [often_def, often_def, often_take L a s hz, nx_take ha hz, cntEq_congr (fun i => often_take L a i hz)]
theorem codeB_take {L : List Nat} {a : Nat} (ha : a ≤ L.length) (hz : ∀ j, a ≤ j → often L j = 0) (s : Nat) : codeB (L.take a) s = codeB L s := by
 unfold codeB
 rw [keyOf_take ha hz, often_def, often_def, often_take L a s hz]
theorem wgt_congr {L M : List Nat} (h : ∀ i, often L i = often M i) : ∀ n, wgtTo L n = wgtTo M n ∧ cntTo L n = cntTo M n
 | 0 => ⟨rfl, rfl⟩
 | n + 1 => by rw [wgtTo, wgtTo, cntTo, cntTo, (wgt_congr h n).1, (wgt_congr h n).2, often_def, often_def, h n]; exact ⟨rfl, rfl⟩
theorem wgt_stop {L : List Nat} {a : Nat} (hz : ∀ j, a ≤ j → often L j = 0) : ∀ d, wgtTo L (a + d) = wgtTo L a ∧ cntTo L (a + d) = cntTo L a
 | 0 => ⟨rfl, rfl⟩
 | d + 1 => by
  obtain ⟨h1, h2⟩ := wgt_stop hz d
  rw [← Nat.add_assoc, wgtTo, cntTo, h1, h2, often_def, hz _ (by omega)]
  exact ⟨rfl, rfl⟩
theorem mayB_take {L : List Nat} {a : Nat} (ha : a ≤ L.length) (hz : ∀ j, a ≤ j → often L j = 0) : mayB (L.take a) = mayB L := by
 unfold mayB
 obtain ⟨h1, h2⟩ := wgt_congr (fun i => often_take L a i hz) a
 obtain ⟨h3, h4⟩ := wgt_stop hz (L.length - a)
 rw [show a + (L.length - a) = L.length by omega] at h3 h4
 rw [List.length_take, Nat.min_eq_left ha, h1, h2, h3, h4]
theorem hasCode_take {L : List Nat} {a s : Nat} (ha : a ≤ L.length) (hz : ∀ j, a ≤ j → often L j = 0) (h : HasCode L s) : HasCode (L.take a) s := by
 have e : (L.take a)[s]?.getD 0 = L[s]?.getD 0 := often_take L a s hz
 refine ⟨?_, by rw [e]; exact h.pos, by rw [e]; exact h.le, by rw [e, keyOf_take ha hz]; exact h.lo, by rw [e, keyOf_take ha hz]; exact h.hi⟩
 rw [List.length_take, Nat.min_eq_left ha]
 rcases Nat.lt_or_ge s a with h9 | h9
 ·exact h9
 ·have := h.pos
  rw [often_def, hz s h9] at this
  omega
theorem from_len {bs : List Bool} {B : List Nat} {p : Nat} {l : List Bool} (h : BitsFrom bs p l) (hb : bs.length ≤ 8 * B.length) (hp : p ≤ 8 * B.length) : p + l.length ≤ 8 * B.length := by
 by_cases h0 : l = []
 ·subst h0; simpa using hp
 ·exact from_le h h0 hb
theorem rep_row {row : List Nat} {a t x : Nat} (h : a + t ≤ row.length) (hx : ∀ i, i < t → often row (a + i) = x) : row.take a ++ List.replicate t x = row.take (a + t) := by
 apply List.ext_getElem?
 intro i
 by_cases h1 : i < a
 ·rw [List.getElem?_append_left (by rw [List.length_take]; omega), List.getElem?_take_of_lt h1, List.getElem?_take_of_lt (by omega)]
 ·rw [List.getElem?_append_right (by rw [List.length_take]; omega), List.length_take, Nat.min_eq_left (by omega), List.getElem?_replicate]
  by_cases h2 : i - a < t
  ·rw [if_pos h2, List.getElem?_take_of_lt (by omega), List.getElem?_eq_getElem (by omega)]
   have := hx (i - a) h2
   rw [show a + (i - a) = i by omega] at this
   unfold often at this
   rw [List.getElem?_eq_getElem (by omega)] at this
   rw [← this]; rfl
  ·rw [if_neg h2, List.getElem?_eq_none (by rw [List.length_take]; omega)]
theorem row_read {F row : List Nat} {bs : List Bool} {B : List Nat} (hB : BitsIn bs B) (hb : bs.length ≤ 8 * B.length) (hF : ∀ i : Nat, F[i]?.getD 0 ≤ 15) (hm : mayB F = true) {a e : Nat} {l : List Mk} (ht : TellsFrom row a l e) (he : e = row.length) :
  ∀ (p fuel : Nat), (∀ k ∈ l, HasCode F k.s) → BitsFrom bs p (marksB F l) → p ≤ 8 * B.length → row.length - a ≤ fuel → rRowF (dealAll F) B row.length fuel p (row.take a) = .ok row (p + (marksB F l).length) := by
 induction ht with
 | nil a =>
  intro p fuel _ _ _ hf
  subst he
  rw [List.take_length]
  cases fuel with
  | zero => rfl
  | succ n => rw [rRowF, if_pos (Nat.le_refl _)]; rfl
 | cons a k t l e hk _ r ih =>
  intro p fuel hc hfr hp hf
  have hpos := hk.pos
  have hat := hk.1
  obtain ⟨n, rfl⟩ : ∃ n, fuel = n + 1 := ⟨fuel - 1, by omega⟩
  have em : marksB F (k :: l) = codeB F k.s ++ numBits k.x k.m ++ marksB F l := by simp [marksB]
  rw [em] at hfr ⊢
  have hsy := sym_read hB hb hF hm (hc k (by simp)) hfr.left.left
  have hq := (rSym_ok hsy).2.1
  have hnum := num_from hB _ k.x k.m hfr.left.right
  have hle := num_le hfr.left.right hb hq
  have hlt : (row.take a).length = a := by rw [List.length_take]; omega
  have hrest := ih he (p + (codeB F k.s).length + k.m) n (fun k' hk' => hc k' (by simp [hk'])) (by
   have := hfr.right
   rw [List.length_append, numBits_length, ← Nat.add_assoc] at this
   exact this) hle (by omega)
  rw [rRowF, hlt, if_neg (by omega), hsy]
  dsimp only
  have fin : ∀ v, rLens B (p + (codeB F k.s).length) k.s (row.take a) = .ok (v, t) (p + (codeB F k.s).length + k.m) → (∀ i, i < t → often row (a + i) = v) → ¬ (k.s = 16 ∧ a = 0) →
    (if k.s = 16 ∧ a = 0 then R.no 8 else match rLens B (p + (codeB F k.s).length) k.s (row.take a) with
     | .no e => .no e
     | .miss => .miss
     | .ok lt q' => if row.length < a + lt.2 then .no 8 else rRowF (dealAll F) B row.length n q' (row.take a ++ List.replicate lt.2 lt.1)) = .ok row (p + (codeB F k.s ++ numBits k.x k.m ++ marksB F l).length) := fun v hv hx hne => by
   rw [if_neg hne, hv]
   dsimp only
   rw [if_neg (by omega), rep_row hat hx, hrest]
   congr 1
   simp only [List.length_append, numBits_length]
   omega
  rcases hk.2 with ⟨h1, h2, h3, h4, h5⟩ | ⟨h1, h2, h3, h4, h5, h6⟩ | ⟨h1, h2, h3, h4, h5⟩ | ⟨h1, h2, h3, h4, h5⟩
  ·refine fin k.s ?_ (fun i hi => ?_) (by omega)
   ·unfold rLens
    rw [if_pos (by omega), h4, h5, Nat.add_zero]
   ·rw [show i = 0 by omega, Nat.add_zero]; exact h1.symm
  ·refine fin (often row (a - 1)) ?_ h6 (by omega)
   unfold rLens
   rw [h2] at hnum hle ⊢
   rw [if_neg (by omega), if_pos h1, if_pos hle, hnum, Nat.mod_eq_of_lt (by omega), hlt, List.getElem?_take_of_lt (by omega), h3]
   rfl
  ·refine fin 0 ?_ h5 (by omega)
   unfold rLens
   rw [h2] at hnum hle ⊢
   rw [if_neg (by omega), if_neg (by omega), if_pos h1, if_pos hle, hnum, Nat.mod_eq_of_lt (by omega), h3]
  ·refine fin 0 ?_ h5 (by omega)
   unfold rLens
   rw [h2] at hnum hle ⊢
   rw [if_neg (by omega), if_neg (by omega), if_neg (by omega), if_pos hle, hnum, Nat.mod_eq_of_lt (by omega), h3]
end Go.Proofs.YtbpahojchgpdnaaGreatDoor
namespace Go.Proofs.YtbpahojchgpdnaaGreatDoor
open Go.RowKit Go.Bel Go.Maps
theorem firstsB_at {F : List Nat} {bs : List Bool} {q c : Nat} (h : BitsFrom bs q (firstsB F c)) : ∀ k, k < c → BitsFrom bs (q + 3 * k) (numBits (often F (orderList[k]?.getD 0)) 3) := by
 induction c with
 | zero => intro k hk; omega
 | succ c ih =>
  intro k hk
  rw [firstsB_succ] at h
  by_cases e : k = c
  ·subst e
   have := h.right
   rw [firstsB_length] at this
   exact this
  ·exact ih h.left k (by omega)
theorem order_all : ∀ i, i < 19 → ∃ j, j < 19 ∧ orderList[j]?.getD 0 = i := by decide
theorem firsts_read {F : List Nat} {bs : List Bool} {B : List Nat} {q c : Nat} (hB : BitsIn bs B) (hl : F.length = 19) (hF : ∀ i, often F i ≤ 7) (h : BitsFrom bs q (firstsB F c)) (hz : ∀ i, c ≤ i → i < 19 → often F (orderList[i]?.getD 0) = 0) : firstLens B q c = F := by
 have hn : ∀ k, k < c → numAt B (q + 3 * k) 3 = often F (orderList[k]?.getD 0) := fun k hk => by
  rw [num_from hB _ _ 3 (firstsB_at h k hk)]
  exact Nat.mod_eq_of_lt (by have := hF (orderList[k]?.getD 0); omega)
 have key : ∀ i k, k ≤ c → (fsTo B q k i = often F i ∨ (fsTo B q k i = 0 ∧ ∀ j, j < k → orderList[j]?.getD 0 ≠ i)) := fun i k => by
  induction k with
  | zero => intro _; exact .inr ⟨rfl, fun j hj => by omega⟩
  | succ k ih =>
   intro hk
   rw [fsTo]
   by_cases e : i = orderList[k]?.getD 0
   ·rw [if_pos e, hn k (by omega), ← e]; exact .inl rfl
   ·rw [if_neg e]
    rcases ih (by omega) with h1 | ⟨h1, h2⟩
    ·exact .inl h1
    ·refine .inr ⟨h1, fun j hj => ?_⟩
     rcases Nat.lt_or_ge j k with h9 | h9
     ·exact h2 j h9
     ·rw [show j = k by omega]; exact fun y => e y.symm
 apply List.ext_getElem?
 intro i
 by_cases hi : i < 19
 ·have e1 : (firstLens B q c)[i]? = some (fsTo B q c i) := by unfold firstLens; rw [List.getElem?_map, List.getElem?_range hi]; rfl
  have e2 : F[i]? = some (often F i) := by unfold often; rw [List.getElem?_eq_getElem (by omega)]; rfl
  rw [e1, e2]
  congr 1
  rcases key i c (Nat.le_refl _) with h1 | ⟨h1, h2⟩
  ·exact h1
  ·obtain ⟨j, hj, hji⟩ := order_all i hi
   rw [h1]
   have hjc : c ≤ j := by
    rcases Nat.lt_or_ge j c with h9 | h9
    ·exact absurd hji (h2 j h9)
    ·exact h9
   rw [← hji, hz j hjc hj]
 ·rw [List.getElem?_eq_none (by rw [firstLens_length]; omega), List.getElem?_eq_none (by omega)]
theorem coding_read {L1 L2 : List Nat} {ps : List Pc} {a b c : Nat} {F : List Nat} {l : List Mk} {bs : List Bool} {B : List Nat} {p : Nat} (hB : BitsIn bs B) (hb : bs.length ≤ 8 * B.length) (hfit : Fits ps L1 L2) (hc : Codes L1 L2 a b c F l) (h : BitsFrom bs p (codingB a b c F l)) :
  rCoding B p = .ok (L1.take a, L2.take b) (p + (codingB a b c F l).length) := by
 have ha1 := hc.a1
 have ha2 := hc.a2
 have hb1 := hc.b1
 have hb2 := hc.b2
 have hc1 := hc.c1
 have hc2 := hc.c2
 have hFl : F.length = 19 := by rw [hc.fs, lensOf_length, cntM_length]
 have hF7 : ∀ i, often F i ≤ 7 := fun i => by rw [hc.fs]; exact lensOf_le _ _ _ (by omega) (by rw [cntM_length]; decide)
 have hF15 : ∀ i : Nat, F[i]?.getD 0 ≤ 15 := fun i => by rw [often_def]; have := hF7 i; omega
 unfold codingB at h ⊢
 have f1 := h.left.left.left.left
 have f2 := h.left.left.left.right
 have f3 := h.left.left.right
 have f4 := h.left.right
 have f5 := h.right
 rw [numBits_length] at f2
 rw [List.length_append, numBits_length, numBits_length, ← Nat.add_assoc] at f3
 rw [List.length_append, List.length_append, numBits_length, numBits_length, numBits_length] at f4
 rw [List.length_append, List.length_append, List.length_append, numBits_length, numBits_length, numBits_length, firstsB_length] at f5
 have n1 := num_from hB p _ 5 f1
 have n2 := num_from hB _ _ 5 f2
 have n3 := num_from hB _ _ 4 f3
 rw [Nat.mod_eq_of_lt (by omega)] at n1 n2 n3
 have le3 := from_le f3 (fun e => by have := congrArg List.length e; simp [numBits_length] at this) hb
 rw [numBits_length] at le3
 have le4 := from_len f4 hb (by omega)
 rw [firstsB_length] at le4
 have hfl := firsts_read hB hFl hF7 f4 hc.cz
 have hcod : ∀ x ∈ l, HasCode F x.s := fun x hx => by
  have hx18 := (hc.tells.sym x hx).1
  have hm9 := marks_may hx (by omega)
  rw [← hc.fs] at hm9
  exact hasCode_may hF15 hm9.1 (by omega) hm9.2
 have l1 : (L1.take a).length = a := by rw [List.length_take, hfit.l1]; omega
 have l2 : (L2.take b).length = b := by rw [List.length_take, hfit.l2]; omega
 have hmay : mayB F = true := by
  cases l with
  | nil => have := hc.tells.nil_eq; omega
  | cons x l =>
   have hm9 := marks_may (l := x :: l) (k := x) (by simp) (by have := (hc.tells.sym x (by simp)).1; omega)
   rw [← hc.fs] at hm9
   exact hm9.1
 have hrl : (L1.take a ++ L2.take b).length = a + b := by rw [List.length_append, l1, l2]
 have hrow := row_read hB hb hF15 hmay hc.tells hrl.symm (p + (5 + 5 + 4 + 3 * c)) (a + b) hcod f5 (by omega) (by omega)
 rw [hrl, List.take_zero] at hrow
 unfold rCoding
 rw [if_pos (by omega)]
 dsimp only
 rw [n1, n2, show p + 10 = p + 5 + 5 by omega, n3, show a - 257 + 257 = a by omega, show b - 1 + 1 = b by omega, show c - 4 + 4 = c by omega, if_neg (by omega), if_pos (by omega), show p + 14 = p + (5 + 5 + 4) by omega, hfl, if_pos hmay]
 unfold rRow
 rw [show p + (5 + 5 + 4) + 3 * c = p + (5 + 5 + 4 + 3 * c) by omega, hrow]
 dsimp only
 unfold rDealt
 have t1 : (L1.take a ++ L2.take b).take a = L1.take a := by rw [List.take_append_of_le_length (by omega), List.take_of_length_le (by omega)]
 have t2 : (L1.take a ++ L2.take b).drop a = L2.take b := by rw [List.drop_append, List.drop_of_length_le (by omega), l1, Nat.sub_self]; rfl
 have h256 : 0 < (L1.take a ++ L2.take b)[256]?.getD 0 := by
  rw [List.getElem?_append_left (by omega), List.getElem?_take_of_lt (by omega)]
  exact hfit.end_.pos
 have hm1 : mayB (L1.take a) = true := by rw [mayB_take (by rw [hfit.l1]; exact ha2) hc.az]; exact hfit.may1
 have hm2 : farB (L2.take b) = true := by
  unfold farB
  rcases hfit.far2 with h0 | h0
  ·have : cntTo (L2.take b) (L2.take b).length = 0 := by
    have hz : ∀ n, cntTo (L2.take b) n = 0 := fun n => by
     induction n with
     | zero => rfl
     | succ n ih =>
      have e9 : (L2.take b)[n]?.getD 0 = 0 := by rw [often_def, often_take L2 b n hc.bz]; exact h0 n
      rw [cntTo, ih, e9]; rfl
    exact hz _
   rw [this]; rfl
  ·rw [mayB_take (by rw [hfit.l2]; exact hb2) hc.bz, h0, Bool.or_true]
 rw [t1, t2, if_pos ⟨h256, hm1, hm2⟩]
 congr 1
 simp only [List.length_append, numBits_length, firstsB_length]
 omega
end Go.Proofs.YtbpahojchgpdnaaGreatDoor
namespace Go.Proofs.YtbpahojchgpdnaaGreatDoor
open Go.RowKit Go.Bel Go.Maps
theorem head_told {B : List Nat} {s : GS} {last : Bool} {L1 L2 : List Nat} {q : Nat} (h0 : s.place = 0) (h : HeadAt B s.p last 2) (hr : rCoding B (s.p + 3) = .ok (L1, L2) q) : gStep B s = .go { s with last := last, place := 2, ls := L1, ld := L2, p := q } := by
 unfold gStep
 rw [if_neg (by omega), if_neg (by omega)]
 unfold gHead
 rw [if_pos h.there, if_neg (by rw [h.kind_]; omega), if_neg (by rw [h.kind_]; omega), if_pos h.kind_, hr]
 have e2 : (bitAt B s.p == 1) = last := by rw [h.last_]; cases last <;> rfl
 dsimp only
 rw [e2]
theorem pcBits_conv {L1 L2 M1 M2 : List Nat} (h1 : ∀ s, codeB M1 s = codeB L1 s) (h2 : ∀ s, codeB M2 s = codeB L2 s) : ∀ (ps : List Pc) (b : List Bool), PcsBits L1 L2 ps b → PcsBits M1 M2 ps b
 | [], _, h => h
 | p :: ps, _, ⟨b1, b2, hb, hp, hr⟩ => by
  refine ⟨b1, b2, hb, ?_, pcBits_conv h1 h2 ps b2 hr⟩
  rcases hp with ⟨h0, h9⟩ | ⟨h0, s, x, m, s2, x2, m2, hM, hD, h9⟩
  ·exact .inl ⟨h0, by rw [h1]; exact h9⟩
  ·exact .inr ⟨h0, s, x, m, s2, x2, m2, hM, hD, by rw [h1, h2]; exact h9⟩
theorem pcsFrom_split {ys : List Nat} : ∀ (n : Nat) (ps : List Pc) (q r : Nat), PcsFrom ys q ps r → ∃ m, PcsFrom ys q (ps.take n) m ∧ PcsFrom ys m (ps.drop n) r
 | 0, ps, q, r, h => ⟨q, rfl, h⟩
 | n + 1, [], q, r, h => ⟨q, rfl, h⟩
 | n + 1, p :: ps, q, r, h => by
  obtain ⟨h1, h2, h3⟩ := h
  obtain ⟨m, k1, k2⟩ := pcsFrom_split n ps _ r h3
  exact ⟨m, ⟨h1, h2, k1⟩, k2⟩
theorem told_block {ys : List Nat} {bs tb : List Bool} {B : List Nat} {last : Bool} {ps : List Pc} {q r : Nat} {s : GS} (hB : BitsIn bs B) (hb : bs.length ≤ 8 * B.length) (h : ToldB last ps tb) (hps : PcsFrom ys q ps r) (h0 : s.place = 0) (ho : s.out = ys.take q) (hqm : q ≤ s.most) (hf : BitsFrom bs s.p tb) :
  (r ≤ s.most → ∃ L1 L2, Leads B s (GS.ended { s with last := last, place := 2, ls := L1, ld := L2, out := ys.take r } (s.p + tb.length))) ∧ (s.most < r → ∃ n, GRun B n s 11 (ys.take s.most) 0) := by
 obtain ⟨L1, L2, a, b, c, F, l, bits, hfit, hcod, hpb, hbl, rfl⟩ := h
 have hhead := head_from hB hb s.p 2 last (by omega) hf.left.left.left
 have f2 := hf.left.left.right
 rw [beginBits_length] at f2
 have hrc := coding_read hB hb hfit hcod f2
 have e1 := head_told (s := s) h0 hhead hrc
 have l1 := Leads.one (by omega) e1
 have z1 : ∀ s, codeB (L1.take a) s = codeB L1 s := codeB_take (by rw [hfit.l1]; exact hcod.a2) hcod.az
 have z2 : ∀ s, codeB (L2.take b) s = codeB L2 s := codeB_take (by rw [hfit.l2]; exact hcod.b2) hcod.bz
 have hm1 : mayB (L1.take a) = true := by rw [mayB_take (by rw [hfit.l1]; exact hcod.a2) hcod.az]; exact hfit.may1
 have g1 : ∀ s, HasCode L1 s → HasCode (L1.take a) s := fun s => hasCode_take (by rw [hfit.l1]; exact hcod.a2) hcod.az
 have g2 : ∀ s, HasCode L2 s → HasCode (L2.take b) s := fun s => hasCode_take (by rw [hfit.l2]; exact hcod.b2) hcod.bz
 have le1 : ∀ i : Nat, (L1.take a)[i]?.getD 0 ≤ 15 := fun i => by rw [often_def, often_take L1 a i hcod.az]; exact hfit.le1 i
 have le2 : ∀ i : Nat, (L2.take b)[i]?.getD 0 ≤ 15 := fun i => by rw [often_def, often_take L2 b i hcod.bz]; exact hfit.le2 i
 have hneed : ∀ p ∈ ps, Needs (L1.take a) (L2.take b) p ∧ (p.l ≠ 0 → mayB (L2.take b) = true) := fun p hp => by
  obtain ⟨n1, n2⟩ := hfit.need p hp
  refine ⟨?_, fun y => by rw [mayB_take (by rw [hfit.l2]; exact hcod.b2) hcod.bz]; exact n2 y⟩
  rcases n1 with ⟨x1, x2, x3⟩ | ⟨x1, x2, x3, x4, x5, x6⟩
  ·exact .inl ⟨x1, x2, g1 _ x3⟩
  ·exact .inr ⟨x1, x2, x3, x4, fun s x m hh => g1 _ (x5 s x m hh), fun s x m hh => g2 _ (x6 s x m hh)⟩
 have f3 := hf.left.right
 rw [List.length_append, beginBits_length, ← Nat.add_assoc] at f3
 have l2 := pieces_lead hB hb le1 le2 hm1 ps bits q r { s with last := last, place := 2, ls := L1.take a, ld := L2.take b, p := s.p + 3 + (codingB a b c F l).length } hneed hps (pcBits_conv z1 z2 ps bits hpb) rfl rfl rfl ho hqm f3
 refine ⟨fun hr => ?_, fun hr => ?_⟩
 ·have l3 := l1.trans (l2.1 hr)
  have f4 := hf.right
  rw [List.length_append, List.length_append, beginBits_length] at f4
  have e4 := end_step (s := { s with last := last, place := 2, ls := L1.take a, ld := L2.take b, out := ys.take r, p := s.p + 3 + (codingB a b c F l).length + bits.length }) hB hb le1 hm1 (g1 _ hfit.end_) rfl rfl (by
   rw [z1]
   have e9 : s.p + 3 + (codingB a b c F l).length + bits.length = s.p + (3 + (codingB a b c F l).length + bits.length) := by omega
   rw [e9]; exact f4)
  refine ⟨L1.take a, L2.take b, ?_⟩
  have l4 := l3.trans (Leads.one (by simp) e4)
  have e5 : s.p + 3 + (codingB a b c F l).length + bits.length + (codeB (L1.take a) 256).length = s.p + (beginBits last 2 ++ codingB a b c F l ++ bits ++ codeB L1 256).length := by
   rw [z1]
   simp only [List.length_append, beginBits_length]
   omega
  rw [e5] at l4
  exact l4
 ·obtain ⟨n, hg⟩ := l2.2 hr
  exact l1.run hg
theorem tol_runs {ys : List Nat} {bs : List Bool} {B : List Nat} (hB : BitsIn bs B) (hb : bs.length ≤ 8 * B.length) {ps : List Pc} {bits : List Bool} (h : TolR ps bits) :
  ∀ (q : Nat) (s : GS), PcsFrom ys q ps ys.length → s.place = 0 → s.out = ys.take q → q ≤ s.most → BitsFrom bs s.p bits →
   (ys.length ≤ s.most → ∃ n, GRun B n s 0 ys ((s.p + bits.length + 7) / 8 * 8)) ∧ (s.most < ys.length → ∃ n, GRun B n s 11 (ys.take s.most) 0) := by
 induction h with
 | last ps tb hl ht =>
  intro q s hps h0 ho hqm hf
  have hk := told_block hB hb ht hps h0 ho hqm hf
  refine ⟨fun hm => ?_, hk.2⟩
  obtain ⟨L1, L2, l1⟩ := hk.1 hm
  refine l1.run (m := 0) ?_
  have := GRun.done (B := B) (GS.ended { s with last := true, place := 2, ls := L1, ld := L2, out := ys.take ys.length } (s.p + tb.length)) (by simp [GS.ended])
  simp only [GS.ended, if_true, List.take_length] at this ⊢
  exact this
 | more ps tb bits hl ht hr ih =>
  intro q s hps h0 ho hqm hf
  obtain ⟨m, p1, p2⟩ := pcsFrom_split 16384 ps q ys.length hps
  have hk := told_block hB hb ht p1 h0 ho hqm hf.left
  have hmy : m ≤ ys.length := by have := p2.count; omega
  by_cases hmm : m ≤ s.most
  ·obtain ⟨L1, L2, l1⟩ := hk.1 hmm
   have hi := ih m (GS.ended { s with last := false, place := 2, ls := L1, ld := L2, out := ys.take m } (s.p + tb.length)) p2 (by simp [GS.ended]) (by simp [GS.ended]) (by simp [GS.ended]; exact hmm) (by simpa [GS.ended] using hf.right)
   simp only [GS.ended] at hi l1
   refine ⟨fun h9 => ?_, fun h9 => ?_⟩
   ·obtain ⟨n, hg⟩ := hi.1 h9
    have e9 : s.p + (tb ++ bits).length = s.p + tb.length + bits.length := by rw [List.length_append]; omega
    rw [e9]
    exact l1.run (by simpa using hg)
   ·obtain ⟨n, hg⟩ := hi.2 h9
    exact l1.run (by simpa using hg)
  ·obtain ⟨n, hg⟩ := hk.2 (by omega)
   exact ⟨fun h9 => by omega, fun _ => ⟨n, hg⟩⟩
theorem tol_reads {ys : List Nat} {bits : List Bool} {P : List Nat} {ps : List Pc} (h : TolR ps bits) (hps : PcsFrom ys 0 ps ys.length) (hB : BitsIn bits P) (hl : P.length = (bits.length + 7) / 8) : ReadsAs P ys := by
 intro H X hX most
 have hbits := bits_mid hB (by omega) H X
 have hall := allBits_in _ hX
 have hal : (allBits (H ++ (P ++ X))).length ≤ 8 * (H ++ (P ++ X)).length := by rw [allBits_length]; omega
 have hs := tol_runs hall hal h 0 (gAt most (8 * H.length)) hps rfl (by simp [gAt, gInit]) (by omega) hbits
 refine ⟨fun hm => ?_, fun hm => hs.2 hm⟩
 obtain ⟨n, hg⟩ := hs.1 hm
 have e : (8 * H.length + bits.length + 7) / 8 * 8 = 8 * (H.length + P.length) := by omega
 have e2 : (gAt most (8 * H.length)).p = 8 * H.length := rfl
 rw [e2, e] at hg
 exact ⟨n, hg⟩
end Go.Proofs.YtbpahojchgpdnaaGreatDoor
