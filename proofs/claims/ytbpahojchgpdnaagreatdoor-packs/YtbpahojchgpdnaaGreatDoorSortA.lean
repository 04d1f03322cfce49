/- Proved here: lengths that come of pairing what comes least often fill all codes; nothing of the program. -/
import Derived.Test.YtbpahojchgpdnaaGreatDoorGround
import Derived.Sort.WalkA
import Derived.Sort.LotA
import Derived.Shelf.SlSortCmp.ReverseRangeK
import Derived.Ground.SlsfProg
import Derived.Shelf.Lay
import Derived.BigRegion
import Derived.Shelf.SlSortCmp.QuietGrown
set_option maxRecDepth 20000
set_option maxHeartbeats 4000000
namespace Go.Bel
structure Pa where
 c : Nat
 s : List Nat
def cntP : List Pa → Nat → Nat
 | [], _ => 0
 | p :: l, i => p.s.count i + cntP l i
def mrg : List Pa → List Pa → List Pa
 | [], Q => Q
 | s :: S, [] => s :: S
 | s :: S, q :: Q => if s.c ≤ q.c then s :: mrg S (q :: Q) else q :: mrg (s :: S) Q
termination_by S Q => S.length + Q.length
def pairUp : List Pa → List Pa
 | a :: b :: r => ⟨a.c + b.c, a.s ++ b.s⟩ :: pairUp r
 | _ => []
def rowN (S : List Pa) : Nat → List Pa
 | 0 => []
 | k + 1 => mrg S (pairUp (rowN S k))
theorem mrg_length : ∀ S Q : List Pa, (mrg S Q).length = S.length + Q.length
 | [], Q => by simp [mrg]
 | s :: S, [] => by simp [mrg]
 | s :: S, q :: Q => by
  rw [mrg]
  split
  ·rw [List.length_cons, mrg_length S (q :: Q)]; simp; omega
  ·rw [List.length_cons, mrg_length (s :: S) Q]; simp; omega
termination_by S Q => S.length + Q.length
theorem mrg_mem : ∀ (S Q : List Pa) (p : Pa), p ∈ mrg S Q → p ∈ S ∨ p ∈ Q
 | [], Q, p, h => by rw [mrg] at h; exact .inr h
 | s :: S, [], p, h => by rw [mrg] at h; exact .inl h
 | s :: S, q :: Q, p, h => by
  rw [mrg] at h
  split at h
  ·rcases List.mem_cons.1 h with rfl | h
   ·exact .inl (by simp)
   ·rcases mrg_mem S (q :: Q) p h with h | h
    ·exact .inl (by simp [h])
    ·exact .inr h
  ·rcases List.mem_cons.1 h with rfl | h
   ·exact .inr (by simp)
   ·rcases mrg_mem (s :: S) Q p h with h | h
    ·exact .inl h
    ·exact .inr (by simp [h])
termination_by S Q => S.length + Q.length
theorem pairUp_length : ∀ l : List Pa, (pairUp l).length = l.length / 2
 | [] => by simp [pairUp]
 | [_] => by simp [pairUp]
 | a :: b :: r => by rw [pairUp, List.length_cons, pairUp_length r]; simp; omega
theorem cnt_pairUp (i : Nat) : ∀ (l : List Pa) (b : Nat), b ≤ (pairUp l).length → cntP ((pairUp l).take b) i = cntP (l.take (2 * b)) i
 | [], b, h => by simp [pairUp, cntP]
 | [_], b, h => by
  have : b = 0 := by simpa [pairUp] using h
  subst this
  simp [cntP]
 | x :: y :: r, b, h => by
  cases b with
  | zero => simp [cntP]
  | succ b =>
   rw [pairUp, List.take_succ_cons, show 2 * (b + 1) = (2 * b) + 1 + 1 by omega, List.take_succ_cons, List.take_succ_cons, cntP, cntP, cntP, cnt_pairUp i r b (by rw [pairUp] at h; simpa using h), List.count_append]
   omega
theorem mrg_take : ∀ (m : Nat) (S Q : List Pa), S.Pairwise (fun x y => x.c ≤ y.c) → m ≤ S.length + Q.length →
  ∃ a b, a + b = m ∧ a ≤ S.length ∧ b ≤ Q.length ∧ (∀ i, cntP ((mrg S Q).take m) i = cntP (S.take a) i + cntP (Q.take b) i) ∧ ∀ q ∈ Q.take b, ∀ s ∈ S.drop a, q.c < s.c := by
 intro m
 induction m with
 | zero => intro S Q _ _; exact ⟨0, 0, rfl, by omega, by omega, fun i => by simp [cntP], fun q hq => by simp at hq⟩
 | succ m ih =>
  intro S Q hS hm
  cases S with
  | nil => exact ⟨0, m + 1, by omega, by omega, by simpa using hm, fun i => by rw [mrg]; simp [cntP], fun q _ s hs => by simp at hs⟩
  | cons s S =>
   cases Q with
   | nil => exact ⟨m + 1, 0, by omega, by simpa using hm, by omega, fun i => by rw [mrg]; simp [cntP], fun q hq => by simp at hq⟩
   | cons q Q =>
    rw [mrg]
    by_cases hc : s.c ≤ q.c
    ·rw [if_pos hc]
     obtain ⟨a, b, h1, h2, h3, h4, h5⟩ := ih S (q :: Q) (List.pairwise_cons.1 hS).2 (by simp at hm ⊢; omega)
     refine ⟨a + 1, b, by omega, by simp; omega, h3, fun i => ?_, fun x hx y hy => h5 x hx y (by simpa using hy)⟩
     rw [List.take_succ_cons, List.take_succ_cons, cntP, cntP, h4 i]
     omega
    ·rw [if_neg hc]
     obtain ⟨a, b, h1, h2, h3, h4, h5⟩ := ih (s :: S) Q hS (by simp at hm ⊢; omega)
     refine ⟨a, b + 1, by omega, h2, by simp; omega, fun i => ?_, fun x hx y hy => ?_⟩
     ·rw [List.take_succ_cons, List.take_succ_cons, cntP, cntP, h4 i]
      omega
     ·rw [List.take_succ_cons] at hx
      rcases List.mem_cons.1 hx with rfl | hx
      ·have hy2 := List.mem_of_mem_drop hy
       rcases List.mem_cons.1 hy2 with rfl | hy3
       ·omega
       ·have := (List.pairwise_cons.1 hS).1 y hy3
        omega
      ·exact h5 x hx y hy
def sumL (g : Nat → Nat) : List Nat → Nat
 | [] => 0
 | x :: l => g x + sumL g l
theorem sumL_append (g : Nat → Nat) (a b : List Nat) : sumL g (a ++ b) = sumL g a + sumL g b := by
 induction a with
 | nil => simp [sumL]
 | cons x a ih => rw [List.cons_append, sumL, sumL, ih]; omega
theorem sumL_congr {g h : Nat → Nat} {l : List Nat} (e : ∀ i ∈ l, g i = h i) : sumL g l = sumL h l := by
 induction l with
 | nil => rfl
 | cons x l ih => rw [sumL, sumL, e x (by simp), ih (fun i hi => e i (by simp [hi]))]
theorem sumL_plus (g : Nat → Nat) (k : Nat) (l : List Nat) : sumL (fun i => k + g i) l = l.length * k + sumL g l := by
 induction l with
 | nil => simp [sumL]
 | cons x l ih => rw [sumL, sumL, ih, List.length_cons, Nat.succ_mul]; omega
def mk1 (f : Nat → Nat) (i : Nat) : Pa := ⟨f i, [i]⟩
theorem cnt_singles (f : Nat → Nat) (i : Nat) (l : List Nat) : cntP (l.map (mk1 f)) i = l.count i := by
 induction l with
 | nil => rfl
 | cons x l ih =>
  rw [List.map_cons, cntP, ih, mk1, List.count_cons, List.count_cons, List.count_nil]
  omega
theorem cnt_pos {l : List Pa} {i : Nat} (h : 0 < cntP l i) : ∃ p ∈ l, i ∈ p.s := by
 induction l with
 | nil => simp [cntP] at h
 | cons x l ih =>
  rw [cntP] at h
  by_cases hx : 0 < x.s.count i
  ·exact ⟨x, by simp, List.count_pos_iff.1 hx⟩
  ·obtain ⟨p, h1, h2⟩ := ih (by omega)
   exact ⟨p, by simp [h1], h2⟩
def EntOk (f : Nat → Nat) (p : Pa) : Prop := ∀ i ∈ p.s, f i ≤ p.c
theorem pairUp_ok (f : Nat → Nat) : ∀ l : List Pa, (∀ p ∈ l, EntOk f p) → ∀ p ∈ pairUp l, EntOk f p
 | [], _, p, hp => by simp [pairUp] at hp
 | [_], _, p, hp => by simp [pairUp] at hp
 | x :: y :: r, h, p, hp => by
  rw [pairUp] at hp
  rcases List.mem_cons.1 hp with rfl | hp
  ·intro i hi
   rcases List.mem_append.1 hi with hi | hi
   ·have := h x (by simp) i hi
    show f i ≤ x.c + y.c
    omega
   ·have := h y (by simp) i hi
    show f i ≤ x.c + y.c
    omega
  ·exact pairUp_ok f r (fun q hq => h q (by simp [hq])) p hp
theorem rowN_ok (f : Nat → Nat) (sy : List Nat) : ∀ k, ∀ p ∈ rowN (sy.map (mk1 f)) k, EntOk f p := by
 intro k
 induction k with
 | zero => intro p hp; simp [rowN] at hp
 | succ k ih =>
  intro p hp
  rw [rowN] at hp
  rcases mrg_mem _ _ _ hp with hp | hp
  ·obtain ⟨i, _, rfl⟩ := List.mem_map.1 hp
   intro j hj
   have : j = i := by simpa [mk1] using hj
   subst this
   exact Nat.le_refl _
  ·exact pairUp_ok f _ ih p hp
theorem count_one {l : List Nat} (h : l.Nodup) {i : Nat} (hi : i ∈ l) : l.count i = 1 := by
 induction l with
 | nil => simp at hi
 | cons x l ih =>
  rw [List.nodup_cons] at h
  rw [List.count_cons]
  by_cases e : x = i
  ·subst e
   rw [List.count_eq_zero.2 h.1]
   simp
  ·have : i ∈ l := by
    rcases List.mem_cons.1 hi with rfl | hi
    ·exact absurd rfl e
    ·exact hi
   rw [ih h.2 this]
   simp [e]
theorem fills (f : Nat → Nat) (sy : List Nat) (hnd : sy.Nodup) (hso : sy.Pairwise (fun i j => f i ≤ f j)) : ∀ k m, m ≤ (rowN (sy.map (mk1 f)) k).length →
  (∀ i, cntP ((rowN (sy.map (mk1 f)) k).take m) i ≤ k) ∧ ∀ K, k ≤ K → 2 * sumL (fun i => 2 ^ K - 2 ^ (K - cntP ((rowN (sy.map (mk1 f)) k).take m) i)) sy = m * 2 ^ K := by
 intro k
 induction k with
 | zero =>
  intro m hm
  have hm0 : m = 0 := by simpa [rowN] using hm
  subst hm0
  refine ⟨fun i => by simp [cntP], fun K _ => ?_⟩
  have e : sumL (fun i => 2 ^ K - 2 ^ (K - cntP ((rowN (sy.map (mk1 f)) 0).take 0) i)) sy = 0 := by
   clear hnd hso hm
   induction sy with
   | nil => rfl
   | cons x l ih => rw [sumL]; simp [cntP, rowN] at ih ⊢; exact ih
  rw [e]
  simp
 | succ k ih =>
  intro m hm
  rw [rowN] at hm ⊢
  rw [mrg_length] at hm
  obtain ⟨a, b, h1, h2, h3, h4, h5⟩ := mrg_take m (sy.map (mk1 f)) (pairUp (rowN (sy.map (mk1 f)) k)) (List.pairwise_map.2 hso) hm
  have h2' : a ≤ sy.length := by simpa using h2
  have hpl := pairUp_length (rowN (sy.map (mk1 f)) k)
  obtain ⟨ih1, ih2⟩ := ih (2 * b) (by omega)
  have hd : ∀ i, cntP ((pairUp (rowN (sy.map (mk1 f)) k)).take b) i = cntP ((rowN (sy.map (mk1 f)) k).take (2 * b)) i := fun i => cnt_pairUp i _ b h3
  have hA : ∀ i, cntP ((sy.map (mk1 f)).take a) i = (sy.take a).count i := fun i => by rw [← List.map_take, cnt_singles]
  have hcnt : ∀ i, cntP ((mrg (sy.map (mk1 f)) (pairUp (rowN (sy.map (mk1 f)) k))).take m) i = (sy.take a).count i + cntP ((rowN (sy.map (mk1 f)) k).take (2 * b)) i := fun i => by rw [h4 i, hA i, hd i]
  have hnt : (sy.take a).Nodup := hnd.sublist (List.take_sublist a sy)
  have hle1 : ∀ i, (sy.take a).count i ≤ 1 := fun i => List.nodup_iff_count.1 hnt i
  have hgap : ∀ i ∈ sy.drop a, cntP ((rowN (sy.map (mk1 f)) k).take (2 * b)) i = 0 ∧ (sy.take a).count i = 0 := by
   intro i hi
   refine ⟨?_, ?_⟩
   ·rcases Nat.eq_zero_or_pos (cntP ((rowN (sy.map (mk1 f)) k).take (2 * b)) i) with z | z
    ·exact z
    ·exfalso
     rw [← hd i] at z
     obtain ⟨p, hp1, hp2⟩ := cnt_pos z
     have hok := pairUp_ok f _ (rowN_ok f sy k) p (List.mem_of_mem_take hp1) i hp2
     have := h5 p hp1 (mk1 f i) (by rw [← List.map_drop]; exact List.mem_map.2 ⟨i, hi, rfl⟩)
     have e : (mk1 f i).c = f i := rfl
     omega
   ·apply List.count_eq_zero.2
    intro hmem
    have hdis := hnd
    rw [← List.take_append_drop a sy, List.nodup_append] at hdis
    exact hdis.2.2 i hmem i hi rfl
  refine ⟨fun i => by rw [hcnt i]; have := hle1 i; have := ih1 i; omega, fun K hK => ?_⟩
  obtain ⟨K', rfl⟩ : ∃ K', K = K' + 1 := ⟨K - 1, by omega⟩
  have hih := ih2 K' (by omega)
  have hsplit : sumL (fun i => 2 ^ (K' + 1) - 2 ^ (K' + 1 - cntP ((mrg (sy.map (mk1 f)) (pairUp (rowN (sy.map (mk1 f)) k))).take m) i)) sy = a * 2 ^ K' + sumL (fun i => 2 ^ K' - 2 ^ (K' - cntP ((rowN (sy.map (mk1 f)) k).take (2 * b)) i)) sy := by
   have e0 : ∀ g : Nat → Nat, sumL g sy = sumL g (sy.take a) + sumL g (sy.drop a) := fun g => by rw [← sumL_append, List.take_append_drop]
   rw [e0, e0 (fun i => 2 ^ K' - 2 ^ (K' - cntP ((rowN (sy.map (mk1 f)) k).take (2 * b)) i))]
   have e1 : sumL (fun i => 2 ^ (K' + 1) - 2 ^ (K' + 1 - cntP ((mrg (sy.map (mk1 f)) (pairUp (rowN (sy.map (mk1 f)) k))).take m) i)) (sy.take a) = sumL (fun i => 2 ^ K' + (2 ^ K' - 2 ^ (K' - cntP ((rowN (sy.map (mk1 f)) k).take (2 * b)) i))) (sy.take a) := by
    apply sumL_congr
    intro i hi
    rw [hcnt i, count_one hnt hi]
    have hdk := ih1 i
    have hp : 2 ^ (K' - cntP ((rowN (sy.map (mk1 f)) k).take (2 * b)) i) ≤ 2 ^ K' := Nat.pow_le_pow_right (by omega) (by omega)
    rw [show K' + 1 - (1 + cntP ((rowN (sy.map (mk1 f)) k).take (2 * b)) i) = K' - cntP ((rowN (sy.map (mk1 f)) k).take (2 * b)) i by omega, Nat.pow_succ]
    omega
   have e2 : sumL (fun i => 2 ^ (K' + 1) - 2 ^ (K' + 1 - cntP ((mrg (sy.map (mk1 f)) (pairUp (rowN (sy.map (mk1 f)) k))).take m) i)) (sy.drop a) = sumL (fun i => 2 ^ K' - 2 ^ (K' - cntP ((rowN (sy.map (mk1 f)) k).take (2 * b)) i)) (sy.drop a) := by
    apply sumL_congr
    intro i hi
    rw [hcnt i, (hgap i hi).1, (hgap i hi).2]
    simp
   rw [e1, e2, sumL_plus, List.length_take, Nat.min_eq_left h2']
   omega
  rw [hsplit, Nat.mul_add, hih, Nat.pow_succ, ← h1, Nat.add_mul]
  have x1 : 2 * (a * 2 ^ K') = a * (2 ^ K' * 2) := by rw [Nat.mul_comm (2 ^ K') 2, Nat.mul_left_comm]
  have x2 : 2 * b * 2 ^ K' = b * (2 ^ K' * 2) := by rw [Nat.mul_comm (2 ^ K') 2, Nat.mul_comm 2 b, Nat.mul_assoc]
  rw [x1, x2]
theorem fills_all (f : Nat → Nat) (sy : List Nat) (hnd : sy.Nodup) (hso : sy.Pairwise (fun i j => f i ≤ f j)) (h2 : 2 ≤ sy.length) (k : Nat) (hl : 2 * sy.length - 2 ≤ (rowN (sy.map (mk1 f)) k).length) :
  (∀ i, cntP ((rowN (sy.map (mk1 f)) k).take (2 * sy.length - 2)) i ≤ k) ∧ sumL (fun i => 2 ^ (k - cntP ((rowN (sy.map (mk1 f)) k).take (2 * sy.length - 2)) i)) sy = 2 ^ k := by
 obtain ⟨h3, h4⟩ := fills f sy hnd hso k (2 * sy.length - 2) hl
 refine ⟨h3, ?_⟩
 have h5 := h4 k (Nat.le_refl _)
 have key : ∀ l : List Nat, sumL (fun i => 2 ^ k - 2 ^ (k - cntP ((rowN (sy.map (mk1 f)) k).take (2 * sy.length - 2)) i)) l + sumL (fun i => 2 ^ (k - cntP ((rowN (sy.map (mk1 f)) k).take (2 * sy.length - 2)) i)) l = l.length * 2 ^ k := by
  intro l
  induction l with
  | nil => simp [sumL]
  | cons x l ih =>
   rw [sumL, sumL, List.length_cons, Nat.add_mul l.length 1 (2 ^ k), Nat.one_mul, ← ih]
   have hp : 2 ^ (k - cntP ((rowN (sy.map (mk1 f)) k).take (2 * sy.length - 2)) x) ≤ 2 ^ k := Nat.pow_le_pow_right (by omega) (by omega)
   omega
 have h6 := key sy
 have e : (2 * sy.length - 2) * 2 ^ k = 2 * (sy.length * 2 ^ k) - 2 * 2 ^ k := by rw [Nat.sub_mul, Nat.mul_assoc]
 have e2 : 2 ^ k ≤ sy.length * 2 ^ k := Nat.le_mul_of_pos_left _ (by omega)
 omega
theorem rowN_length (S : List Pa) : ∀ k, (rowN S (k + 1)).length = S.length + (rowN S k).length / 2 := by
 intro k
 rw [rowN, mrg_length, pairUp_length]
theorem row_long (S : List Pa) : ∀ k r, 2 * S.length ≤ r * 2 ^ k → 2 * S.length ≤ (rowN S k).length + r := by
 intro k
 induction k with
 | zero => intro r h; simp [rowN] at h ⊢; exact h
 | succ k ih =>
  intro r h
  have h2 := ih (2 * r) (by
   have e : 2 * r * 2 ^ k = r * 2 ^ (k + 1) := by rw [Nat.pow_succ, Nat.mul_comm 2 r, Nat.mul_assoc, Nat.mul_comm 2 (2 ^ k)]
   rw [e]
   exact h)
  rw [rowN_length]
  omega
end Go.Bel
namespace Go.Bel
def insP (x : Pa) : List Pa → List Pa
 | [] => [x]
 | y :: l => if x.c ≤ y.c then x :: y :: l else y :: insP x l
def stabP : List Pa → List Pa
 | [] => []
 | x :: l => insP x (stabP l)
theorem ins_nil (x : Pa) : ∀ Q : List Pa, insP x Q = mrg [x] Q
 | [] => by rw [mrg]; rfl
 | q :: Q => by
  rw [mrg, insP]
  by_cases h : x.c ≤ q.c
  ·rw [if_pos h, if_pos h, mrg]
  ·rw [if_neg h, if_neg h, ins_nil x Q]
theorem mrg_cons_gt {q : Pa} {Q : List Pa} : ∀ {S : List Pa}, (∀ s ∈ S.head?, q.c < s.c) → mrg S (q :: Q) = q :: mrg S Q
 | [], _ => by rw [mrg, mrg]
 | s :: S, h => by
  have := h s (by simp)
  rw [mrg, if_neg (by omega)]
theorem ins_head {x : Pa} {S : List Pa} {c : Nat} (hx : c < x.c) (hS : ∀ s ∈ S.head?, c < s.c) : ∀ s ∈ (insP x S).head?, c < s.c := by
 intro s hs
 cases S with
 | nil => simp [insP] at hs; subst hs; exact hx
 | cons y l =>
  rw [insP] at hs
  split at hs
  ·simp at hs; subst hs; exact hx
  ·simp at hs; subst hs; exact hS y (by simp)
theorem ins_mrg (x : Pa) : ∀ S Q : List Pa, insP x (mrg S Q) = mrg (insP x S) Q
 | [], Q => by rw [mrg, ins_nil]; rfl
 | s :: S, [] => by
  rw [mrg]
  have e : ∀ l : List Pa, mrg l [] = l := fun l => by cases l <;> simp [mrg]
  rw [e]
 | s :: S, q :: Q => by
  rw [mrg]
  by_cases h : s.c ≤ q.c
  ·rw [if_pos h]
   by_cases hx : x.c ≤ s.c
   ·rw [insP, if_pos hx, insP, if_pos hx, mrg, if_pos (by omega), mrg, if_pos h]
   ·rw [insP, if_neg hx, insP, if_neg hx, mrg, if_pos h, ins_mrg x S (q :: Q)]
  ·rw [if_neg h]
   by_cases hx : x.c ≤ q.c
   ·rw [insP, if_pos hx, insP, if_pos (by omega), mrg, if_pos hx, mrg, if_neg h]
   ·rw [insP, if_neg hx, ins_mrg x (s :: S) Q, mrg_cons_gt (ins_head (by omega) (fun y hy => by simp at hy; subst hy; omega))]
termination_by S Q => S.length + Q.length
theorem stab_append : ∀ S Q : List Pa, stabP (S ++ Q) = mrg (stabP S) (stabP Q)
 | [], Q => by rw [List.nil_append, stabP, mrg]
 | x :: S, Q => by rw [List.cons_append, stabP, stabP, stab_append S Q, ins_mrg]
def SortedP (l : List Pa) : Prop := l.Pairwise (fun x y => x.c ≤ y.c)
theorem stab_sorted : ∀ {l : List Pa}, SortedP l → stabP l = l
 | [], _ => rfl
 | x :: l, h => by
  have h2 := List.pairwise_cons.1 h
  rw [stabP, stab_sorted h2.2]
  cases l with
  | nil => rfl
  | cons y l => rw [insP, if_pos (h2.1 y (by simp))]
theorem ins_mem (x : Pa) : ∀ (l : List Pa) (p : Pa), p ∈ insP x l ↔ p = x ∨ p ∈ l
 | [], p => by simp [insP]
 | y :: l, p => by
  rw [insP]
  split
  ·simp
  ·rw [List.mem_cons, ins_mem x l p, List.mem_cons]
   constructor
   ·rintro (h | h | h) <;> simp [h]
   ·rintro (h | h | h) <;> simp [h]
theorem ins_sorted (x : Pa) : ∀ {l : List Pa}, SortedP l → SortedP (insP x l)
 | [], _ => by simp [insP, SortedP]
 | y :: l, h => by
  have h2 := List.pairwise_cons.1 h
  rw [insP]
  by_cases hx : x.c ≤ y.c
  ·rw [if_pos hx]
   refine List.pairwise_cons.2 ⟨fun z hz => ?_, h⟩
   rcases List.mem_cons.1 hz with rfl | hz
   ·exact hx
   ·have := h2.1 z hz
    omega
  ·rw [if_neg hx]
   refine List.pairwise_cons.2 ⟨fun z hz => ?_, ins_sorted x h2.2⟩
   rcases (ins_mem x l z).1 hz with rfl | hz
   ·omega
   ·exact h2.1 z hz
theorem stab_is_sorted : ∀ l : List Pa, SortedP (stabP l)
 | [] => List.Pairwise.nil
 | x :: l => ins_sorted x (stab_is_sorted l)
theorem pairUp_ge : ∀ {l : List Pa} {c : Nat}, (∀ p ∈ l, c ≤ p.c) → ∀ p ∈ pairUp l, 2 * c ≤ p.c
 | [], _, _, p, hp => by simp [pairUp] at hp
 | [_], _, _, p, hp => by simp [pairUp] at hp
 | x :: y :: r, c, h, p, hp => by
  rw [pairUp] at hp
  rcases List.mem_cons.1 hp with rfl | hp
  ·have := h x (by simp)
   have := h y (by simp)
   show 2 * c ≤ x.c + y.c
   omega
  ·exact pairUp_ge (fun q hq => h q (by simp [hq])) p hp
theorem pairUp_sorted : ∀ {l : List Pa}, SortedP l → SortedP (pairUp l)
 | [], _ => by simp [pairUp, SortedP]
 | [_], _ => by simp [pairUp, SortedP]
 | x :: y :: r, h => by
  have h1 := List.pairwise_cons.1 h
  have h2 := List.pairwise_cons.1 h1.2
  rw [pairUp]
  refine List.pairwise_cons.2 ⟨fun z hz => ?_, pairUp_sorted h2.2⟩
  have := pairUp_ge (c := y.c) (fun p hp => h2.1 p hp) z hz
  have := h1.1 y (by simp)
  show x.c + y.c ≤ z.c
  omega
def rowS (S : List Pa) : Nat → List Pa
 | 0 => []
 | k + 1 => stabP (S ++ pairUp (rowS S k))
theorem rowS_eq (S : List Pa) : ∀ k, rowS S k = rowN (stabP S) k ∧ SortedP (rowS S k) := by
 intro k
 induction k with
 | zero => exact ⟨rfl, List.Pairwise.nil⟩
 | succ k ih =>
  have hs := pairUp_sorted ih.2
  have e : rowS S (k + 1) = rowN (stabP S) (k + 1) := by rw [rowS, rowN, stab_append, stab_sorted hs, ih.1]
  refine ⟨e, ?_⟩
  rw [rowS]
  exact stab_is_sorted _
def insI (f : Nat → Nat) (x : Nat) : List Nat → List Nat
 | [] => [x]
 | y :: l => if f x ≤ f y then x :: y :: l else y :: insI f x l
def stabI (f : Nat → Nat) : List Nat → List Nat
 | [] => []
 | x :: l => insI f x (stabI f l)
theorem ins_map (f : Nat → Nat) (x : Nat) : ∀ l : List Nat, insP (mk1 f x) (l.map (mk1 f)) = (insI f x l).map (mk1 f)
 | [] => rfl
 | y :: l => by
  rw [List.map_cons, insP, insI]
  by_cases h : f x ≤ f y
  ·rw [if_pos h, if_pos (show (mk1 f x).c ≤ (mk1 f y).c from h)]; rfl
  ·rw [if_neg h, if_neg (show ¬ (mk1 f x).c ≤ (mk1 f y).c from h), ins_map f x l]; rfl
theorem stab_map (f : Nat → Nat) : ∀ l : List Nat, stabP (l.map (mk1 f)) = (stabI f l).map (mk1 f)
 | [] => rfl
 | x :: l => by rw [List.map_cons, stabP, stab_map f l, ins_map, stabI]
theorem sumL_ins (f g : Nat → Nat) (x : Nat) : ∀ l : List Nat, sumL g (insI f x l) = g x + sumL g l
 | [] => rfl
 | y :: l => by
  rw [insI]
  split
  ·rfl
  ·rw [sumL, sumL_ins f g x l, sumL]; omega
theorem sumL_stab (f g : Nat → Nat) : ∀ l : List Nat, sumL g (stabI f l) = sumL g l
 | [] => rfl
 | x :: l => by rw [stabI, sumL_ins, sumL_stab f g l, sumL]
theorem insI_mem (f : Nat → Nat) (x : Nat) : ∀ (l : List Nat) (p : Nat), p ∈ insI f x l ↔ p = x ∨ p ∈ l
 | [], p => by simp [insI]
 | y :: l, p => by
  rw [insI]
  split
  ·simp
  ·rw [List.mem_cons, insI_mem f x l p, List.mem_cons]
   constructor
   ·rintro (h | h | h) <;> simp [h]
   ·rintro (h | h | h) <;> simp [h]
theorem insI_nodup (f : Nat → Nat) (x : Nat) : ∀ {l : List Nat}, x ∉ l → l.Nodup → (insI f x l).Nodup
 | [], _, _ => by simp [insI]
 | y :: l, hx, h => by
  rw [insI]
  split
  ·exact List.nodup_cons.2 ⟨hx, h⟩
  ·have h2 := List.nodup_cons.1 h
   refine List.nodup_cons.2 ⟨fun hy => ?_, insI_nodup f x (fun y => hx (by simp [y])) h2.2⟩
   rcases (insI_mem f x l y).1 hy with e | e
   ·exact hx (by simp [e])
   ·exact h2.1 e
theorem stabI_mem (f : Nat → Nat) : ∀ (l : List Nat) (p : Nat), p ∈ stabI f l ↔ p ∈ l
 | [], _ => Iff.rfl
 | x :: l, p => by rw [stabI, insI_mem, stabI_mem f l p, List.mem_cons]
theorem stabI_nodup (f : Nat → Nat) : ∀ {l : List Nat}, l.Nodup → (stabI f l).Nodup
 | [], _ => by simp [stabI]
 | x :: l, h => by
  have h2 := List.nodup_cons.1 h
  exact insI_nodup f x (fun y => h2.1 ((stabI_mem f l x).1 y)) (stabI_nodup f h2.2)
theorem stabI_length (f : Nat → Nat) (l : List Nat) : (stabI f l).length = l.length := by
 have h := sumL_stab f (fun _ => 1) l
 have e : ∀ l : List Nat, sumL (fun _ => 1) l = l.length := by
  intro l
  induction l with
  | nil => rfl
  | cons x l ih => rw [sumL, ih, List.length_cons]; omega
 rw [e, e] at h
 exact h
theorem lens_fill (f : Nat → Nat) (sy : List Nat) (hnd : sy.Nodup) (h2 : 2 ≤ sy.length) (k : Nat) (hk : sy.length ≤ 2 ^ k) :
  2 * sy.length - 2 ≤ (rowS (sy.map (mk1 f)) k).length ∧ (∀ i, cntP ((rowS (sy.map (mk1 f)) k).take (2 * sy.length - 2)) i ≤ k) ∧ sumL (fun i => 2 ^ (k - cntP ((rowS (sy.map (mk1 f)) k).take (2 * sy.length - 2)) i)) sy = 2 ^ k := by
 have e := (rowS_eq (sy.map (mk1 f)) k).1
 rw [stab_map] at e
 have hl := stabI_length f sy
 have hso : (stabI f sy).Pairwise (fun i j => f i ≤ f j) := by
  have h9 := stab_is_sorted (sy.map (mk1 f))
  rw [stab_map] at h9
  exact (List.pairwise_map (f := mk1 f) (R := fun x y : Pa => x.c ≤ y.c)).1 h9
 have hlong := row_long ((stabI f sy).map (mk1 f)) k 2 (by rw [List.length_map, hl]; omega)
 rw [List.length_map, hl] at hlong
 obtain ⟨h3, h4⟩ := fills_all f (stabI f sy) (stabI_nodup f hnd) hso (by omega) k (by rw [hl]; omega)
 rw [hl] at h3 h4
 rw [e]
 refine ⟨by omega, h3, ?_⟩
 rw [sumL_stab] at h4
 exact h4
end Go.Bel
namespace Go.Bel
structure Pe where
 c : Nat
 s : List Nat
 g : Nat
 cap : Nat
instance : Inhabited Pe := ⟨⟨0, [], 0, 0⟩⟩
def Pe.v (p : Pe) : Value := .slice (some ⟨p.g, 0, none⟩) p.s.length p.cap
def Pe.pa (p : Pe) : Pa := ⟨p.c, p.s⟩
def Pe.enc (p : Pe) : List Value := [.int .i64 (p.c : Nat), p.v]
def mrgE : List Pe → List Pe → List Pe
 | [], Q => Q
 | s :: S, [] => s :: S
 | s :: S, q :: Q => if s.c ≤ q.c then s :: mrgE S (q :: Q) else q :: mrgE (s :: S) Q
termination_by S Q => S.length + Q.length
def insE (x : Pe) : List Pe → List Pe
 | [] => [x]
 | y :: l => if x.c ≤ y.c then x :: y :: l else y :: insE x l
def stabE : List Pe → List Pe
 | [] => []
 | x :: l => insE x (stabE l)
def SortedE (l : List Pe) : Prop := l.Pairwise (fun x y => x.c ≤ y.c)
theorem insE_pa (x : Pe) : ∀ l : List Pe, (insE x l).map Pe.pa = insP x.pa (l.map Pe.pa)
 | [] => rfl
 | y :: l => by
  rw [List.map_cons, insP, insE]
  by_cases h : x.c ≤ y.c
  ·rw [if_pos h, if_pos (show x.pa.c ≤ y.pa.c from h)]; rfl
  ·rw [if_neg h, if_neg (show ¬ x.pa.c ≤ y.pa.c from h), List.map_cons, insE_pa x l]
theorem stabE_pa : ∀ l : List Pe, (stabE l).map Pe.pa = stabP (l.map Pe.pa)
 | [] => rfl
 | x :: l => by rw [stabE, insE_pa, stabE_pa l, List.map_cons, stabP]
theorem mrgE_nil (l : List Pe) : mrgE l [] = l := by cases l <;> simp [mrgE]
theorem mrgE_nil_left (l : List Pe) : mrgE [] l = l := by rw [mrgE]
theorem mrgE_length : ∀ S Q : List Pe, (mrgE S Q).length = S.length + Q.length
 | [], Q => by simp [mrgE]
 | s :: S, [] => by simp [mrgE]
 | s :: S, q :: Q => by
  rw [mrgE]
  split
  ·rw [List.length_cons, mrgE_length S (q :: Q)]; simp; omega
  ·rw [List.length_cons, mrgE_length (s :: S) Q]; simp; omega
termination_by S Q => S.length + Q.length
theorem insE_nil (x : Pe) : ∀ Q : List Pe, insE x Q = mrgE [x] Q
 | [] => by rw [mrgE]; rfl
 | q :: Q => by
  rw [mrgE, insE]
  by_cases h : x.c ≤ q.c
  ·rw [if_pos h, if_pos h, mrgE]
  ·rw [if_neg h, if_neg h, insE_nil x Q]
theorem mrgE_cons_gt {q : Pe} {Q : List Pe} : ∀ {S : List Pe}, (∀ s ∈ S.head?, q.c < s.c) → mrgE S (q :: Q) = q :: mrgE S Q
 | [], _ => by rw [mrgE, mrgE]
 | s :: S, h => by
  have := h s (by simp)
  rw [mrgE, if_neg (by omega)]
theorem insE_head {x : Pe} {S : List Pe} {c : Nat} (hx : c < x.c) (hS : ∀ s ∈ S.head?, c < s.c) : ∀ s ∈ (insE x S).head?, c < s.c := by
 intro s hs
 cases S with
 | nil => simp [insE] at hs; subst hs; exact hx
 | cons y l =>
  rw [insE] at hs
  split at hs
  ·simp at hs; subst hs; exact hx
  ·simp at hs; subst hs; exact hS y (by simp)
theorem insE_mrg (x : Pe) : ∀ S Q : List Pe, insE x (mrgE S Q) = mrgE (insE x S) Q
 | [], Q => by rw [mrgE, insE_nil]; rfl
 | s :: S, [] => by rw [mrgE_nil, mrgE_nil]
 | s :: S, q :: Q => by
  rw [mrgE]
  by_cases h : s.c ≤ q.c
  ·rw [if_pos h]
   by_cases hx : x.c ≤ s.c
   ·rw [insE, if_pos hx, insE, if_pos hx, mrgE, if_pos (by omega), mrgE, if_pos h]
   ·rw [insE, if_neg hx, insE, if_neg hx, mrgE, if_pos h, insE_mrg x S (q :: Q)]
  ·rw [if_neg h]
   by_cases hx : x.c ≤ q.c
   ·rw [insE, if_pos hx, insE, if_pos (by omega), mrgE, if_pos hx, mrgE, if_neg h]
   ·rw [insE, if_neg hx, insE_mrg x (s :: S) Q, mrgE_cons_gt (insE_head (by omega) (fun y hy => by simp at hy; subst hy; omega))]
termination_by S Q => S.length + Q.length
theorem stabE_append : ∀ S Q : List Pe, stabE (S ++ Q) = mrgE (stabE S) (stabE Q)
 | [], Q => by rw [List.nil_append, stabE, mrgE]
 | x :: S, Q => by rw [List.cons_append, stabE, stabE, stabE_append S Q, insE_mrg]
theorem insE_mem (x : Pe) : ∀ (l : List Pe) (p : Pe), p ∈ insE x l ↔ p = x ∨ p ∈ l
 | [], p => by simp [insE]
 | y :: l, p => by
  rw [insE]
  split
  ·simp
  ·rw [List.mem_cons, insE_mem x l p, List.mem_cons]
   constructor
   ·rintro (h | h | h) <;> simp [h]
   ·rintro (h | h | h) <;> simp [h]
theorem stabE_mem : ∀ (l : List Pe) (p : Pe), p ∈ stabE l ↔ p ∈ l
 | [], _ => Iff.rfl
 | x :: l, p => by rw [stabE, insE_mem, stabE_mem l p, List.mem_cons]
theorem insE_sorted (x : Pe) : ∀ {l : List Pe}, SortedE l → SortedE (insE x l)
 | [], _ => by simp [insE, SortedE]
 | y :: l, h => by
  have h2 := List.pairwise_cons.1 h
  rw [insE]
  by_cases hx : x.c ≤ y.c
  ·rw [if_pos hx]
   refine List.pairwise_cons.2 ⟨fun z hz => ?_, h⟩
   rcases List.mem_cons.1 hz with rfl | hz
   ·exact hx
   ·have := h2.1 z hz
    omega
  ·rw [if_neg hx]
   refine List.pairwise_cons.2 ⟨fun z hz => ?_, insE_sorted x h2.2⟩
   rcases (insE_mem x l z).1 hz with rfl | hz
   ·omega
   ·exact h2.1 z hz
theorem stabE_sorted : ∀ l : List Pe, SortedE (stabE l)
 | [] => List.Pairwise.nil
 | x :: l => insE_sorted x (stabE_sorted l)
theorem insE_length (x : Pe) : ∀ l : List Pe, (insE x l).length = l.length + 1
 | [] => rfl
 | y :: l => by
  rw [insE]
  split
  ·rfl
  ·rw [List.length_cons, insE_length x l, List.length_cons]
theorem stabE_length : ∀ l : List Pe, (stabE l).length = l.length
 | [] => rfl
 | x :: l => by rw [stabE, insE_length, stabE_length l, List.length_cons]
theorem mrgE_split : ∀ (L1 R1 L2 R2 : List Pe), (∀ x ∈ L1, ∀ y ∈ R2, x.c ≤ y.c) → (∀ x ∈ R1, ∀ y ∈ L2, x.c < y.c) → mrgE (L1 ++ L2) (R1 ++ R2) = mrgE L1 R1 ++ mrgE L2 R2
 | [], [], L2, R2, _, _ => by rw [mrgE_nil_left]; rfl
 | [], r :: R1, L2, R2, h1, h2 => by
  rw [List.nil_append, List.cons_append, mrgE_cons_gt (fun s hs => h2 r (by simp) s (List.mem_of_mem_head? hs)), mrgE_nil_left, List.cons_append]
  have := mrgE_split [] R1 L2 R2 h1 (fun x hx => h2 x (by simp [hx]))
  rw [List.nil_append, mrgE_nil_left] at this
  rw [this]
 | l :: L1, [], L2, R2, h1, h2 => by
  have ih := mrgE_split L1 [] L2 R2 (fun x hx => h1 x (by simp [hx])) h2
  rw [mrgE_nil, List.nil_append] at ih
  rw [mrgE_nil, List.nil_append, List.cons_append]
  cases R2 with
  | nil => rw [mrgE_nil, mrgE_nil]; rfl
  | cons r R2 =>
   rw [mrgE, if_pos (h1 l (by simp) r (by simp)), ih]
   rfl
 | l :: L1, r :: R1, L2, R2, h1, h2 => by
  rw [List.cons_append, List.cons_append, mrgE, mrgE]
  by_cases h : l.c ≤ r.c
  ·rw [if_pos h, if_pos h, List.cons_append]
   have ih := mrgE_split L1 (r :: R1) L2 R2 (fun x hx => h1 x (by simp [hx])) h2
   rw [List.cons_append] at ih
   rw [ih]
  ·rw [if_neg h, if_neg h, List.cons_append]
   have ih := mrgE_split (l :: L1) R1 L2 R2 h1 (fun x hx => h2 x (by simp [hx]))
   rw [List.cons_append] at ih
   rw [ih]
termination_by L1 R1 => L1.length + R1.length
theorem mrgE_one_left (x : Pe) (A B : List Pe) (h1 : ∀ y ∈ A, y.c < x.c) (h2 : ∀ y ∈ B, x.c ≤ y.c) : mrgE [x] (A ++ B) = A ++ x :: B := by
 have e1 := mrgE_split [] A [x] B (by simp) (fun y hy z hz => by simp at hz; subst hz; exact h1 y hy)
 rw [List.nil_append, mrgE_nil_left] at e1
 have e2 := mrgE_split [x] [] [] B (fun y hy z hz => by simp at hy; subst hy; exact h2 z hz) (by simp)
 rw [List.append_nil, List.nil_append, mrgE_nil, mrgE_nil_left] at e2
 rw [e1, e2]
 rfl
theorem mrgE_one_right (x : Pe) (A B : List Pe) (h1 : ∀ y ∈ A, y.c ≤ x.c) (h2 : ∀ y ∈ B, x.c < y.c) : mrgE (A ++ B) [x] = A ++ x :: B := by
 have e1 := mrgE_split A [] B [x] (fun y hy z hz => by simp at hz; subst hz; exact h1 y hy) (by simp)
 rw [List.nil_append, mrgE_nil] at e1
 have e2 := mrgE_split [] [x] B [] (by simp) (fun y hy z hz => by simp at hy; subst hy; exact h2 z hz)
 rw [List.append_nil, List.nil_append, mrgE_nil_left, mrgE_nil] at e2
 rw [e1, e2]
 rfl
def atE (l : List Pe) (i : Nat) : Pe := l[i]?.getD default
theorem atE_left {A B : List Pe} {i : Nat} (h : i < A.length) : atE (A ++ B) i = atE A i := by
 unfold atE; rw [List.getElem?_append_left h]
theorem atE_right {A B : List Pe} {i : Nat} (h : A.length ≤ i) : atE (A ++ B) i = atE B (i - A.length) := by
 unfold atE; rw [List.getElem?_append_right h]
theorem atE_mem {l : List Pe} {i : Nat} (h : i < l.length) : atE l i ∈ l := by
 unfold atE; rw [List.getElem?_eq_getElem h]; exact List.getElem_mem h
theorem atE_of_mem {l : List Pe} {x : Pe} (h : x ∈ l) : ∃ i, i < l.length ∧ atE l i = x := by
 obtain ⟨i, hi, e⟩ := List.mem_iff_getElem.1 h
 exact ⟨i, hi, by unfold atE; rw [List.getElem?_eq_getElem hi]; exact e⟩
theorem sortedE_at {l : List Pe} (h : SortedE l) {i j : Nat} (hij : i ≤ j) (hj : j < l.length) : (atE l i).c ≤ (atE l j).c := by
 rcases Nat.eq_or_lt_of_le hij with rfl | hlt
 ·exact Nat.le_refl _
 ·unfold atE
  rw [List.getElem?_eq_getElem hj, List.getElem?_eq_getElem (by omega)]
  exact List.pairwise_iff_getElem.1 h i j (by omega) hj hlt
theorem bang_atE (l : List Pe) (i : Nat) : (l.toArray)[i]! = atE l i := by
 unfold atE
 simp [List.getElem!_toArray, List.getElem!_eq_getElem?_getD]
theorem swp_list (A B C : List Pe) (x y : Pe) (i j : Nat) (hi : i = A.length) (hj : j = A.length + 1 + B.length) :
  Sort.swp (A ++ x :: B ++ y :: C).toArray i j = (A ++ y :: B ++ x :: C).toArray := by
 have e1 : atE (A ++ x :: B ++ y :: C) i = x := by
  rw [atE_left (by simp; omega), atE_right (by omega)]; simp [atE, hi]
 have e2 : atE (A ++ x :: B ++ y :: C) j = y := by
  rw [atE_right (by simp; omega)]
  have : j - (A ++ x :: B).length = 0 := by simp; omega
  rw [this]; rfl
 unfold Sort.swp
 rw [bang_atE, bang_atE, e1, e2, List.setIfInBounds_toArray, List.setIfInBounds_toArray]
 congr 1
 subst hi hj
 have s1 : (A ++ x :: B ++ y :: C).set A.length y = A ++ y :: B ++ y :: C := by
  rw [List.append_assoc, List.set_append_right _ _ (by omega)]; simp
 rw [s1, List.set_append_right _ _ (by simp; omega)]
 congr 1
 have : A.length + 1 + B.length - (A ++ y :: B).length = 0 := by simp; omega
 rw [this]; rfl
theorem swp_list' (A B C : List Pe) (x y : Pe) (i j : Nat) (hi : i = A.length) (hj : j = A.length + 1 + B.length) :
  Sort.swp (A ++ x :: B ++ y :: C).toArray j i = (A ++ y :: B ++ x :: C).toArray := by
 have e1 : atE (A ++ x :: B ++ y :: C) i = x := by
  rw [atE_left (by simp; omega), atE_right (by omega)]; simp [atE, hi]
 have e2 : atE (A ++ x :: B ++ y :: C) j = y := by
  rw [atE_right (by simp; omega)]
  have : j - (A ++ x :: B).length = 0 := by simp; omega
  rw [this]; rfl
 unfold Sort.swp
 rw [bang_atE, bang_atE, e1, e2, List.setIfInBounds_toArray, List.setIfInBounds_toArray]
 congr 1
 subst hi hj
 have s1 : (A ++ x :: B ++ y :: C).set (A.length + 1 + B.length) x = A ++ x :: B ++ x :: C := by
  rw [List.set_append_right _ _ (by simp; omega)]
  congr 1
  have : A.length + 1 + B.length - (A ++ x :: B).length = 0 := by simp; omega
  rw [this]; rfl
 rw [s1, List.append_assoc, List.set_append_right _ _ (by omega)]
 simp
theorem insInner_list : ∀ (n : Nat) (P A B : List Pe) (x : Pe), A.length = n → SortedE A →
  Sort.insInner (fun p q : Pe => decide (p.c < q.c)) P.length (P.length + A.length) (P ++ A ++ x :: B).toArray = (P ++ mrgE A [x] ++ B).toArray := by
 intro n
 induction n with
 | zero =>
  intro P A B x hn hA
  have : A = [] := by cases A with
   | nil => rfl
   | cons _ _ => simp at hn
  subst this
  rw [Go.Proofs.insInner_stop _ _ _ _ (.inl (by simp)), mrgE_nil_left]
  simp
 | succ n ih =>
  intro P A B x hn hA
  obtain ⟨A', y, rfl⟩ : ∃ A' y, A = A' ++ [y] := by
   rcases List.eq_nil_or_concat A with rfl | ⟨A', y, rfl⟩
   ·simp at hn
   ·exact ⟨A', y, by simp⟩
  have hA' : SortedE A' := (List.pairwise_append.1 hA).1
  have hy : ∀ z ∈ A', z.c ≤ y.c := fun z hz => (List.pairwise_append.1 hA).2.2 z hz y (by simp)
  have hl : (A' ++ [y]).length = A'.length + 1 := by simp
  have e0 : P ++ (A' ++ [y]) ++ x :: B = (P ++ A') ++ y :: [] ++ x :: B := by simp
  have ej : atE (P ++ (A' ++ [y]) ++ x :: B) (P.length + (A' ++ [y]).length) = x := by
   rw [atE_right (by simp)]; simp [atE]
  have ep : atE (P ++ (A' ++ [y]) ++ x :: B) (P.length + (A' ++ [y]).length - 1) = y := by
   rw [e0, atE_left (by simp), atE_right (by simp)]
   have : P.length + (A' ++ [y]).length - 1 - (P ++ A').length = 0 := by simp
   rw [this]; rfl
  by_cases h : x.c < y.c
  ·rw [Go.Proofs.insInner_go _ _ _ _ (by simp) (by rw [bang_atE, bang_atE, ej, ep]; exact decide_eq_true h), e0,
    swp_list' (P ++ A') [] B y x (P.length + (A' ++ [y]).length - 1) (P.length + (A' ++ [y]).length) (by simp) (by simp; omega)]
   have e1 : (P ++ A') ++ x :: [] ++ y :: B = P ++ A' ++ x :: (y :: B) := by simp
   rw [e1, show P.length + (A' ++ [y]).length - 1 = P.length + A'.length by simp, ih P A' (y :: B) x (by simp at hn; omega) hA']
   have e2 := mrgE_split A' [x] [y] [] (by simp) (fun a ha b hb => by simp at ha hb; subst ha; subst hb; exact h)
   rw [List.append_nil, mrgE_nil] at e2
   rw [e2]
   simp
  ·rw [Go.Proofs.insInner_stop _ _ _ _ (.inr (by rw [bang_atE, bang_atE, ej, ep]; exact decide_eq_false h))]
   have e2 := mrgE_one_right x (A' ++ [y]) [] (fun z hz => by
    rcases List.mem_append.1 hz with hz | hz
    ·have := hy z hz
     omega
    ·simp at hz; subst hz; omega) (by simp)
   rw [List.append_nil] at e2
   rw [e2]
   simp
theorem insOuter_list (S : List Pe) (P : List Pe) : ∀ (n : Nat) (X Y : List Pe), Y.length = n → X ≠ [] →
  Sort.insOuter (fun p q : Pe => decide (p.c < q.c)) P.length (P.length + X.length + Y.length) (P.length + X.length) (P ++ stabE X ++ Y ++ S).toArray = (P ++ stabE (X ++ Y) ++ S).toArray := by
 intro n
 induction n with
 | zero =>
  intro X Y hn hX
  have : Y = [] := by cases Y with
   | nil => rfl
   | cons _ _ => simp at hn
  subst this
  rw [Go.Proofs.insOuter_stop _ _ _ _ _ (by simp)]
  simp
 | succ n ih =>
  intro X Y hn hX
  cases Y with
  | nil => simp at hn
  | cons y Y =>
   rw [Go.Proofs.insOuter_go _ _ _ _ _ (by simp)]
   have h := insInner_list (stabE X).length P (stabE X) (Y ++ S) y rfl (stabE_sorted X)
   rw [stabE_length] at h
   have e : P ++ stabE X ++ (y :: Y) ++ S = P ++ stabE X ++ y :: (Y ++ S) := by simp
   rw [e, h]
   have e2 : mrgE (stabE X) [y] = stabE (X ++ [y]) := by rw [stabE_append]; rfl
   rw [e2]
   have := ih (X ++ [y]) Y (by simpa using hn) (by simp)
   have e3 : P.length + X.length + (y :: Y).length = P.length + (X ++ [y]).length + Y.length := by simp; omega
   have e4 : P.length + X.length + 1 = P.length + (X ++ [y]).length := by simp; omega
   have e5 : P ++ stabE (X ++ [y]) ++ (Y ++ S) = P ++ stabE (X ++ [y]) ++ Y ++ S := by simp
   rw [e3, e4, e5, this]
   simp
theorem insSort_list (P X S : List Pe) : Sort.insertionSort (fun p q : Pe => decide (p.c < q.c)) (P ++ X ++ S).toArray P.length (P.length + X.length) = (P ++ stabE X ++ S).toArray := by
 unfold Sort.insertionSort
 cases X with
 | nil => rw [Go.Proofs.insOuter_stop _ _ _ _ _ (by simp)]; simp [stabE]
 | cons x X =>
  have h := insOuter_list S P X.length [x] X rfl (by simp)
  have e : stabE [x] = [x] := rfl
  rw [e] at h
  have e2 : P ++ [x] ++ X ++ S = P ++ x :: X ++ S := by simp
  have e3 : P.length + [x].length + X.length = P.length + (x :: X).length := by simp; omega
  rw [e2, e3] at h
  exact h
end Go.Bel
namespace Go.Proofs
open Go.Shelf Go.RowKit Go.Lib Go.Sort
shelf_lay_g SlLaysF0.n20 Slsf 20 at Tryz 221 as Tryz.insLaid
end Go.Proofs
namespace Go.Proofs.YtbpahojchgpdnaaGreatDoor
open Go.RowKit Go.Shelf Go.Lib Go.Sort Go.Bel
def cfE (x y : Pe) : Int := Lib.compareInt (x.c : Int) (y.c : Int)
theorem ltE : ltOf cfE = fun p q : Pe => decide (p.c < q.c) := by
 funext x y
 unfold ltOf cfE Lib.compareInt
 by_cases h1 : x.c < y.c
 ·simp [h1]
 ·by_cases h2 : y.c < x.c <;> simp [h1, h2]
theorem isNaN_ok (x : Int) (w : World) : Calls Tryz.prog 138 #[.int .i64 x] w fun e w' => e = .returned (.bool false) ∧ w' = w := by
 go_enter Tryz.func138, Tryz.ntmps138
 go_wp2_with fail
 first | go_ret | skip
 all_goals simp
theorem compare_ok (x y : Int) (w : World) : Calls Tryz.prog 108 #[.int .i64 x, .int .i64 y] w fun e w' => e = .returned (.int .i64 (Lib.compareInt x y)) ∧ w' = w := by
 have h1 := isNaN_ok x
 have h2 := isNaN_ok y
 unfold Lib.compareInt
 go_enter Tryz.func108, Tryz.ntmps108
 by_cases hlt : x < y
 ·rw [if_pos hlt]
  go_wp2_with (go_at_call 138; first | (refine (h1 _).mono ?_; rintro e w' ⟨rfl, rfl⟩) | (refine (h2 _).mono ?_; rintro e w' ⟨rfl, rfl⟩))
  first | go_ret | skip
  all_goals exact ⟨rfl, rfl⟩
 ·rw [if_neg hlt]
  by_cases hgt : x > y
  ·rw [if_pos hgt]
   go_wp2_with (go_at_call 138; first | (refine (h1 _).mono ?_; rintro e w' ⟨rfl, rfl⟩) | (refine (h2 _).mono ?_; rintro e w' ⟨rfl, rfl⟩))
   first | go_ret | skip
   all_goals exact ⟨rfl, rfl⟩
  ·rw [if_neg hgt]
   go_wp2_with (go_at_call 138; first | (refine (h1 _).mono ?_; rintro e w' ⟨rfl, rfl⟩) | (refine (h2 _).mono ?_; rintro e w' ⟨rfl, rfl⟩))
   first | go_ret | skip
   all_goals exact ⟨rfl, rfl⟩
theorem sorted1_ok (x y : Pe) (W : World) : Calls Tryz.prog 208 #[.agg #[.int .i64 (x.c : Nat), x.v], .agg #[.int .i64 (y.c : Nat), y.v]] W fun e w' => e = .returned (.int .i64 (cfE x y)) ∧ ∃ q os', w' = grow (W.drewN q) os' := by
 have hcon := compare_ok (x.c : Int) (y.c : Int)
 unfold cfE
 generalize Lib.compareInt (x.c : Int) (y.c : Int) = r at hcon ⊢
 obtain ⟨a, ha⟩ : ∃ a : Int, a = (x.c : Int) := ⟨_, rfl⟩
 obtain ⟨b, hb⟩ : ∃ b : Int, b = (y.c : Int) := ⟨_, rfl⟩
 rw [← ha, ← hb] at hcon ⊢
 clear ha hb
 go_enter Tryz.func208, Tryz.ntmps208
 go_wp2_with (go_at_call 108; refine (hcon _).mono ?_; rintro e w' ⟨rfl, rfl⟩)
 go_ret
 exact ⟨rfl, 0, _, by rw [alloc_eq_grow, alloc_eq_grow, grow_grow]; rfl⟩
theorem encE_len (x : Pe) : x.enc.length = 2 := rfl
theorem encE_one (x : Pe) : ∀ v ∈ x.enc, v.oneCell' = true := fun v hv => by
 simp [Pe.enc, Pe.v] at hv
 rcases hv with rfl | rfl <;> rfl
theorem rowE {w0 : World} {blk off : Nat} {d0 : Array Pe} (h : HoldsK Pe.enc 2 w0 blk off d0) (hb : blk < w0.heap.size) : RowK Pe.enc 2 w0 blk off d0 := ⟨encE_len, encE_one, h, hb⟩
theorem cmpE (blk off size : Nat) (w : World) : CmpLays Tryz.prog 208 #[] Pe.enc 2 cfE blk off size w :=
 fun _ _ _ _ x y => sorted1_ok x y _
end Go.Proofs.YtbpahojchgpdnaaGreatDoor
namespace Go.Proofs.YtbpahojchgpdnaaGreatDoor
open Go.RowKit Go.Shelf Go.Lib Go.Sort Go.Bel
def SwE (w0 : World) (blk off : Nat) (l : List Pe) (W : World) : Prop := SWK Pe.enc 2 w0 blk off l.toArray W
theorem SwE.cells {w0 W : World} {blk off : Nat} {l l0 : List Pe} (S : SwE w0 blk off l W) (R : RowK Pe.enc 2 w0 blk off l0.toArray) (hs : l.length = l0.length) {i : Nat} (hi : i < l.length) :
  W.cell? ⟨blk, off + i * 2, none⟩ = some (.int .i64 ((atE l i).c : Nat)) ∧ W.cell? ⟨blk, off + i * 2 + 1, none⟩ = some (atE l i).v ∧ W.frozen? ⟨blk, off + i * 2, none⟩ = false ∧ W.frozen? ⟨blk, off + i * 2 + 1, none⟩ = false := by
 have h : HoldsK Pe.enc 2 W blk off l.toArray := SWK.holds S R.hblk R.hH (by simpa using hs)
 have hi' : i < l.toArray.size := by simpa using hi
 have h0 := h.cell hi' (show 0 < 2 by omega)
 have h1 := h.cell hi' (show 1 < 2 by omega)
 rw [bang_atE] at h0 h1
 exact ⟨h0.1, h1.1, h0.2, h1.2⟩
theorem SwE.swap {w0 W : World} {blk off : Nat} {l0 A B C : List Pe} {x y : Pe} (S : SwE w0 blk off (A ++ x :: B ++ y :: C) W) (R : RowK Pe.enc 2 w0 blk off l0.toArray) {p q : Nat} (hp : p = A.length) (hq : q = A.length + 1 + B.length) :
  SwE w0 blk off (A ++ y :: B ++ x :: C) ((((W.drew.setCell ⟨blk, off + p * 2, none⟩ (.int .i64 (y.c : Nat))).setCell ⟨blk, off + p * 2 + 1, none⟩ y.v).setCell ⟨blk, off + q * 2, none⟩ (.int .i64 (x.c : Nat))).setCell ⟨blk, off + q * 2 + 1, none⟩ x.v) := by
 have e1 : atE (A ++ x :: B ++ y :: C) p = x := by
  rw [atE_left (by simp; omega), atE_right (by omega)]; simp [atE, hp]
 have e2 : atE (A ++ x :: B ++ y :: C) q = y := by
  rw [atE_right (by simp; omega)]
  have : q - (A ++ x :: B).length = 0 := by simp; omega
  rw [this]; rfl
 have h := SWK.swapped S R p q (by simp; omega) (by simp; omega)
 rw [swp_list A B C x y p q hp hq, bang_atE, bang_atE, e1, e2] at h
 exact h
theorem SwE.swap' {w0 W : World} {blk off : Nat} {l0 A B C : List Pe} {x y : Pe} (S : SwE w0 blk off (A ++ x :: B ++ y :: C) W) (R : RowK Pe.enc 2 w0 blk off l0.toArray) {p q : Nat} (hp : p = A.length) (hq : q = A.length + 1 + B.length) :
  SwE w0 blk off (A ++ y :: B ++ x :: C) ((((W.drew.setCell ⟨blk, off + q * 2, none⟩ (.int .i64 (x.c : Nat))).setCell ⟨blk, off + q * 2 + 1, none⟩ x.v).setCell ⟨blk, off + p * 2, none⟩ (.int .i64 (y.c : Nat))).setCell ⟨blk, off + p * 2 + 1, none⟩ y.v) := by
 have e1 : atE (A ++ x :: B ++ y :: C) p = x := by
  rw [atE_left (by simp; omega), atE_right (by omega)]; simp [atE, hp]
 have e2 : atE (A ++ x :: B ++ y :: C) q = y := by
  rw [atE_right (by simp; omega)]
  have : q - (A ++ x :: B).length = 0 := by simp; omega
  rw [this]; rfl
 have h := SWK.swapped S R q p (by simp; omega) (by simp; omega)
 rw [swp_list' A B C x y p q hp hq, bang_atE, bang_atE, e1, e2] at h
 exact h
theorem at_fst {A B C : List Pe} {x y : Pe} {p : Nat} (hp : p = A.length) : atE (A ++ x :: B ++ y :: C) p = x := by
 rw [atE_left (by simp; omega), atE_right (by omega)]; simp [atE, hp]
theorem at_snd {A B C : List Pe} {x y : Pe} {q : Nat} (hq : q = A.length + 1 + B.length) : atE (A ++ x :: B ++ y :: C) q = y := by
 rw [atE_right (by simp; omega)]
 have : q - (A ++ x :: B).length = 0 := by simp; omega
 rw [this]; rfl
set_option maxRecDepth 1000000 in
theorem swapRange_ok (blk off cap a b n : Nat) (A B C X Y l0 : List Pe) (w0 w : World) (fv : Value)
  (R : RowK Pe.enc 2 w0 blk off l0.toArray) (hs : l0.length = (A ++ X ++ B ++ Y ++ C).length) (S : SwE w0 blk off (A ++ X ++ B ++ Y ++ C) w)
  (ha : a = A.length) (hn : X.length = n) (hn2 : Y.length = n) (hb : b = A.length + X.length + B.length) (hsz : l0.length < 4611686018427387904) :
  Calls Tryz.prog 226 #[.slice (some ⟨blk, off, none⟩) l0.length cap, .int .i64 (a : Nat), .int .i64 (b : Nat), .int .i64 (n : Nat), fv] w fun e w' => e = .returned (.tuple #[]) ∧ SwE w0 blk off (A ++ Y ++ B ++ X ++ C) w' := by
 have mixed : Tryz.prog.follows .mixedOrders = true := by kernel_rfl
 have S0 : Hid (SwE w0 blk off (A ++ X ++ B ++ Y ++ C) w) := S
 have HS : Hid (l0.length = (A ++ X ++ B ++ Y ++ C).length) := hs
 have HA : Hid (a = A.length ∧ X.length = n ∧ Y.length = n ∧ b = A.length + X.length + B.length) := ⟨ha, hn, hn2, hb⟩
 have hbn : b + n ≤ l0.length := by rw [hs]; simp; omega
 have han : a + n ≤ b := by omega
 clear S hs ha hn hn2 hb
 go_enter Tryz.func226, Tryz.ntmps226
 go_wp2_with fail
 go_loopg [10] n (fun kx s10 wr => ∃ i : Nat, s10 = .int .i64 (i : Nat) ∧ i ≤ n ∧ kx = n - i ∧ Hid (SwE w0 blk off (A ++ (Y.take i ++ X.drop i) ++ B ++ (X.take i ++ Y.drop i) ++ C) wr))
 case atStart => exact ⟨0, rfl, by omega, rfl, by simpa using S0⟩
 case round =>
  clear S0
  obtain ⟨i, rfl, hin, hkx, S1⟩ := hrel
  by_cases hlt : i < n
  ·have hltz : (i : Int) < (n : Int) := by omega
   obtain ⟨p, hp⟩ : ∃ p, p = a + i := ⟨_, rfl⟩
   obtain ⟨q, hq⟩ : ∃ q, q = b + i := ⟨_, rfl⟩
   have rp : IntKind.i64.wrap ((a : Int) + (i : Int)) = (p : Int) := by rw [IntKind.wrap_i64]; omega
   have rq : IntKind.i64.wrap ((b : Int) + (i : Int)) = (q : Int) := by rw [IntKind.wrap_i64]; omega
   have ep : ((p : Int)).toNat = p := by omega
   have eq : ((q : Int)).toNat = q := by omega
   have pp : (0 : Int) ≤ (p : Int) := by omega
   have pq : (0 : Int) ≤ (q : Int) := by omega
   have bp : (p : Int) < (l0.length : Int) := by omega
   have bq : (q : Int) < (l0.length : Int) := by omega
   obtain ⟨⟨a1, a2, a3, a4⟩, a5⟩ := (⟨unhide HA, unhide HS⟩ : _ ∧ _)
   obtain ⟨x, hx⟩ : ∃ x, X.drop i = x :: X.drop (i + 1) := ⟨X[i], (List.getElem_cons_drop (h := by omega)).symm⟩
   obtain ⟨y, hy⟩ : ∃ y, Y.drop i = y :: Y.drop (i + 1) := ⟨Y[i], (List.getElem_cons_drop (h := by omega)).symm⟩
   have hx2 : X.take (i + 1) = X.take i ++ [x] := by
    have h9 : X[i]? = some x := by rw [← Nat.add_zero i, ← List.getElem?_drop, hx]; rfl
    rw [List.take_add_one, h9]; rfl
   have hy2 : Y.take (i + 1) = Y.take i ++ [y] := by
    have h9 : Y[i]? = some y := by rw [← Nat.add_zero i, ← List.getElem?_drop, hy]; rfl
    rw [List.take_add_one, h9]; rfl
   have el : A ++ (Y.take i ++ X.drop i) ++ B ++ (X.take i ++ Y.drop i) ++ C = (A ++ Y.take i) ++ x :: (X.drop (i + 1) ++ B ++ X.take i) ++ y :: (Y.drop (i + 1) ++ C) := by rw [hx, hy]; simp
   have en : A ++ (Y.take (i + 1) ++ X.drop (i + 1)) ++ B ++ (X.take (i + 1) ++ Y.drop (i + 1)) ++ C = (A ++ Y.take i) ++ y :: (X.drop (i + 1) ++ B ++ X.take i) ++ x :: (Y.drop (i + 1) ++ C) := by rw [hx2, hy2]; simp
   have lp : p = (A ++ Y.take i).length := by simp; omega
   have lq : q = (A ++ Y.take i).length + 1 + (X.drop (i + 1) ++ B ++ X.take i).length := by simp; omega
   have S1' := unhide S1
   rw [el] at S1'
   have hll : ((A ++ Y.take i) ++ x :: (X.drop (i + 1) ++ B ++ X.take i) ++ y :: (Y.drop (i + 1) ++ C)).length = l0.length := by rw [a5]; simp; omega
   have S2 := hide (S1'.swap R lp lq)
   obtain ⟨cp0, cp1, fp0, fp1⟩ := S1'.cells R hll (i := p) (by omega)
   obtain ⟨cq0, cq1, fq0, fq1⟩ := S1'.cells R hll (i := q) (by omega)
   rw [at_fst lp] at cp0 cp1
   rw [at_snd lq] at cq0 cq1
   have m1 : ¬ off + p * 2 = off + q * 2 := by omega
   have m2 : ¬ off + q * 2 = off + p * 2 := by omega
   have m3 : ¬ off + p * 2 + 1 = off + q * 2 + 1 := by omega
   have m4 : ¬ off + q * 2 + 1 = off + p * 2 + 1 := by omega
   have m5 : ¬ off + p * 2 + 1 = off + q * 2 := by omega
   have m6 : ¬ off + q * 2 + 1 = off + p * 2 := by omega
   have m7 : ¬ off + p * 2 = off + q * 2 + 1 := by omega
   have m8 : ¬ off + q * 2 = off + p * 2 + 1 := by omega
   have EN := hide en
   have ev : ∀ z : Pe, ∃ (g k n : Nat) (c : Int), z.v = .slice (some ⟨g, 0, none⟩) n k ∧ (z.c : Int) = c := fun z => ⟨z.g, z.cap, z.s.length, _, rfl, rfl⟩
   obtain ⟨xg, xk, xn, xc, hxv, hxc⟩ := ev x
   obtain ⟨yg, yk, yn, yc, hyv, hyc⟩ := ev y
   rw [hxv, hyv, hxc, hyc] at S2
   rw [hxv] at cp1
   rw [hyv] at cq1
   rw [hxc] at cp0
   rw [hyc] at cq0
   clear ev
   clear hp hq hxv hyv hxc hyc
   clear S1 S1' hll el en lp lq hx hy hx2 hy2 a1 a2 a3 a4 a5
   go_wp2_with fail
   go_big_region_o
   go_wp2_with fail
   go_roundg (n - (i + 1))
   case measure => omega
   case rel => exact ⟨i + 1, by first | rfl | simp | go_num, by omega, by omega, by rw [unhide EN]; exact S2⟩
  ·have hltz : ¬ (i : Int) < (n : Int) := by omega
   go_wp2_with fail
   go_end0
   refine ⟨rfl, ?_⟩
   have hi : i = n := by omega
   obtain ⟨a1, a2, a3, a4⟩ := unhide HA
   have h := unhide S1
   rw [hi, List.take_of_length_le (by omega), List.take_of_length_le (by omega), List.drop_of_length_le (by omega), List.drop_of_length_le (by omega)] at h
   simpa using h
end Go.Proofs.YtbpahojchgpdnaaGreatDoor
namespace Go.Proofs.YtbpahojchgpdnaaGreatDoor
open Go.RowKit Go.Shelf Go.Lib Go.Sort Go.Bel
structure RotAt (w0 : World) (blk off m : Nat) (T : List Pe) (n i j : Nat) (W : World) : Prop where
 ex : ∃ P U V S : List Pe, SwE w0 blk off (P ++ U ++ V ++ S) W ∧ U.length = i ∧ V.length = j ∧ m = P.length + i ∧ (P ++ U ++ V ++ S).length = n ∧ P ++ V ++ U ++ S = T
theorem list_cut (l : List Pe) (k : Nat) (h : k ≤ l.length) : ∃ A B, l = A ++ B ∧ A.length = k ∧ B.length = l.length - k :=
 ⟨l.take k, l.drop k, (List.take_append_drop k l).symm, by rw [List.length_take]; omega, List.length_drop⟩
set_option maxRecDepth 1000000 in
theorem rotate_ok (blk off cap a m b : Nat) (P U V S l0 : List Pe) (w0 w : World) (fv : Value)
  (R : RowK Pe.enc 2 w0 blk off l0.toArray) (hs : l0.length = (P ++ U ++ V ++ S).length) (H : SwE w0 blk off (P ++ U ++ V ++ S) w)
  (ha : a = P.length) (hm : m = P.length + U.length) (hb : b = P.length + U.length + V.length) (hU : 0 < U.length) (hV : 0 < V.length) (hsz : l0.length < 4611686018427387904) :
  Calls Tryz.prog 225 #[.slice (some ⟨blk, off, none⟩) l0.length cap, .int .i64 (a : Nat), .int .i64 (m : Nat), .int .i64 (b : Nat), fv] w fun e w' => e = .returned (.tuple #[]) ∧ SwE w0 blk off (P ++ V ++ U ++ S) w' := by
 have H0 : Hid (RotAt w0 blk off m (P ++ V ++ U ++ S) l0.length (m - a) (b - m) w) := ⟨P, U, V, S, H, by omega, by omega, by omega, hs.symm, rfl⟩
 have R' := hide R
 have b1 : b ≤ l0.length := by rw [hs]; simp; omega
 have b2 : a < m := by omega
 have b3 : m < b := by omega
 obtain ⟨T, hT⟩ : ∃ T, T = P ++ V ++ U ++ S := ⟨_, rfl⟩
 rw [← hT] at H0 ⊢
 clear hT H hs ha hm hb hU hV R
 go_enter Tryz.func225, Tryz.ntmps225
 go_wp2_with fail
 go_loopg [10, 11] (b - a) (fun kx s10 s11 wr => ∃ i j : Nat, s10 = .int .i64 (i : Nat) ∧ s11 = .int .i64 (j : Nat) ∧ 0 < i ∧ 0 < j ∧ i ≤ m ∧ m + j ≤ l0.length ∧ kx = i + j ∧ Hid (RotAt w0 blk off m T l0.length i j wr))
 case atStart => exact ⟨m - a, b - m, by congr 1; omega, by congr 1; omega, by omega, by omega, by omega, by omega, by omega, H0⟩
 case round =>
  clear H0
  obtain ⟨i, j, rfl, rfl, hi, hj, him, hjl, hkx, H1⟩ := hrel
  obtain ⟨P', U', V', S', hH, hU', hV', hm', hn, hT⟩ := (unhide H1).ex
  by_cases hne : i = j
  ·have hnez : (i : Int) = (j : Int) := by omega
   have hc := swapRange_ok blk off cap (m - i) m i P' [] S' U' V' l0 w0 wr fv (unhide R') (by rw [← hn]; simp) (by simpa using hH) (by omega) hU' (by omega) (by simp; omega) hsz
   have e1 : ((m - i : Nat) : Int) = (m : Int) - (i : Int) := by omega
   rw [e1] at hc
   have hT' : P' ++ V' ++ [] ++ U' ++ S' = T := by rw [← hT]; simp
   rw [hT'] at hc
   have HC := hide hc
   clear hc hH hU' hV' hm' hn hT hT' e1 H1 hkx
   subst hne
   go_wp2_with (go_at_call 226; refine (unhide HC).mono ?_; rintro e w' ⟨rfl, h2⟩)
   go_end0
   exact ⟨rfl, h2⟩
  ·have hnez : ¬ (i : Int) = (j : Int) := by omega
   by_cases hgt : i > j
   ·have hgtz : (i : Int) > (j : Int) := by omega
    obtain ⟨U1, U2, hu, hu1, hu2⟩ := list_cut U' j (by omega)
    have hc := swapRange_ok blk off cap (m - i) m j P' U2 S' U1 V' l0 w0 wr fv (unhide R') (by rw [← hn, hu]; simp) (by rw [hu] at hH; simpa using hH) (by omega) hu1 hV' (by omega) hsz
    have e1 : ((m - i : Nat) : Int) = (m : Int) - (i : Int) := by omega
    rw [e1] at hc
    have hr : ∀ W, SwE w0 blk off (P' ++ V' ++ U2 ++ U1 ++ S') W → RotAt w0 blk off m T l0.length (i - j) j W := fun W hW =>
     ⟨P' ++ V', U2, U1, S', hW, by omega, hu1, by simp; omega, by rw [← hn, hu]; simp; omega, by rw [← hT, hu]; simp⟩
    have HC := hide hc
    have HR := hide hr
    clear hc hr hH hU' hV' hm' hn hT e1 H1 hu hu1 hu2
    go_wp2_with (go_at_call 226; refine (unhide HC).mono ?_; rintro e w' ⟨rfl, h2⟩)
    go_roundg (i - j + j)
    case measure => omega
    case rel => exact ⟨i - j, j, by first | rfl | (congr 1; omega) | go_num, rfl, by omega, by omega, by omega, by omega, rfl, unhide HR _ h2⟩
   ·have hgtz : ¬ (i : Int) > (j : Int) := by omega
    obtain ⟨V1, V2, hv, hv1, hv2⟩ := list_cut V' (j - i) (by omega)
    have hc := swapRange_ok blk off cap (m - i) (m + j - i) i P' V1 S' U' V2 l0 w0 wr fv (unhide R') (by rw [← hn, hv]; simp) (by rw [hv] at hH; simpa using hH) (by omega) hU' (by omega) (by omega) hsz
    have e1 : ((m - i : Nat) : Int) = (m : Int) - (i : Int) := by omega
    have e2 : ((m + j - i : Nat) : Int) = (m : Int) + (j : Int) - (i : Int) := by omega
    rw [e1, e2] at hc
    have hr : ∀ W, SwE w0 blk off (P' ++ V2 ++ V1 ++ U' ++ S') W → RotAt w0 blk off m T l0.length i (j - i) W := fun W hW =>
     ⟨P', V2, V1, U' ++ S', by simpa using hW, by omega, by omega, by omega, by rw [← hn, hv]; simp; omega, by rw [← hT, hv]; simp⟩
    have HC := hide hc
    have HR := hide hr
    clear hc hr hH hU' hV' hm' hn hT e1 e2 H1 hv hv1 hv2
    go_wp2_with (go_at_call 226; refine (unhide HC).mono ?_; rintro e w' ⟨rfl, h2⟩)
    go_roundg (i + (j - i))
    case measure => omega
    case rel => exact ⟨i, j - i, rfl, by first | rfl | (congr 1; omega) | go_num, by omega, by omega, by omega, by omega, rfl, unhide HR _ h2⟩
end Go.Proofs.YtbpahojchgpdnaaGreatDoor
namespace Go.Proofs.YtbpahojchgpdnaaGreatDoor
open Go.RowKit Go.Shelf Go.Lib Go.Sort Go.Bel
def fvE : Value := .func (.func 208) #[] #[]
theorem SwE.grown {w0 W : World} {blk off : Nat} {l : List Pe} (S : SwE w0 blk off l W) (n : Nat) (os : Array Obj) : SwE w0 blk off l (grow (W.drewN n) os) := SWK.grown S n os
structure TestAt (W : World) (blk p q : Nat) (xg xk xn yg yk yn : Nat) (xc yc : Int) : Prop where
 c1 : ∀ n os, (grow (W.drewN n) os).cell? ⟨blk, p, none⟩ = some (.int .i64 xc)
 c2 : ∀ n os, (grow (W.drewN n) os).cell? ⟨blk, p + 1, none⟩ = some (.slice (some ⟨xg, 0, none⟩) xn xk)
 c3 : ∀ n os, (grow (W.drewN n) os).cell? ⟨blk, q, none⟩ = some (.int .i64 yc)
 c4 : ∀ n os, (grow (W.drewN n) os).cell? ⟨blk, q + 1, none⟩ = some (.slice (some ⟨yg, 0, none⟩) yn yk)
 cl : ∀ n os, Calls Tryz.prog 208 #[.agg #[.int .i64 xc, .slice (some ⟨xg, 0, none⟩) xn xk], .agg #[.int .i64 yc, .slice (some ⟨yg, 0, none⟩) yn yk]] (grow (W.drewN n) os) fun e w' => e = .returned (.int .i64 (Lib.compareInt xc yc)) ∧ ∃ q os', w' = grow ((grow (W.drewN n) os).drewN q) os'
theorem SwE.test {w0 W : World} {blk off : Nat} {l l0 : List Pe} (S : SwE w0 blk off l W) (R : RowK Pe.enc 2 w0 blk off l0.toArray) (hs : l.length = l0.length) {i j : Nat} (hi : i < l.length) (hj : j < l.length) :
  ∃ xg xk xn yg yk yn, TestAt W blk (off + i * 2) (off + j * 2) xg xk xn yg yk yn ((atE l i).c : Int) ((atE l j).c : Int) := by
 refine ⟨(atE l i).g, (atE l i).cap, (atE l i).s.length, (atE l j).g, (atE l j).cap, (atE l j).s.length, fun n os => ((S.grown n os).cells R hs hi).1, fun n os => ((S.grown n os).cells R hs hi).2.1, fun n os => ((S.grown n os).cells R hs hj).1, fun n os => ((S.grown n os).cells R hs hj).2.1, fun n os => ?_⟩
 exact sorted1_ok (atE l i) (atE l j) _
theorem cmp_neg (x y : Int) : (Lib.compareInt x y < 0) ↔ x < y := by
 unfold Lib.compareInt
 by_cases h1 : x < y
 ·simp [h1]
 ·by_cases h2 : y < x <;> simp [h1, h2]
structure Srch (l : List Pe) (m b i j x : Nat) : Prop where
 mi : m ≤ i
 ij : i ≤ j
 jb : j ≤ b
 lo : ∀ t, m ≤ t → t < i → (atE l t).c < x
 hi : ∀ t, j ≤ t → t < b → x ≤ (atE l t).c
set_option maxRecDepth 1000000 in
theorem symMerge_left (blk off cap a m b : Nat) (P R' S l0 : List Pe) (x : Pe) (w0 w : World)
  (R : RowK Pe.enc 2 w0 blk off l0.toArray) (hs : l0.length = (P ++ [x] ++ R' ++ S).length) (H : SwE w0 blk off (P ++ [x] ++ R' ++ S) w)
  (ha : a = P.length) (hm : m = P.length + 1) (hb : b = P.length + 1 + R'.length) (hsR : SortedE R') (hsz : l0.length < 4611686018427387904) :
  Calls Tryz.prog 222 #[.slice (some ⟨blk, off, none⟩) l0.length cap, .int .i64 (a : Nat), .int .i64 (m : Nat), .int .i64 (b : Nat), fvE] w fun e w' => e = .returned (.tuple #[]) ∧ SwE w0 blk off (P ++ mrgE [x] R' ++ S) w' := by
 have mixed : Tryz.prog.follows .mixedOrders = true := by kernel_rfl
 have H0 := hide H
 have HR := hide R
 have b1 : b ≤ l0.length := by rw [hs]; simp; omega
 have b2 : m ≤ a + 1 := by omega
 have b4 : a + 1 ≤ m := by omega
 have b3 : m ≤ b := by omega
 have ex : atE (P ++ [x] ++ R' ++ S) a = x := by rw [List.append_assoc, List.append_assoc, atE_right (by omega), ha]; simp [atE]
 have er : ∀ t, m ≤ t → t < b → atE (P ++ [x] ++ R' ++ S) t = atE R' (t - m) := fun t h1 h2 => by
  rw [atE_left (by simp; omega), atE_right (by simp; omega)]; congr 1; simp; omega
 have hst : ∀ s t, m ≤ s → s ≤ t → t < b → (atE (P ++ [x] ++ R' ++ S) s).c ≤ (atE (P ++ [x] ++ R' ++ S) t).c := fun s t h1 h2 h3 => by
  rw [er s h1 (by omega), er t (by omega) h3]
  exact sortedE_at hsR (by omega) (by omega)
 have HX := hide (And.intro ex (And.intro er (And.intro hst (And.intro hs (And.intro ha (And.intro hm hb))))))
 have z1 : IntKind.i64.wrap ((m : Int) - (a : Int)) = 1 := by rw [IntKind.wrap_i64]; omega
 clear H R hs ha hm hb ex er hst hsR
 unfold fvE
 go_enter Tryz.func222, Tryz.ntmps222
 go_wp2_with fail
 obtain ⟨l, hl⟩ : ∃ l, l = P ++ [x] ++ R' ++ S := ⟨_, rfl⟩
 rw [← hl] at H0
 have hL : l.length = l0.length := by rw [hl]; exact (unhide HX).2.2.2.1.symm
 have hax : atE l a = x := by rw [hl]; exact (unhide HX).1
 have hmono : ∀ s t, m ≤ s → s ≤ t → t < b → (atE l s).c ≤ (atE l t).c := by rw [hl]; exact (unhide HX).2.2.1
 have HMO := hide hmono
 have HL := hide (And.intro hl (And.intro hL hax))
 clear hl hL hax hmono
 go_loopg [10, 11] (b - m) (fun kx s10 s11 wr => ∃ i j : Nat, s10 = .int .i64 (i : Nat) ∧ s11 = .int .i64 (j : Nat) ∧ i ≤ j ∧ j ≤ b ∧ kx = j - i ∧ Hid (Srch l m b i j x.c) ∧ Hid (SwE w0 blk off l wr))
 case atStart => exact ⟨m, b, rfl, rfl, by omega, by omega, rfl, ⟨by omega, by omega, by omega, fun t h1 h2 => by omega, fun t h1 h2 => by omega⟩, H0⟩
 case round =>
  clear H0
  obtain ⟨i, j, rfl, rfl, hij, hjb, hkx, H1, S1⟩ := hrel
  by_cases hlt : i < j
  ·have hltz : (i : Int) < (j : Int) := by omega
   obtain ⟨h, hh⟩ : ∃ h, h = (i + j) / 2 := ⟨_, rfl⟩
   have hj1 : i ≤ h := by omega
   have hj2 : h < j := by omega
   have HH := hide hh
   obtain ⟨hl, hL, hax⟩ := unhide HL
   obtain ⟨xg, xk, xn, yg, yk, yn, T⟩ := (unhide S1).test (unhide HR) hL (i := h) (j := a) (by omega) (by omega)
   rw [hax] at T
   obtain ⟨c1, c2, c3, c4, cl⟩ := T
   have e0 : ((h : Int)).toNat = h := by omega
   have e1 : ((a : Int)).toNat = a := by omega
   have p0 : (0 : Int) ≤ (h : Int) := by omega
   have p1 : (0 : Int) ≤ (a : Int) := by omega
   have q0 : (h : Int) < (l0.length : Int) := by omega
   have q1 : (a : Int) < (l0.length : Int) := by omega
   have hd : ((i : Int) + (j : Int)) / 2 = (h : Int) := by omega
   have hr := cmp_neg ((atE l h).c : Int) (x.c : Int)
   obtain ⟨r, hrr⟩ : ∃ r, r = Lib.compareInt ((atE l h).c : Int) (x.c : Int) := ⟨_, rfl⟩
   rw [← hrr] at cl hr
   have HRR := hide hr
   have s1 := (unhide H1)
   have hmono := unhide HMO
   obtain ⟨hc, hhc⟩ : ∃ hc : Int, hc = ((atE l h).c : Int) := ⟨_, rfl⟩
   obtain ⟨xc, hxc⟩ : ∃ xc : Int, xc = (x.c : Int) := ⟨_, rfl⟩
   rw [← hhc] at c1 cl
   rw [← hxc] at c3 cl
   by_cases hrn : r < 0
   ·have n1 : Hid (Srch l m b (h + 1) j x.c) := ⟨by have := s1.mi; omega, by omega, by omega, fun t h1 h2 => by
     have h3 := hr.1 hrn
     have h4 := hmono t h h1 (by omega) (by omega)
     omega, s1.hi⟩
    clear hh hl hL hax hrr hhc hxc s1 hmono hr HRR H1
    go_wp2_with fail
    go_quiet_grown (refine Calls.grown_of (cl _ _))
    go_wp2_with fail
    go_roundg (j - (h + 1))
    case measure => omega
    case rel => exact ⟨h + 1, j, by first | rfl | simp | go_num, rfl, by omega, by omega, by omega, n1, (unhide S1).grown _ _⟩
   ·have n1 : Hid (Srch l m b i h x.c) := ⟨s1.mi, by omega, by omega, s1.lo, fun t h1 h2 => by
     have h3 : ¬ ((atE l h).c : Int) < (x.c : Int) := fun y => hrn (hr.2 y)
     have h4 := hmono h t (by have := s1.mi; omega) (by omega) h2
     omega⟩
    clear hh hl hL hax hrr hhc hxc s1 hmono hr HRR H1
    go_wp2_with fail
    go_quiet_grown (refine Calls.grown_of (cl _ _))
    go_wp2_with fail
    go_roundg (h - i)
    case measure => omega
    case rel => exact ⟨i, h, rfl, by first | rfl | simp | go_num, by omega, by omega, by omega, n1, (unhide S1).grown _ _⟩
  ·have hltz : ¬ (i : Int) < (j : Int) := by omega
   have s1 := unhide H1
   obtain ⟨hl, hL, hax⟩ := unhide HL
   obtain ⟨x1, x2, x3, x4, x5, x6, x7⟩ := unhide HX
   have hmi := s1.mi
   have hij' : j = i := by omega
   obtain ⟨n, hn⟩ : ∃ n, i = m + n := ⟨i - m, by omega⟩
   have hfin : mrgE [x] R' = R'.take n ++ x :: R'.drop n := by
    conv => lhs; rw [← List.take_append_drop n R']
    refine mrgE_one_left x _ _ (fun y hy => ?_) (fun y hy => ?_)
    ·obtain ⟨t, ht, e⟩ := atE_of_mem hy
     rw [List.length_take] at ht
     have e2 : atE (R'.take n) t = atE R' t := by unfold atE; rw [List.getElem?_take_of_lt (by omega)]
     have h9 := s1.lo (m + t) (by omega) (by omega)
     rw [hl, x2 (m + t) (by omega) (by omega), Nat.add_sub_cancel_left, ← e2, e] at h9
     exact h9
    ·obtain ⟨t, ht, e⟩ := atE_of_mem hy
     rw [List.length_drop] at ht
     have e2 : atE (R'.drop n) t = atE R' (n + t) := by unfold atE; rw [List.getElem?_drop]
     have h9 := s1.hi (m + (n + t)) (by omega) (by omega)
     rw [hl, x2 (m + (n + t)) (by omega) (by omega), Nat.add_sub_cancel_left, ← e2, e] at h9
     exact h9
   have hnl : n ≤ R'.length := by omega
   have S2 : Hid (SwE w0 blk off (P ++ R'.take 0 ++ x :: R'.drop 0 ++ S) wr) := by
    have := unhide S1
    rw [hl] at this
    show SwE _ _ _ _ _
    simpa using this
   have HF := hide hfin
   have han : a + n + 1 ≤ i := by omega
   have han2 : i ≤ a + n + 1 := by omega
   have hil : i ≤ l0.length := by omega
   have HZ := hide (And.intro x4 (And.intro x5 hnl))
   clear hl hL hax x1 x2 x3 x4 x5 x6 x7 s1 hmi hij' hn hfin hnl S1 H1 HL HMO
   go_wp2_with fail
   go_loopg [13] n (fun kx s13 wr => ∃ k : Nat, s13 = .int .i64 (k : Nat) ∧ a ≤ k ∧ k ≤ a + n ∧ kx = a + n - k ∧ Hid (SwE w0 blk off (P ++ R'.take (k - a) ++ x :: R'.drop (k - a) ++ S) wr))
   case atStart => exact ⟨a, rfl, by omega, by omega, by omega, by simpa using S2⟩
   case round =>
    clear S2
    obtain ⟨k, rfl, hak, hkn, hkx2, S3⟩ := hrel
    by_cases hlt2 : k < a + n
    ·have hlt2z : (k : Int) < (i : Int) - 1 := by omega
     obtain ⟨z4, z5, z6⟩ := unhide HZ
     obtain ⟨u, hu⟩ : ∃ u, u = k - a := ⟨_, rfl⟩
     have hun : u < R'.length := by omega
     obtain ⟨y, hy⟩ : ∃ y, R'.drop u = y :: R'.drop (u + 1) := ⟨R'[u], (List.getElem_cons_drop (h := hun)).symm⟩
     have hy2 : R'.take (u + 1) = R'.take u ++ [y] := by
      have h9 : R'[u]? = some y := by rw [← Nat.add_zero u, ← List.getElem?_drop, hy]; rfl
      rw [List.take_add_one, h9]; rfl
     obtain ⟨q, hq⟩ : ∃ q, q = k + 1 := ⟨_, rfl⟩
     have S3' := unhide S3
     rw [← hu, hy] at S3'
     have el : P ++ R'.take u ++ x :: (y :: R'.drop (u + 1)) ++ S = (P ++ R'.take u) ++ x :: [] ++ y :: (R'.drop (u + 1) ++ S) := by simp
     rw [el] at S3'
     have lp : k = (P ++ R'.take u).length := by simp; omega
     have lq : q = (P ++ R'.take u).length + 1 + ([] : List Pe).length := by simp; omega
     have hll : ((P ++ R'.take u) ++ x :: [] ++ y :: (R'.drop (u + 1) ++ S)).length = l0.length := by rw [z4]; simp; omega
     have S4 := S3'.swap (unhide HR) lp lq
     have en : (P ++ R'.take u) ++ y :: [] ++ x :: (R'.drop (u + 1) ++ S) = P ++ R'.take (k + 1 - a) ++ x :: R'.drop (k + 1 - a) ++ S := by
      rw [show k + 1 - a = u + 1 by omega, hy2]; simp
     rw [en] at S4
     obtain ⟨cp0, cp1, fp0, fp1⟩ := S3'.cells (unhide HR) hll (i := k) (by omega)
     obtain ⟨cq0, cq1, fq0, fq1⟩ := S3'.cells (unhide HR) hll (i := q) (by omega)
     rw [at_fst lp] at cp0 cp1
     rw [at_snd lq] at cq0 cq1
     have m1 : ¬ off + k * 2 = off + q * 2 := by omega
     have m2 : ¬ off + q * 2 = off + k * 2 := by omega
     have m3 : ¬ off + k * 2 + 1 = off + q * 2 + 1 := by omega
     have m4 : ¬ off + q * 2 + 1 = off + k * 2 + 1 := by omega
     have m5 : ¬ off + k * 2 + 1 = off + q * 2 := by omega
     have m6 : ¬ off + q * 2 + 1 = off + k * 2 := by omega
     have m7 : ¬ off + k * 2 = off + q * 2 + 1 := by omega
     have m8 : ¬ off + q * 2 = off + k * 2 + 1 := by omega
     have rq : IntKind.i64.wrap ((k : Int) + 1) = (q : Int) := by rw [IntKind.wrap_i64]; omega
     have rq' : (k : Int) + 1 = (q : Int) := by omega
     have ep : ((k : Int)).toNat = k := by omega
     have eq : ((q : Int)).toNat = q := by omega
     have pp : (0 : Int) ≤ (k : Int) := by omega
     have pq : (0 : Int) ≤ (q : Int) := by omega
     have bp : (k : Int) < (l0.length : Int) := by omega
     have bq : (q : Int) < (l0.length : Int) := by omega
     have ev : ∀ z : Pe, ∃ (g k n : Nat) (c : Int), z.v = .slice (some ⟨g, 0, none⟩) n k ∧ (z.c : Int) = c := fun z => ⟨z.g, z.cap, z.s.length, _, rfl, rfl⟩
     obtain ⟨xg, xk, xn, xc, hxv, hxc⟩ := ev x
     obtain ⟨yg, yk, yn, yc, hyv, hyc⟩ := ev y
     rw [hxv, hyv, hxc, hyc] at S4
     rw [hxv] at cp1
     rw [hyv] at cq1
     rw [hxc] at cp0
     rw [hyc] at cq0
     have S5 := hide S4
     have HQ := hide hq
     clear ev S4 S3 S3' z4 z5 z6 hu hun hy hy2 hq el lp lq hll en hxv hyv hxc hyc
     go_wp2_with fail
     go_big_region_o
     go_wp2_with fail
     go_roundg (a + n - (k + 1))
     case measure => omega
     case rel => exact ⟨k + 1, by have := unhide HQ; first | (congr 1; omega) | go_num, by omega, by omega, by omega, S5⟩
    ·have hlt2z : ¬ (k : Int) < (i : Int) - 1 := by omega
     go_wp2_with fail
     refine bodyPost_ret (results_none rfl _ _ _) rfl ?_
     refine ⟨rfl, ?_⟩
     have h := unhide S3
     rw [show k - a = n by omega] at h
     rw [unhide HF]
     simpa using h
end Go.Proofs.YtbpahojchgpdnaaGreatDoor
namespace Go.Proofs.YtbpahojchgpdnaaGreatDoor
open Go.RowKit Go.Shelf Go.Lib Go.Sort Go.Bel
structure SrchR (l : List Pe) (m b i j x : Nat) : Prop where
 mi : m ≤ i
 ij : i ≤ j
 jb : j ≤ b
 lo : ∀ t, m ≤ t → t < i → (atE l t).c ≤ x
 hi : ∀ t, j ≤ t → t < b → x < (atE l t).c
set_option maxRecDepth 1000000 in
theorem symMerge_right (blk off cap a m b : Nat) (P L S l0 : List Pe) (y : Pe) (w0 w : World)
  (R : RowK Pe.enc 2 w0 blk off l0.toArray) (hs : l0.length = (P ++ L ++ [y] ++ S).length) (H : SwE w0 blk off (P ++ L ++ [y] ++ S) w)
  (ha : a = P.length) (hm : m = P.length + L.length) (hb : b = P.length + L.length + 1) (hL2 : 2 ≤ L.length) (hsL : SortedE L) (hsz : l0.length < 4611686018427387904) :
  Calls Tryz.prog 222 #[.slice (some ⟨blk, off, none⟩) l0.length cap, .int .i64 (a : Nat), .int .i64 (m : Nat), .int .i64 (b : Nat), fvE] w fun e w' => e = .returned (.tuple #[]) ∧ SwE w0 blk off (P ++ mrgE L [y] ++ S) w' := by
 have mixed : Tryz.prog.follows .mixedOrders = true := by kernel_rfl
 have H0 := hide H
 have HR := hide R
 have b1 : b ≤ l0.length := by rw [hs]; simp; omega
 have b2 : b ≤ m + 1 := by omega
 have b4 : m + 1 ≤ b := by omega
 have b3 : a + 2 ≤ m := by omega
 have ey : atE (P ++ L ++ [y] ++ S) m = y := by rw [List.append_assoc, atE_right (by simp; omega), hm]; simp [atE]
 have er : ∀ t, a ≤ t → t < m → atE (P ++ L ++ [y] ++ S) t = atE L (t - a) := fun t h1 h2 => by
  rw [List.append_assoc, atE_left (by simp; omega), atE_right (by omega), ha]
 have hst : ∀ s t, a ≤ s → s ≤ t → t < m → (atE (P ++ L ++ [y] ++ S) s).c ≤ (atE (P ++ L ++ [y] ++ S) t).c := fun s t h1 h2 h3 => by
  rw [er s h1 (by omega), er t (by omega) h3]
  exact sortedE_at hsL (by omega) (by omega)
 have HX := hide (And.intro ey (And.intro er (And.intro hst (And.intro hs (And.intro ha (And.intro hm hb))))))
 have z1 : ¬ IntKind.i64.wrap ((m : Int) - (a : Int)) = 1 := by rw [IntKind.wrap_i64]; omega
 have z2 : IntKind.i64.wrap ((b : Int) - (m : Int)) = 1 := by rw [IntKind.wrap_i64]; omega
 have z3 : ¬ ((m : Int) - (a : Int)) = 1 := by omega
 clear H R hs ha hm hb ey er hst hsL hL2
 unfold fvE
 go_enter Tryz.func222, Tryz.ntmps222
 go_wp2_with fail
 have zb : (((m : Int) - (a : Int)) == 1) = false := by simp; omega
 rw [zb]
 obtain ⟨l, hl⟩ : ∃ l, l = P ++ L ++ [y] ++ S := ⟨_, rfl⟩
 rw [← hl] at H0
 have hL : l.length = l0.length := by rw [hl]; exact (unhide HX).2.2.2.1.symm
 have hay : atE l m = y := by rw [hl]; exact (unhide HX).1
 have hmono : ∀ s t, a ≤ s → s ≤ t → t < m → (atE l s).c ≤ (atE l t).c := by rw [hl]; exact (unhide HX).2.2.1
 have HMO := hide hmono
 have HL := hide (And.intro hl (And.intro hL hay))
 clear hl hL hay hmono
 go_loopg [14, 15] (m - a) (fun kx s14 s15 wr => ∃ i j : Nat, s14 = .int .i64 (i : Nat) ∧ s15 = .int .i64 (j : Nat) ∧ i ≤ j ∧ j ≤ m ∧ kx = j - i ∧ Hid (SrchR l a m i j y.c) ∧ Hid (SwE w0 blk off l wr))
 case atStart => exact ⟨a, m, rfl, rfl, by omega, by omega, rfl, ⟨by omega, by omega, by omega, fun t h1 h2 => by omega, fun t h1 h2 => by omega⟩, H0⟩
 case round =>
  clear H0
  obtain ⟨i, j, rfl, rfl, hij, hjb, hkx, H1, S1⟩ := hrel
  by_cases hlt : i < j
  ·have hltz : (i : Int) < (j : Int) := by omega
   obtain ⟨h, hh⟩ : ∃ h, h = (i + j) / 2 := ⟨_, rfl⟩
   have hj1 : i ≤ h := by omega
   have hj2 : h < j := by omega
   obtain ⟨hl, hL, hay⟩ := unhide HL
   obtain ⟨xg, xk, xn, yg, yk, yn, T⟩ := (unhide S1).test (unhide HR) hL (i := m) (j := h) (by omega) (by omega)
   rw [hay] at T
   obtain ⟨c1, c2, c3, c4, cl⟩ := T
   have e0 : ((h : Int)).toNat = h := by omega
   have e1 : ((m : Int)).toNat = m := by omega
   have p0 : (0 : Int) ≤ (h : Int) := by omega
   have p1 : (0 : Int) ≤ (m : Int) := by omega
   have q0 : (h : Int) < (l0.length : Int) := by omega
   have q1 : (m : Int) < (l0.length : Int) := by omega
   have hd : ((i : Int) + (j : Int)) / 2 = (h : Int) := by omega
   have hr := cmp_neg (y.c : Int) ((atE l h).c : Int)
   obtain ⟨r, hrr⟩ : ∃ r, r = Lib.compareInt (y.c : Int) ((atE l h).c : Int) := ⟨_, rfl⟩
   rw [← hrr] at cl hr
   have s1 := (unhide H1)
   have hmono := unhide HMO
   obtain ⟨hc, hhc⟩ : ∃ hc : Int, hc = ((atE l h).c : Int) := ⟨_, rfl⟩
   obtain ⟨yc, hyc⟩ : ∃ yc : Int, yc = (y.c : Int) := ⟨_, rfl⟩
   rw [← hhc] at c3 cl
   rw [← hyc] at c1 cl
   by_cases hrn : r < 0
   ·have n1 : Hid (SrchR l a m i h y.c) := ⟨s1.mi, by omega, by omega, s1.lo, fun t h1 h2 => by
     have h3 := hr.1 hrn
     have h4 := hmono h t (by have := s1.mi; omega) (by omega) h2
     omega⟩
    clear hh hl hL hay hrr hhc hyc s1 hmono hr H1
    go_wp2_with fail
    go_quiet_grown (refine Calls.grown_of (cl _ _))
    go_wp2_with fail
    go_roundg (h - i)
    case measure => omega
    case rel => exact ⟨i, h, rfl, by first | rfl | simp | go_num, by omega, by omega, by omega, n1, (unhide S1).grown _ _⟩
   ·have n1 : Hid (SrchR l a m (h + 1) j y.c) := ⟨by have := s1.mi; omega, by omega, by omega, fun t h1 h2 => by
     have h3 : ¬ (y.c : Int) < ((atE l h).c : Int) := fun y => hrn (hr.2 y)
     have h4 := hmono t h h1 (by omega) (by omega)
     omega, s1.hi⟩
    clear hh hl hL hay hrr hhc hyc s1 hmono hr H1
    go_wp2_with fail
    have hrd : decide (r < 0) = false := decide_eq_false (by omega)
    go_quiet_grown (refine Calls.grown_of (cl _ _))
    go_wp2_with fail
    go_roundg (j - (h + 1))
    case measure => omega
    case rel => exact ⟨h + 1, j, by first | rfl | simp | go_num, rfl, by omega, by omega, by omega, n1, (unhide S1).grown _ _⟩
  ·have hltz : ¬ (i : Int) < (j : Int) := by omega
   have s1 := unhide H1
   obtain ⟨hl, hL, hay⟩ := unhide HL
   obtain ⟨x1, x2, x3, x4, x5, x6, x7⟩ := unhide HX
   have hmi := s1.mi
   have hij' : j = i := by omega
   obtain ⟨n, hn⟩ : ∃ n, i = a + n := ⟨i - a, by omega⟩
   have hfin : mrgE L [y] = L.take n ++ y :: L.drop n := by
    conv => lhs; rw [← List.take_append_drop n L]
    refine mrgE_one_right y _ _ (fun z hz => ?_) (fun z hz => ?_)
    ·obtain ⟨t, ht, e⟩ := atE_of_mem hz
     rw [List.length_take] at ht
     have e2 : atE (L.take n) t = atE L t := by unfold atE; rw [List.getElem?_take_of_lt (by omega)]
     have h9 := s1.lo (a + t) (by omega) (by omega)
     rw [hl, x2 (a + t) (by omega) (by omega), Nat.add_sub_cancel_left, ← e2, e] at h9
     exact h9
    ·obtain ⟨t, ht, e⟩ := atE_of_mem hz
     rw [List.length_drop] at ht
     have e2 : atE (L.drop n) t = atE L (n + t) := by unfold atE; rw [List.getElem?_drop]
     have h9 := s1.hi (a + (n + t)) (by omega) (by omega)
     rw [hl, x2 (a + (n + t)) (by omega) (by omega), Nat.add_sub_cancel_left, ← e2, e] at h9
     exact h9
   have hnl : n ≤ L.length := by omega
   have S2 : Hid (SwE w0 blk off (P ++ L.take (m - a) ++ y :: L.drop (m - a) ++ S) wr) := by
    have := unhide S1
    rw [hl] at this
    show SwE _ _ _ _ _
    rw [show m - a = L.length by omega, List.take_length, List.drop_length]
    simpa using this
   have HF := hide hfin
   have HZ := hide (And.intro x4 (And.intro x5 (And.intro x6 hn)))
   have hia : a ≤ i := by omega
   have him : i ≤ m := by omega
   clear hl hL hay x1 x2 x3 x4 x5 x6 x7 s1 hmi hij' hn hfin hnl S1 H1 HL HMO
   go_wp2_with fail
   go_loopg [17] (m - i) (fun kx s17 wr => ∃ k : Nat, s17 = .int .i64 (k : Nat) ∧ i ≤ k ∧ k ≤ m ∧ kx = k - i ∧ Hid (SwE w0 blk off (P ++ L.take (k - a) ++ y :: L.drop (k - a) ++ S) wr))
   case atStart => exact ⟨m, rfl, by omega, by omega, rfl, S2⟩
   case round =>
    clear S2
    obtain ⟨q, rfl, hak, hkn, hkx2, S3⟩ := hrel
    by_cases hlt2 : i < q
    ·have hlt2z : (i : Int) < (q : Int) := by omega
     have hlt2y : (q : Int) > (i : Int) := by omega
     obtain ⟨z4, z5, z6, z7⟩ := unhide HZ
     obtain ⟨k, hk⟩ : ∃ k, q = k + 1 := ⟨q - 1, by omega⟩
     obtain ⟨u, hu⟩ : ∃ u, u = k - a := ⟨_, rfl⟩
     have hun : u < L.length := by omega
     obtain ⟨x, hx⟩ : ∃ x, L.drop u = x :: L.drop (u + 1) := ⟨L[u], (List.getElem_cons_drop (h := hun)).symm⟩
     have hx2 : L.take (u + 1) = L.take u ++ [x] := by
      have h9 : L[u]? = some x := by rw [← Nat.add_zero u, ← List.getElem?_drop, hx]; rfl
      rw [List.take_add_one, h9]; rfl
     have S3' := unhide S3
     rw [show q - a = u + 1 by omega, hx2] at S3'
     have el : P ++ (L.take u ++ [x]) ++ y :: L.drop (u + 1) ++ S = (P ++ L.take u) ++ x :: [] ++ y :: (L.drop (u + 1) ++ S) := by simp
     rw [el] at S3'
     have lp : k = (P ++ L.take u).length := by simp; omega
     have lq : q = (P ++ L.take u).length + 1 + ([] : List Pe).length := by simp; omega
     have hll : ((P ++ L.take u) ++ x :: [] ++ y :: (L.drop (u + 1) ++ S)).length = l0.length := by rw [z4]; simp; omega
     have S4 := S3'.swap' (unhide HR) lp lq
     have en : (P ++ L.take u) ++ y :: [] ++ x :: (L.drop (u + 1) ++ S) = P ++ L.take (k - a) ++ y :: L.drop (k - a) ++ S := by
      rw [← hu, hx]; simp
     rw [en] at S4
     obtain ⟨cp0, cp1, fp0, fp1⟩ := S3'.cells (unhide HR) hll (i := k) (by omega)
     obtain ⟨cq0, cq1, fq0, fq1⟩ := S3'.cells (unhide HR) hll (i := q) (by omega)
     rw [at_fst lp] at cp0 cp1
     rw [at_snd lq] at cq0 cq1
     have m1 : ¬ off + k * 2 = off + q * 2 := by omega
     have m2 : ¬ off + q * 2 = off + k * 2 := by omega
     have m3 : ¬ off + k * 2 + 1 = off + q * 2 + 1 := by omega
     have m4 : ¬ off + q * 2 + 1 = off + k * 2 + 1 := by omega
     have m5 : ¬ off + k * 2 + 1 = off + q * 2 := by omega
     have m6 : ¬ off + q * 2 + 1 = off + k * 2 := by omega
     have m7 : ¬ off + k * 2 = off + q * 2 + 1 := by omega
     have m8 : ¬ off + q * 2 = off + k * 2 + 1 := by omega
     have rq : IntKind.i64.wrap ((q : Int) - 1) = (k : Int) := by rw [IntKind.wrap_i64]; omega
     have rq' : (q : Int) - 1 = (k : Int) := by omega
     have ep : ((k : Int)).toNat = k := by omega
     have eq : ((q : Int)).toNat = q := by omega
     have pp : (0 : Int) ≤ (k : Int) := by omega
     have pq : (0 : Int) ≤ (q : Int) := by omega
     have bp : (k : Int) < (l0.length : Int) := by omega
     have bq : (q : Int) < (l0.length : Int) := by omega
     have ev : ∀ z : Pe, ∃ (g k n : Nat) (c : Int), z.v = .slice (some ⟨g, 0, none⟩) n k ∧ (z.c : Int) = c := fun z => ⟨z.g, z.cap, z.s.length, _, rfl, rfl⟩
     obtain ⟨xg, xk, xn, xc, hxv, hxc⟩ := ev x
     obtain ⟨yg, yk, yn, yc, hyv, hyc⟩ := ev y
     rw [hxv, hyv, hxc, hyc] at S4
     rw [hxv] at cp1
     rw [hyv] at cq1
     rw [hxc] at cp0
     rw [hyc] at cq0
     have S5 := hide S4
     have HK := hide hk
     clear ev S4 S3 S3' z4 z5 z6 z7 hu hun hx hx2 hk el lp lq hll en hxv hyv hxc hyc
     go_wp2_with fail
     go_big_region_o
     go_wp2_with fail
     go_roundg (k - i)
     case measure => have := unhide HK; omega
     case rel => exact ⟨k, by first | rfl | go_num, by have := unhide HK; omega, by have := unhide HK; omega, rfl, S5⟩
    ·have hlt2z : ¬ (i : Int) < (q : Int) := by omega
     have hlt2y : ¬ (q : Int) > (i : Int) := by omega
     go_wp2_with fail
     refine bodyPost_ret (results_none rfl _ _ _) rfl ?_
     refine ⟨rfl, ?_⟩
     have h := unhide S3
     have z7 := (unhide HZ).2.2.2
     rw [show q - a = n by omega] at h
     rw [unhide HF]
     simpa using h
end Go.Proofs.YtbpahojchgpdnaaGreatDoor
namespace Go.Bel
structure SymAt (l : List Pe) (n lo hi s r : Nat) : Prop where
 los : lo ≤ s
 sr : s ≤ r
 rhi : r ≤ hi
 low : s = lo ∨ (atE l (s - 1)).c ≤ (atE l (n - s)).c
 high : r = hi ∨ (atE l (n - 1 - r)).c < (atE l r).c
theorem SymAt.start {l : List Pe} {n lo hi : Nat} (h : lo ≤ hi) : SymAt l n lo hi lo hi := ⟨by omega, h, by omega, .inl rfl, .inl rfl⟩
theorem SymAt.up {l : List Pe} {n lo hi s r c : Nat} (h : SymAt l n lo hi s r) (h1 : s ≤ c) (h2 : c < r) (hc : ¬ (atE l (n - 1 - c)).c < (atE l c).c) : SymAt l n lo hi (c + 1) r :=
 ⟨by have := h.los; omega, by omega, h.rhi, .inr (by rw [Nat.add_sub_cancel, show n - (c + 1) = n - 1 - c by omega]; omega), h.high⟩
theorem SymAt.down {l : List Pe} {n lo hi s r c : Nat} (h : SymAt l n lo hi s r) (h1 : s ≤ c) (h2 : c < r) (hc : (atE l (n - 1 - c)).c < (atE l c).c) : SymAt l n lo hi s c :=
 ⟨h.los, h1, by have := h.rhi; omega, h.low, .inr hc⟩
def symLo (a m b : Nat) : Nat := if (a + b) / 2 < m then (a + b) / 2 + m - b else a
def symHi (a m b : Nat) : Nat := if (a + b) / 2 < m then (a + b) / 2 else m
theorem sym_bounds {a m b : Nat} (h1 : a < m) (h2 : m < b) : a ≤ symLo a m b ∧ symLo a m b ≤ symHi a m b ∧ symHi a m b ≤ m ∧ symHi a m b ≤ (a + b) / 2 ∧ (a + b) / 2 + m ≤ symLo a m b + b := by
 unfold symLo symHi
 by_cases h : (a + b) / 2 < m
 ·rw [if_pos h, if_pos h]; omega
 ·rw [if_neg h, if_neg h]; omega
theorem sym_split {P L R S : List Pe} {a m b s : Nat} (hL : SortedE L) (hR : SortedE R) (ha : a = P.length) (hm : m = P.length + L.length) (hb : b = P.length + L.length + R.length) (h1 : a < m) (h2 : m < b)
  (h : SymAt (P ++ L ++ R ++ S) ((a + b) / 2 + m) (symLo a m b) (symHi a m b) s s) :
  ∃ L1 L2 R1 R2, L = L1 ++ L2 ∧ R = R1 ++ R2 ∧ a + L1.length = s ∧ m + R1.length = (a + b) / 2 + m - s ∧ mrgE L R = mrgE L1 R1 ++ mrgE L2 R2 := by
 obtain ⟨g1, g2, g3, g4, g5⟩ := sym_bounds h1 h2
 have k1 := h.los
 have k2 := h.rhi
 have el : ∀ t, a ≤ t → t < m → atE (P ++ L ++ R ++ S) t = atE L (t - a) := fun t x y => by
  rw [List.append_assoc, atE_left (by simp; omega), atE_right (by omega), ha]
 have er : ∀ t, m ≤ t → t < b → atE (P ++ L ++ R ++ S) t = atE R (t - m) := fun t x y => by
  rw [atE_left (by simp; omega), atE_right (by simp; omega)]; congr 1; simp; omega
 obtain ⟨u, hu⟩ : ∃ u, u = s - a := ⟨_, rfl⟩
 obtain ⟨v, hv⟩ : ∃ v, v = (a + b) / 2 - s := ⟨_, rfl⟩
 have hul : u ≤ L.length := by omega
 have hvr : v ≤ R.length := by omega
 refine ⟨L.take u, L.drop u, R.take v, R.drop v, (List.take_append_drop u L).symm, (List.take_append_drop v R).symm, by rw [List.length_take]; omega, by rw [List.length_take]; omega, ?_⟩
 conv => lhs; rw [← List.take_append_drop u L, ← List.take_append_drop v R]
 have tk : ∀ (Z : List Pe) (k t : Nat), t < k → atE (Z.take k) t = atE Z t := fun Z k t ht => by unfold atE; rw [List.getElem?_take_of_lt ht]
 have dk : ∀ (Z : List Pe) (k t : Nat), atE (Z.drop k) t = atE Z (k + t) := fun Z k t => by unfold atE; rw [List.getElem?_drop]
 refine mrgE_split _ _ _ _ (fun x hx y hy => ?_) (fun x hx y hy => ?_)
 ·obtain ⟨i, hi, rfl⟩ := atE_of_mem hx
  obtain ⟨j, hj, rfl⟩ := atE_of_mem hy
  rw [List.length_take] at hi
  rw [List.length_drop] at hj
  rw [tk _ _ _ (by omega), dk]
  rcases h.low with e | e
  ·exfalso
   rw [e] at hu hv
   revert hu hv hi hj
   unfold symLo
   by_cases hc : (a + b) / 2 < m
   ·rw [if_pos hc]; intros; omega
   ·rw [if_neg hc]; intros; omega
  ·have hs : symLo a m b < s ∨ s = symLo a m b := by omega
   rw [el (s - 1) (by omega) (by omega), er ((a + b) / 2 + m - s) (by omega) (by omega)] at e
   have e1 := sortedE_at hL (i := i) (j := s - 1 - a) (by omega) (by omega)
   have e2 := sortedE_at hR (i := (a + b) / 2 + m - s - m) (j := v + j) (by omega) (by omega)
   omega
 ·obtain ⟨i, hi, rfl⟩ := atE_of_mem hx
  obtain ⟨j, hj, rfl⟩ := atE_of_mem hy
  rw [List.length_take] at hi
  rw [List.length_drop] at hj
  rw [tk _ _ _ (by omega), dk]
  rcases h.high with e | e
  ·exfalso
   rw [e] at hu hv
   revert hu hv hi hj
   unfold symHi
   by_cases hc : (a + b) / 2 < m
   ·rw [if_pos hc]; intros; omega
   ·rw [if_neg hc]; intros; omega
  ·rw [el s (by omega) (by omega), er ((a + b) / 2 + m - 1 - s) (by omega) (by omega)] at e
   have e1 := sortedE_at hL (i := s - a) (j := u + j) (by omega) (by omega)
   have e2 := sortedE_at hR (i := i) (j := (a + b) / 2 + m - 1 - s - m) (by omega) (by omega)
   omega
end Go.Bel
