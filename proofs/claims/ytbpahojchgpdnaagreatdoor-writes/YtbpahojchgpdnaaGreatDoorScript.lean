/- Proved here: of what is bare the program and the reference answer the same. -/
import Derived.Test.YtbpahojchgpdnaaGreatDoorXTold2
import Derived.Test.YtbpahojchgpdnaaGreatDoorLaw
set_option maxRecDepth 20000
set_option maxHeartbeats 4000000
namespace Go.Proofs.YtbpahojchgpdnaaGreatDoor
open Go.RowKit Go.Bel
def Agrees (wrap : Int) (b : ByteArray) (most : Int) : Prop :=
 ∃ (e used : Nat) (out : List Nat) (nm : ByteArray), out.length ≤ 1048576 ∧
  (∀ (g cap : Nat) (w : World), Go.Bel.Src w g 0 (bytesOf b) → g < w.heap.size → OrderAt w → 4 ≤ w.heap.size →
   Calls Tryz.prog 25 #[.int .i64 wrap, .slice (some ⟨g, 0, none⟩) b.size cap, .int .i64 most] w
    fun r w' => ∃ v', r = .returned (.agg #[.int .i64 (e : Nat), v', .int .i64 (used : Nat), .string nm]) ∧ w'.ownsRow w.heap.size 5 1 v' out.length (u8s out) ∧ Step (fun _ => False) w w') ∧
  (∀ w : World, Calls Tryz.prog 67 #[.int .i64 wrap, .string b, .int .i64 most] w
    fun r w' => ∃ v', r = .returned (.agg #[.int .i64 (e : Nat), v', .int .i64 (used : Nat), .string nm]) ∧ w'.ownsRow w.heap.size 5 1 v' out.length (u8s out) ∧ Step (fun _ => False) w w')
theorem lent_src {w : World} {B : Nat} {b : ByteArray} (h : RowAt w B 5 (b.size + 8) (lentCell b)) (hb : b.size ≤ 140737488351232) : Go.Bel.Src w B 0 (bytesOf b) := by
 refine ⟨fun i hi => ?_, fun i => ?_, by rw [bytesOf_length]; exact hb⟩
 ·rw [bytesOf_length] at hi
  rw [Nat.zero_add, h.cell i (by omega)]
  unfold lentCell
  rw [if_pos hi]
 ·by_cases hi : i < (bytesOf b).length
  ·rw [List.getElem?_eq_getElem hi]
   exact bytesOf_lt b _ (List.getElem_mem hi)
  ·rw [List.getElem?_eq_none (by omega)]
   decide
theorem lent_own {w : World} {B n base : Nat} {f : Nat → Value} (h : RowAt w B 5 n f) (hb : base ≤ B) (hn : n ≤ maxLen) : ∃ ys, w.ownsRow base 5 1 (.slice (some ⟨B, 0, none⟩) n n) n ys := by
 obtain ⟨A, h1, h2, _⟩ := h
 refine ⟨A.toList, by simp [h2], .inr ⟨B, n, A, rfl, hb, h1, Nat.le_refl _, hn, by omega, ?_⟩⟩
 rw [List.take_of_length_le (by simp [h2])]
end Go.Proofs.YtbpahojchgpdnaaGreatDoor
namespace Go.Proofs.YtbpahojchgpdnaaGreatDoor
open Go.RowKit Go.Bel
theorem own_slc {W : World} {base e n : Nat} {u : Value} {xs : List Value} (h : W.ownsRow base e 1 u n xs) : ∃ a c, u = .slice a n c := by
 obtain ⟨_, ⟨hv, hz⟩ | ⟨g, cap, _, hv, _⟩⟩ := h
 ·exact ⟨none, 0, by rw [hv, hz]⟩
 ·exact ⟨_, _, hv⟩
structure UR (w wc : World) (e used : Nat) (out : List Nat) (nm : ByteArray) (R : Nat) (v : Value) : Prop where
 blk : wc.heap[R]? = some (.cells #[.int .i64 (e : Nat), v, .int .i64 (used : Nat), .string nm] 45 (0, 0))
 own : wc.ownsRow w.heap.size 5 1 v out.length (u8s out)
 new : w.heap.size ≤ R
 step : Step (fun _ => False) w wc
def zeroR : Array Value := #[.int .i64 0, .slice none 0 0, .int .i64 0, .string ⟨#[]⟩]
theorem four_set {w : World} {R : Nat} {a b c d : Value} {t : TypeId} (h : w.heap[R]? = some (.cells #[a, b, c, d] t (0, 0))) (u0 u1 u2 u3 : Value) :
  ((((w.setCell ⟨R, 0, none⟩ u0).setCell ⟨R, 1, none⟩ u1).setCell ⟨R, 2, none⟩ u2).setCell ⟨R, 3, none⟩ u3).heap[R]? = some (.cells #[u0, u1, u2, u3] t (0, 0)) := by
 have h1 := blk_set h 0 u0
 have h2 := blk_set h1 1 u1
 have h3 := blk_set h2 2 u2
 have h4 := blk_set h3 3 u3
 simpa using h4
theorem UR.mk' {w w3 : World} {e used : Nat} {out : List Nat} {nm : ByteArray} {R : Nat} {v : Value} (hs : Step (fun _ => False) w w3) (hb : w3.heap[R]? = some (.cells zeroR 45 (0, 0))) (own : w3.ownsRow w.heap.size 5 1 v out.length (u8s out)) (hR : w.heap.size ≤ R) :
  UR w ((((w3.setCell ⟨R, 0, none⟩ (.int .i64 (e : Nat))).setCell ⟨R, 1, none⟩ v).setCell ⟨R, 2, none⟩ (.int .i64 (used : Nat))).setCell ⟨R, 3, none⟩ (.string nm)) e used out nm R v := by
 have hne : ∀ i : Nat, v.ownBlock ≠ some (⟨R, i, none⟩ : Addr).block := fun i => own_blk_ne hb own (by decide)
 refine ⟨four_set hb _ _ _ _, ?_, hR, (((hs.setNew hR _).setNew hR _).setNew hR _).setNew hR _⟩
 exact ownsRow_setCell_other (ownsRow_setCell_other (ownsRow_setCell_other (ownsRow_setCell_other own (hne 0) _) (hne 1) _) (hne 2) _) (hne 3) _
theorem blk_eq {B n c k : Nat} (h : (Value.slice (some ⟨B, 0, none⟩) n c).ownBlock = some k) : B = k := by simpa [Value.ownBlock] using h
def KG (w : World) (F : Nat → Prop) (w' : World) (k : Nat) : Prop := ((F k ∧ k < w.heap.size) ∨ w.heap.size ≤ k) ∧ k < w'.heap.size
theorem KAt.ltF {w : World} {base wb : Nat} {ps v : Value} {hs : List Hd} {F : Nat → Prop} (K : KAt w base wb ps v hs F) : KAt w base wb ps v hs (fun k => F k ∧ k < w.heap.size) :=
 ⟨K.blk, K.own, fun q hq => ⟨(K.each q hq).1, fun k hk => ⟨(K.each q hq).2 k hk, (K.each q hq).1.lt hk⟩⟩⟩
theorem KAt.kg {w w' : World} {base wb : Nat} {ps v : Value} {hs : List Hd} {F F' : Nat → Prop} (K : KAt w' base wb ps v hs F') (h : ∀ k, F' k → (F k ∧ k < w.heap.size) ∨ w.heap.size ≤ k) : KAt w' base wb ps v hs (KG w F w') :=
 ⟨K.blk, K.own, fun q hq => ⟨(K.each q hq).1, fun k hk => ⟨h k ((K.each q hq).2 k hk), (K.each q hq).1.lt hk⟩⟩⟩
def opV (kind nn wrap way : Int) (b : ByteArray) (most : Int) : Value := .agg #[.int .i64 kind, .int .i64 nn, .int .i64 wrap, .int .i64 way, .string b, .int .i64 most]
theorem unpacked_ok (wb : Nat) (kind nn wrap way most : Int) (b : ByteArray) (ps v : Value) (hs : List Hd) (F : Nat → Prop) (w : World) (K : KAt w 4 wb ps v hs F) (hO : OrderAt w) (h4 : 4 ≤ w.heap.size) (hw4 : 4 ≤ wb) (hb : b.size ≤ 140737488351232) (hA : Agrees wrap b most) (hl : hs.length ≤ 24000000000000) :
  Calls Tryz.prog 43 #[.pointer (some ⟨wb, 0, none⟩), opV kind nn wrap way b most] w fun r w' => r = .returned (.bool true) ∧ ∃ v' hs', KAt w' 4 wb ps v' hs' (KG w F w') ∧ hs'.length = hs.length + 8 ∧ OrderAt w' ∧ (∀ k, v'.ownBlock = some k → v.ownBlock = some k ∨ w.heap.size ≤ k) ∧ Step (fun k => k = wb ∨ v.ownBlock = some k) w w' := by
 obtain ⟨e, used, out, nm, hol, hG, hX⟩ := hA
 have HK := hide K.ltF
 have HO := hide hO
 have HG := hide hG
 have HX := hide hX
 clear K hO hG hX
 unfold opV
 go_enter Tryz.func43, Tryz.ntmps43
 go_wp2_with fail
 obtain ⟨R0, hR0⟩ : ∃ R0, R0 = w.heap.size := ⟨_, rfl⟩
 obtain ⟨w1, hw1⟩ : ∃ w1, w1 = w.alloc (.cells #[.int .i64 kind, .int .i64 nn, .int .i64 wrap, .int .i64 way, .string b, .int .i64 most] 25) := ⟨_, rfl⟩
 have hs1 : Step (fun _ => False) w w1 := by rw [hw1]; exact (Step.refl _ _).alloc _
 have hop : w1.heap[R0]? = some (.cells #[.int .i64 kind, .int .i64 nn, .int .i64 wrap, .int .i64 way, .string b, .int .i64 most] 25 (0, 0)) := by rw [hw1, hR0]; exact heap_alloc_new _ _
 have hz1 : w1.heap.size = R0 + 1 := by rw [hw1, hR0]; simp
 rw [← hw1, ← hR0]
 have hRe : R0 = w.heap.size := hR0
 have HRE := hide hRe
 clear hw1 hR0 hRe
 refine (lent_ok b w1 hb).mono ?_
 rintro r w2 ⟨rfl, row2, hs2⟩
 obtain ⟨B, hB⟩ : ∃ B, B = w1.heap.size := ⟨_, rfl⟩
 rw [← hB] at row2 ⊢
 have hop2 := hs2.at_ hop (fun x => x)
 have c2 := blk_cell hop2 2 _ rfl
 have c4 := blk_cell hop2 4 _ rfl
 have c5 := blk_cell hop2 5 _ rfl
 have hB2 : B < w2.heap.size := row2.lt
 have HCU := hide (fun W (hW : Step (fun _ => False) w2 W) => unhide HG B (b.size + 8) W (lent_src (row2.step hW (fun x => x)) hb) (Nat.lt_of_lt_of_le hB2 hW.size) ((unhide HO).step ((hs1.trans hs2).trans hW) (fun _ _ x => x)) (Nat.le_trans h4 ((hs1.trans hs2).trans hW).size))
 have HHB := hide (show B = R0 + 1 by omega)
 have HS2 := hide (hs1.trans hs2)
 have HROW := hide row2
 have HOP := hide hop2
 clear HG hs1 hs2 hop hop2 hz1 hB row2
 have hbn : (0 : Int) ≤ (b.size : Int) := by omega
 have hbl : (b.size : Int) ≤ (b.size : Int) + 8 := by omega
 have hR0 : R0 < w2.heap.size := by have := unhide HHB; omega
 have n2 : ¬ R0 = w2.heap.size := by omega
 have n2' : ¬ w2.heap.size = R0 := by omega
 go_upto_region 2 with fail
 go_cut [6, 22] (fun p r wc => ∃ R1 v1, p = .pointer (some ⟨R1, 0, none⟩) ∧ r = .agg #[.int .i64 (e : Nat), v1, .int .i64 (used : Nat), .string nm] ∧ UR w2 wc e used out nm R1 v1)
 case first =>
  go_region_held3 (fun w' => w'.cell? ⟨R0, 2, none⟩ = some (.int .i64 wrap) ∧ w'.cell? ⟨R0, 4, none⟩ = some (.string b) ∧ w'.cell? ⟨R0, 5, none⟩ = some (.int .i64 most)) (go_keep)
   (first
    | (go_at_call 25; refine (unhide HCU w2.drew ((Step.refl _ _).drew)).mono ?_; rintro e w3 ⟨v1, rfl, own1, hs3⟩; obtain ⟨va, vc, rfl⟩ := own_slc own1; have k2 := hs3.cell (p := ⟨R0, 2, none⟩) (w := w2.drew) c2 (fun x => x); have k4 := hs3.cell (p := ⟨R0, 4, none⟩) (w := w2.drew) c4 (fun x => x); have k5 := hs3.cell (p := ⟨R0, 5, none⟩) (w := w2.drew) c5 (fun x => x); have hz := hs3.size; have n3 : ¬ R0 = w3.heap.size := (by simp at hz; omega); have n3' : ¬ w3.heap.size = R0 := (by simp at hz; omega))
    | (go_at_call 25; refine (unhide HCU (w2.alloc (.cells zeroR 45)).drew (((Step.refl _ _).alloc _).drew)).mono ?_; rintro e w3 ⟨v1, rfl, own1, hs3⟩; obtain ⟨va, vc, rfl⟩ := own_slc own1; have hal := ((Step.refl (fun _ => False) w2).alloc (.cells zeroR 45)).drew; have k2 := hs3.cell (hal.cell c2 (fun x => x)) (fun x => x); have k4 := hs3.cell (hal.cell c4 (fun x => x)) (fun x => x); have k5 := hs3.cell (hal.cell c5 (fun x => x)) (fun x => x); have kz := hs3.at_ (k := w2.heap.size) (heap_alloc_new w2 (.cells zeroR 45)) (fun x => x); have z0 := blk_cell kz 0 _ rfl; have z1 := blk_cell kz 1 _ rfl; have z2 := blk_cell kz 2 _ rfl; have z3 := blk_cell kz 3 _ rfl; have y0 := blk_free kz 0; have y1 := blk_free kz 1; have y2 := blk_free kz 2; have y3 := blk_free kz 3))
  ·go_wp2_with fail
   go_meet
   case rel => exact ⟨_, _, rfl, rfl, heap_alloc_new _ _, ownsRow_mono (own1.alloc _) (Nat.le_refl _), hs3.size, ((Step.refl _ _).drew.trans hs3).alloc _⟩
  ·go_wp2_with fail
   go_meet
   case rel => exact ⟨_, _, rfl, rfl, UR.mk' (hal.trans hs3) kz (ownsRow_mono own1 hal.size) (Nat.le_refl _)⟩
 case rest =>
  obtain ⟨R1, v1, rfl, rfl, U1⟩ := hcut
  obtain ⟨w4, h⟩ : ∃ W, W = wc := ⟨_, rfl⟩
  subst h
  have d2 := U1.step.cell c2 (fun x => x)
  have d4 := U1.step.cell c4 (fun x => x)
  have d5 := U1.step.cell c5 (fun x => x)
  obtain ⟨va, vc, rfl⟩ := own_slc U1.own
  have hR4 : R0 < w4.heap.size := Nat.lt_of_lt_of_le hR0 U1.step.size
  have m2 : ¬ R0 = w4.heap.size := by omega
  have m2' : ¬ w4.heap.size = R0 := by omega
  have HU1 := hide U1
  clear U1 c2 c4 c5 n2 n2' HCU
  go_wp2_with fail
  refine (unhide HX w4).mono ?_
  rintro r w5 ⟨v2, rfl, own5, hs5⟩
  obtain ⟨vx, vy, rfl⟩ := own_slc own5
  have U2 : UR w4 (w5.alloc (.cells #[.int .i64 (e : Nat), .slice vx out.length vy, .int .i64 (used : Nat), .string nm] 45)) e used out nm w5.heap.size (.slice vx out.length vy) := ⟨heap_alloc_new _ _, own5.alloc _, hs5.size, hs5.alloc _⟩
  clear own5 hs5
  go_upto_region 4 with fail
  obtain ⟨w6, hw6⟩ : ∃ W, W = w5.alloc (.cells #[.int .i64 (e : Nat), .slice vx out.length vy, .int .i64 (used : Nat), .string nm] 45) := ⟨_, rfl⟩
  rw [← hw6] at U2 ⊢
  obtain ⟨R2, hR2⟩ : ∃ R, R = w5.heap.size := ⟨_, rfl⟩
  rw [← hR2] at U2 ⊢
  clear hw6 hR2
  have e4 := U2.step.cell d4 (fun x => x)
  have hs26 := (unhide HU1).step.trans U2.step
  have hst := still_ok B b w6 ((unhide HROW).step hs26 (fun x => x)) hb
  have HST := hide hst
  have HU2 := hide U2
  have HS26 := hide hs26
  clear hst U2 d2 d4 d5 hs26
  go_wp2_with fail
  refine (unhide HST).mono ?_
  rintro r w7 ⟨rfl, hs7⟩
  have U1 := unhide HU1
  have U2 := unhide HU2
  have hs47 := U2.step.trans hs7
  have q1 := hs47.at_ U1.blk (fun x => x)
  have q2 := hs7.at_ U2.blk (fun x => x)
  have a0 := blk_cell q1 0 _ rfl
  have a1 := blk_cell q1 1 _ rfl
  have a2 := blk_cell q1 2 _ rfl
  have a3 := blk_cell q1 3 _ rfl
  have b0 := blk_cell q2 0 _ rfl
  have b1 := blk_cell q2 1 _ rfl
  have b2 := blk_cell q2 2 _ rfl
  have b3 := blk_cell q2 3 _ rfl
  have o1 := own_step U1.own hs47 (fun _ _ x => x)
  have o2 := own_step U2.own hs7 (fun _ _ x => x)
  have HSM := hide (same_ok e used _ _ _ _ out nm w7 o1 o2)
  have HQ1 := hide q1
  have HO1 := hide o1
  have HS7 := hide ((unhide HS26).trans hs7)
  clear HST HU1 HU2 U1 U2 hs47 q1 q2 o1 o2 hs7 HS26
  go_wp2_with fail
  refine (unhide HSM).mono ?_
  rintro r w8 ⟨rfl, hs8⟩
  have hs28 := (unhide HS7).trans hs8
  have hs08 := (unhide HS2).trans hs28
  have K8 := (unhide HK).step0 hs08
  have o8 := own_step (unhide HO1) hs8 (fun _ _ x => x)
  have q8 := hs8.at_ (unhide HQ1) (fun x => x)
  have hBw : w.heap.size + 1 = B := by rw [unhide HHB, unhide HRE]
  have hBm : b.size + 8 ≤ maxLen := by unfold maxLen; omega
  obtain ⟨ys, ob⟩ := lent_own (base := 4) ((unhide HROW).step hs28 (fun x => x)) (by omega) hBm
  have HKP := hide (keep_ok 4 wb (b.size + 8) ps v _ hs _ ys w8 K8 (fun k hk x => by have := blk_eq hk; omega) ob (Nat.le_trans h4 hs08.size) (by omega) (by omega))
  have HQ8 := hide q8
  have HO8 := hide o8
  have HOB := hide ob
  have HK8 := hide K8
  have HS08 := hide hs08
  have HS28 := hide hs28
  clear HSM HQ1 HO1 hs8 q8 o8 ob K8 hs08 hs28 HS7 HROW a0 a1 a2 a3 b0 b1 b2 b3 e4 HOP
  go_wp2_with fail
  refine (unhide HKP).mono ?_
  rintro r w9 ⟨rfl, v9, hs9, K9, hl9, mv9, st9⟩
  have K8 := unhide HK8
  have hs08 := unhide HS08
  have hs28 := unhide HS28
  have g1 : ∀ k, (Value.slice va out.length vc).ownBlock = some k → w2.heap.size ≤ k ∧ k < w8.heap.size := fun k hk => (unhide HO8).lt k hk
  have q9 := st9.at_ (unhide HQ8) (by
   rintro (x | x | x)
   ·exact own_blk_ne (unhide HQ8) (unhide HOB) (by decide) x
   ·have := unhide HQ8
    rw [x, K8.blk] at this
    cases this
   ·exact own_blk_ne (unhide HQ8) K8.own (by decide) x)
  have o9 := own_step (unhide HO8) st9 (fun k hk => by
   obtain ⟨cur, hc⟩ := own_row (unhide HO8) hk
   rintro (x | x | x)
   ·have := blk_eq x
    have := (g1 k hk).1
    omega
   ·rw [x, K8.blk] at hc
    cases hc
   ·exact own_blk_ne hc K8.own (by decide) x)
  have f1 := blk_cell q9 1 _ rfl
  have HKP9 := hide (keep_ok 4 wb out.length ps v9 _ hs9 _ _ w9 K9 (fun k hk x => by
   have := g1 k hk
   rcases x with x | x | x
   ·have := (unhide HS2).size; omega
   ·have := blk_eq x; omega
   ·omega) (ownsRow_mono o9 (Nat.le_trans h4 (unhide HS2).size)) (Nat.le_trans h4 (Nat.le_trans hs08.size st9.size)) (by omega) (by omega))
  have HT9 := hide (show (∀ k, v9.ownBlock = some k → v.ownBlock = some k ∨ w.heap.size ≤ k) ∧ hs9.length = hs.length + 4 ∧ Step (fun k => k = wb ∨ v.ownBlock = some k) w w9 from ⟨fun k hk => (mv9 k hk).imp id (fun x => Nat.le_trans hs08.size x), hl9, (hs08.mono (fun _ x => x.elim)).trans' st9 (fun k hk x => by
   rcases x with x | x | x
   ·have := blk_eq x; omega
   ·exact .inl x
   ·exact .inr x)⟩)
  have HG1 := hide g1
  have HOV := hide (show ∀ k, v.ownBlock = some k → 4 ≤ k from fun k hk => (K8.own.lt k hk).1)
  clear HKP K9 mv9 st9 q9 o9 K8 hs08 hs28 g1 hl9
  go_wp2_with fail
  refine (unhide HKP9).mono ?_
  rintro r w10 ⟨rfl, v10, hs10, K10, hl10, mv10, st10⟩
  obtain ⟨m9, l9, t9⟩ := unhide HT9
  have tot : Step (fun k => k = wb ∨ v.ownBlock = some k) w w10 := t9.trans' st10 (fun k hk x => by
   rcases x with x | x | x
   ·have := (unhide HG1 k x).1
    have := (unhide HS2).size
    omega
   ·exact .inl x
   ·rcases m9 k x with y | y
    ·exact .inr y
    ·omega)
  have HFIN := hide (show ∃ v' hs', KAt w10 4 wb ps v' hs' (KG w F w10) ∧ hs'.length = hs.length + 8 ∧ OrderAt w10 ∧ (∀ k, v'.ownBlock = some k → v.ownBlock = some k ∨ w.heap.size ≤ k) ∧ Step (fun k => k = wb ∨ v.ownBlock = some k) w w10 from
   ⟨v10, hs10, K10.kg (fun k x => by
    have hz2 := (unhide HS2).size
    have hz8 := (unhide HS08).size
    rcases x with (x | x | x) | x | x
    ·exact .inl x
    ·have := blk_eq x
     exact .inr (by omega)
    ·exact .inr (by omega)
    ·have := (unhide HG1 k x).1
     exact .inr (by omega)
    ·have := t9.size
     exact .inr (by omega)), by omega, (unhide HO).step tot (fun k hk x => by
    rcases x with x | x
    ·omega
    ·have := unhide HOV k x
     omega), fun k hk => by
    rcases mv10 k hk with y | y
    ·exact m9 k y
    ·exact .inr (Nat.le_trans t9.size y), tot⟩)
  clear HKP9 HT9 K10 hl10 mv10 st10 m9 l9 t9 tot
  go_wp2_with fail
  go_ret
  exact ⟨rfl, unhide HFIN⟩
end Go.Proofs.YtbpahojchgpdnaaGreatDoor
namespace Go.Proofs.YtbpahojchgpdnaaGreatDoor
open Go.RowKit Go.Bel
theorem step_unpack (wb : Nat) (nn wrap way most : Int) (b : ByteArray) (ps v : Value) (hs : List Hd) (F : Nat → Prop) (w : World) (K : KAt w 4 wb ps v hs F) (hO : OrderAt w) (h4 : 4 ≤ w.heap.size) (hw4 : 4 ≤ wb) (hb : b.size ≤ 140737488351232) (hA : Agrees wrap b most) (hl : hs.length ≤ 24000000000000) :
  Calls Tryz.prog 32 #[.pointer (some ⟨wb, 0, none⟩), opV 1 nn wrap way b most] w fun r w' => r = .returned (.bool true) ∧ ∃ v' hs', KAt w' 4 wb ps v' hs' (KG w F w') ∧ hs'.length = hs.length + 8 ∧ OrderAt w' ∧ (∀ k, v'.ownBlock = some k → v.ownBlock = some k ∨ w.heap.size ≤ k) ∧ Step (fun k => k = wb ∨ v.ownBlock = some k) w w' := by
 have h1 : Step (fun _ => False) w (w.alloc (.cells #[.int .i64 1, .int .i64 nn, .int .i64 wrap, .int .i64 way, .string b, .int .i64 most] 25)) := (Step.refl _ _).alloc _
 have HU := hide (unpacked_ok wb 1 nn wrap way most b ps v hs F _ (K.step0 h1) (hO.step h1 (fun _ _ x => x)) (Nat.le_trans h4 h1.size) hw4 hb hA hl)
 have H1 := hide h1
 clear K hO hA h1
 unfold opV at HU ⊢
 go_enter Tryz.func32, Tryz.ntmps32
 go_wp2_with fail
 refine (unhide HU).mono ?_
 rintro r w2 ⟨rfl, v', hs', K', hl', hO', hm', st⟩
 have HF := hide (show ∃ v' hs', KAt w2 4 wb ps v' hs' (KG w F w2) ∧ hs'.length = hs.length + 8 ∧ OrderAt w2 ∧ (∀ k, v'.ownBlock = some k → v.ownBlock = some k ∨ w.heap.size ≤ k) ∧ Step (fun k => k = wb ∨ v.ownBlock = some k) w w2 from
  ⟨v', hs', K'.kg (fun k x => by
   have hz := (unhide H1).size
   rcases x.1 with ⟨y, _⟩ | y
   ·by_cases hk : k < w.heap.size
    ·exact .inl ⟨y, hk⟩
    ·exact .inr (by omega)
   ·exact .inr (by omega)), hl', hO', fun k hk => (hm' k hk).imp id (fun x => Nat.le_trans (unhide H1).size x), ((unhide H1).mono (fun _ x => x.elim)).trans st⟩)
 clear HU K' hl' hO' hm' st
 go_wp2_with fail
 go_ret
 exact ⟨rfl, unhide HF⟩
end Go.Proofs.YtbpahojchgpdnaaGreatDoor
namespace Go.Proofs.YtbpahojchgpdnaaGreatDoor
open Go.RowKit Go.Bel
structure OpS where
 kind : Int
 nn : Int
 wrap : Int
 way : Int
 s : ByteArray
 most : Int
def OpS.cell (o : OpS) : Nat → Value
 | 0 => .int .i64 o.kind
 | 1 => .int .i64 o.nn
 | 2 => .int .i64 o.wrap
 | 3 => .int .i64 o.way
 | 4 => .string o.s
 | _ => .int .i64 o.most
structure ScriptAt (w : World) (g off : Nat) (ops : List OpS) : Prop where
 cell : ∀ i o, ops[i]? = some o → ∀ j, j < 6 → w.cell? ⟨g, off + i * 6 + j, none⟩ = some (o.cell j)
 there : ops ≠ [] → g < w.heap.size
theorem ScriptAt.step {S : Nat → Prop} {w w' : World} {g off : Nat} {ops : List OpS} (h : ScriptAt w g off ops) (hs : Step S w w') (hn : ¬ S g) : ScriptAt w' g off ops :=
 ⟨fun i o hi j hj => hs.cell (h.cell i o hi j hj) hn, fun he => Nat.lt_of_lt_of_le (h.there he) hs.size⟩
def Holds (w : World) (v : Value) (ops : List OpS) : Prop :=
 (∃ a c, v = .slice a 0 c ∧ ops = []) ∨ ∃ g off cap, v = .slice (some ⟨g, off, none⟩) ops.length cap ∧ ScriptAt w g off ops
end Go.Proofs.YtbpahojchgpdnaaGreatDoor
namespace Go.Proofs.YtbpahojchgpdnaaGreatDoor
open Go.RowKit Go.Bel
def opCells (ops : List OpS) : List Value := ops.flatMap fun o => [.int .i64 o.kind, .int .i64 o.nn, .int .i64 o.wrap, .int .i64 o.way, .string o.s, .int .i64 o.most]
theorem opCells_length (ops : List OpS) : (opCells ops).length = ops.length * 6 := by
 induction ops with
 | nil => rfl
 | cons o os ih =>
  have : opCells (o :: os) = [.int .i64 o.kind, .int .i64 o.nn, .int .i64 o.wrap, .int .i64 o.way, .string o.s, .int .i64 o.most] ++ opCells os := by simp [opCells]
  rw [this, List.length_append, ih]
  simp
  omega
theorem opCells_get (ops : List OpS) : ∀ i o, ops[i]? = some o → ∀ j, j < 6 → (opCells ops)[i * 6 + j]? = some (o.cell j) := by
 induction ops with
 | nil => intro i o h; simp at h
 | cons x os ih =>
  intro i o h j hj
  have e : opCells (x :: os) = [.int .i64 x.kind, .int .i64 x.nn, .int .i64 x.wrap, .int .i64 x.way, .string x.s, .int .i64 x.most] ++ opCells os := by simp [opCells]
  rw [e]
  cases i with
  | zero =>
   simp only [List.getElem?_cons_zero, Option.some.injEq] at h
   subst h
   rw [List.getElem?_append_left (by simp; omega)]
   match j, hj with
   | 0, _ => rfl
   | 1, _ => rfl
   | 2, _ => rfl
   | 3, _ => rfl
   | 4, _ => rfl
   | 5, _ => rfl
   | n + 6, h => omega
  | succ k =>
   rw [List.getElem?_cons_succ] at h
   rw [List.getElem?_append_right (by simp; omega)]
   have := ih k o h j hj
   rw [← this]
   congr 1
   simp
   omega
theorem script_of_row {w : World} {g : Nat} {A : Array Value} {t : TypeId} {ops : List OpS} (hb : w.heap[g]? = some (.cells A t (0, 0))) (hA : A.toList.take (ops.length * 6) = opCells ops) : ScriptAt w g 0 ops := by
 refine ⟨fun i o hi j hj => ?_, fun _ => lt_of_block hb⟩
 rw [Nat.zero_add]
 refine blk_cell hb _ _ ?_
 have h := opCells_get ops i o hi j hj
 have hl : i < ops.length := by
  rcases Nat.lt_or_ge i ops.length with h | h
  ·exact h
  ·rw [List.getElem?_eq_none h] at hi; cases hi
 rw [← hA, List.getElem?_take_of_lt (by omega)] at h
 simpa using h
def examples (wrap : Int) : List OpS :=
 [⟨1, 0, 0, 0, ⟨#[75, 4, 0]⟩, 9⟩, ⟨1, 0, 0, 0, ⟨#[3, 2]⟩, 9⟩, ⟨1, 0, wrap, 0, ⟨#[]⟩, 9⟩, ⟨2, 0, 0, 0, ⟨#[]⟩, 9⟩, ⟨3, 0, 0, 0, ⟨#[75, 4]⟩, 0⟩, ⟨3, 0, 0, 0, ⟨#[0]⟩, 0⟩, ⟨4, 0, 0, 0, ⟨#[]⟩, 0⟩, ⟨5, 0, 0, 2, ⟨#[97, 97, 97, 97, 97, 97, 97, 97, 97, 97, 97, 97, 97, 97, 97, 97]⟩, 0⟩]
end Go.Proofs.YtbpahojchgpdnaaGreatDoor
