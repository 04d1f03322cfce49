/- Proved here: what suited works out. -/
import Derived.Test.YtbpahojchgpdnaaGreatDoorMarksA
import Derived.Test.YtbpahojchgpdnaaGreatDoorFixed
set_option maxRecDepth 20000
set_option maxHeartbeats 4000000
namespace Go.Bel
end Go.Bel
namespace Go.Proofs.YtbpahojchgpdnaaGreatDoor
open Go.RowKit Go.Shelf Go.Lib Go.Sort Go.Bel
def PcCnt (f1 f2 : Nat → Nat) (p : Pc) : Prop := (p.l = 0 ∧ 1 ≤ f1 p.b) ∨ (p.l ≠ 0 ∧ ∃ s x m s2 x2 m2, LenM p.l s x m ∧ 1 ≤ f1 s ∧ DistM p.d s2 x2 m2 ∧ 1 ≤ f2 s2)
theorem PcCnt.mono {f1 f2 g1 g2 : Nat → Nat} {p : Pc} (h : PcCnt f1 f2 p) (h1 : ∀ i, f1 i ≤ g1 i) (h2 : ∀ i, f2 i ≤ g2 i) : PcCnt g1 g2 p := by
 rcases h with ⟨a, b⟩ | ⟨a, s, x, m, s2, x2, m2, b, c, d, e⟩
 ·exact .inl ⟨a, Nat.le_trans b (h1 _)⟩
 ·exact .inr ⟨a, s, x, m, s2, x2, m2, b, Nat.le_trans c (h1 _), d, Nat.le_trans e (h2 _)⟩
def bump (f : Nat → Nat) (s i : Nat) : Nat := if i = s then f i + 1 else f i
inductive Cnt : List Pc → (Nat → Nat) → (Nat → Nat) → Prop
 | nil : Cnt [] (fun i => if i = 256 then 1 else 0) (fun _ => 0)
 | lit (ps : List Pc) (p : Pc) (f1 f2 : Nat → Nat) (h : Cnt ps f1 f2) (hl : p.l = 0) : Cnt (ps ++ [p]) (bump f1 p.b) f2
 | cpy (ps : List Pc) (p : Pc) (f1 f2 : Nat → Nat) (s x m s2 x2 m2 : Nat) (h : Cnt ps f1 f2) (hl : p.l ≠ 0) (hM : LenM p.l s x m) (hD : DistM p.d s2 x2 m2) : Cnt (ps ++ [p]) (bump f1 s) (bump f2 s2)
structure Suits (ps : List Pc) (t : Nat) (f1 f2 : Nat → Nat) : Prop where
 end_ : 1 ≤ f1 256
 cnt : ∀ p ∈ ps.take t, PcCnt f1 f2 p
 le1 : ∀ i, f1 i ≤ t + 1
 le2 : ∀ i, f2 i ≤ t
 is_ : Cnt (ps.take t) f1 f2
theorem bump_le (f : Nat → Nat) (s i : Nat) : f i ≤ bump f s i := by unfold bump; split <;> omega
theorem bump_up {f : Nat → Nat} {s i t : Nat} (h : f i ≤ t) : bump f s i ≤ t + 1 := by unfold bump; split <;> omega
theorem bump_at (f : Nat → Nat) (s : Nat) : 1 ≤ bump f s s := by unfold bump; rw [if_pos rfl]; omega
theorem Suits.lit {ps : List Pc} {t : Nat} {f1 f2 : Nat → Nat} {p : Pc} (h : Suits ps t f1 f2) (hp : ps[t]? = some p) (hl : p.l = 0) : Suits ps (t + 1) (bump f1 p.b) f2 := by
 refine ⟨Nat.le_trans h.end_ (bump_le _ _ _), fun q hq => ?_, fun i => bump_up (h.le1 i), fun i => Nat.le_succ_of_le (h.le2 i), by rw [List.take_add_one, hp]; exact .lit _ p _ _ h.is_ hl⟩
 rw [List.take_add_one, hp, List.mem_append] at hq
 rcases hq with hq | hq
 ·exact (h.cnt q hq).mono (bump_le _ _) (fun _ => Nat.le_refl _)
 ·simp only [Option.toList_some, List.mem_singleton] at hq
  subst hq
  exact .inl ⟨hl, bump_at _ _⟩
theorem Suits.cpy {ps : List Pc} {t : Nat} {f1 f2 : Nat → Nat} {p : Pc} (h : Suits ps t f1 f2) (hp : ps[t]? = some p) (hl : p.l ≠ 0) {s x m s2 x2 m2 : Nat} (hM : LenM p.l s x m) (hD : DistM p.d s2 x2 m2) : Suits ps (t + 1) (bump f1 s) (bump f2 s2) := by
 refine ⟨Nat.le_trans h.end_ (bump_le _ _ _), fun q hq => ?_, fun i => bump_up (h.le1 i), fun i => bump_up (h.le2 i), by rw [List.take_add_one, hp]; exact .cpy _ p _ _ s x m s2 x2 m2 h.is_ hl hM hD⟩
 rw [List.take_add_one, hp, List.mem_append] at hq
 rcases hq with hq | hq
 ·exact (h.cnt q hq).mono (bump_le _ _) (bump_le _ _)
 ·simp only [Option.toList_some, List.mem_singleton] at hq
  subst hq
  exact .inr ⟨hl, s, x, m, s2, x2, m2, hM, bump_at _ _, hD, bump_at _ _⟩
theorem CntAt.bump {w : World} {R n s : Nat} {f : Nat → Nat} (h : CntAt w R n f) : CntAt (w.setCell ⟨R, s, none⟩ (.int .i64 ((f s : Int) + 1))) R n (bump f s) := by
 have e : (f s : Int) + 1 = ((f s + 1 : Nat) : Int) := by omega
 rw [e]
 refine (RowAt.set h s _).congr (fun i hi => ?_)
 unfold Go.Proofs.YtbpahojchgpdnaaGreatDoor.bump
 by_cases hi2 : i = s
 ·subst hi2; rw [if_pos rfl, if_pos rfl]
 ·rw [if_neg hi2, if_neg hi2]
def listOf (f : Nat → Nat) (n : Nat) : List Nat := (List.range n).map f
theorem listOf_length (f : Nat → Nat) (n : Nat) : (listOf f n).length = n := by simp [listOf]
theorem listOf_get (f : Nat → Nat) (n i : Nat) (h : i < n) : often (listOf f n) i = f i := by
 unfold often listOf
 rw [List.getElem?_map, List.getElem?_range h]
 rfl
theorem listOf_le {f : Nat → Nat} {n c : Nat} (h : ∀ i, f i ≤ c) (i : Nat) : often (listOf f n) i ≤ c := by
 by_cases hi : i < n
 ·rw [listOf_get f n i hi]; exact h i
 ·unfold often
  rw [List.getElem?_eq_none (by rw [listOf_length]; omega)]
  simp
theorem CntAt.nums {w : World} {R n : Nat} {f : Nat → Nat} (h : CntAt w R n f) : NumsIn w R 0 (listOf f n) := fun i hi => by
 rw [listOf_length] at hi
 rw [Nat.zero_add, listOf_get f n i hi]
 exact h.cell i hi
theorem suited_some (j off cap : Nat) (ps : List Pc) (w : World) (hW : PcsLie w j off ps) (jl : j < w.heap.size) (hpl : ps.length ≤ 100000) (hok : ∀ p ∈ ps, (p.l = 0 ∧ p.b < 256) ∨ (3 ≤ p.l ∧ p.l ≤ 258 ∧ 1 ≤ p.d ∧ p.d ≤ 32768)) :
  Calls Tryz.prog 164 #[.slice (some ⟨j, off, none⟩) ps.length cap] w fun e w' => ∃ g1 g2 f1 f2, e = .returned (.tuple #[.slice (some ⟨g1, 0, none⟩) 286 286, .slice (some ⟨g2, 0, none⟩) 30 30]) ∧ Suits ps ps.length f1 f2 ∧
   w.heap.size ≤ g1 ∧ w.heap.size ≤ g2 ∧ CntAt w' g1 286 (often (lensOf (listOf f1 286) 15)) ∧ CntAt w' g2 30 (often (lensOf (listOf f2 30) 15)) ∧ Step (fun _ => False) w w' := by
 obtain ⟨i0, hi, hz0, hz1, hz2⟩ := info_parts Tryz.info3
 have HW := hide hW
 have HOK := hide hok
 obtain ⟨n, hn⟩ : ∃ n, n = ps.length := ⟨_, rfl⟩
 rw [← hn] at hpl ⊢
 have HN := hide hn
 clear hW hok hn
 go_enter Tryz.func164, Tryz.ntmps164
 go_wp2_with (first
  | (at_make; refine wpList_make_full _ rfl _ _ 57 rfl w.heap.size 3 i0 (.int .i64 0) 1 Tryz.underlying57 hi hz0 hz1 .i64 .i64 _ _ 286 rfl rfl rfl rfl (by rw [hz2]; omega) (by unfold maxLen; omega) (Nat.le_refl _) ?_; intro w1 hown1 hgr1; have hst1 := (Step.refl (fun _ => False) w).grown hgr1 (fun k e => by cases e); have hc1 := cnt_made hown1; have HC1 := hide hc1; have HST1 := hide hst1; have lt1 := hc1.lt; have cw := hc1.cell 256 (by decide); have fw := hc1.free 256; clear hown1 hgr1 hc1 hst1)
  | (at_make; refine wpList_make_full _ rfl _ _ 57 rfl w1.heap.size 3 i0 (.int .i64 0) 1 Tryz.underlying57 hi hz0 hz1 .i64 .i64 _ _ 30 rfl rfl rfl rfl (by rw [hz2]; omega) (by unfold maxLen; omega) (Nat.le_refl _) ?_; intro w2 hown2 hgr2; have hst2 := (Step.refl (fun _ => False) w1).grown hgr2 (fun k e => by cases e); have hc2 := cnt_made hown2; have HC2 := hide hc2; have HST2 := hide hst2; have cw2 := hst2.cell cw (fun y => y); have fw2 := ((unhide HC1).step hst2 (fun y => y)).free 256; clear hown2 hgr2 hc2 hst2))
 obtain ⟨R1, hR1⟩ : ∃ R, R = w.heap.size := ⟨_, rfl⟩
 obtain ⟨R2, hR2⟩ : ∃ R, R = w1.heap.size := ⟨_, rfl⟩
 rw [← hR1] at HC1 lt1 ⊢
 rw [← hR2] at HC2 lt1 ⊢
 have hs0 : Suits ps 0 (fun i => if i = 256 then 1 else 0) (fun _ => 0) := ⟨by simp, fun p hp => by simp at hp, fun i => by split <;> omega, fun i => by omega, .nil⟩
 have ha0 : CntAt (w2.setCell ⟨R1, 256, none⟩ (.int .i64 1)) R1 286 (fun i => if i = 256 then 1 else 0) := by
  refine (((unhide HC1).step (unhide HST2) (fun y => y)).set 256 (.int .i64 1)).congr (fun i hi => ?_)
  by_cases e : i = 256
  ·simp [e]
  ·simp [e]
 have hb0 : CntAt (w2.setCell ⟨R1, 256, none⟩ (.int .i64 1)) R2 30 (fun _ => 0) := (unhide HC2).other (by show R2 ≠ R1; omega) _
 have hst0 : Step (fun _ => False) w (w2.setCell ⟨R1, 256, none⟩ (.int .i64 1)) := ((unhide HST1).trans (unhide HST2)).setNew (by show w.heap.size ≤ R1; omega) _
 have HS0 := hide hs0
 have HA0 := hide ha0
 have HB0 := hide hb0
 have HT0 := hide hst0
 have hjR1 : ¬ j = R1 := by omega
 have hjR2 : ¬ j = R2 := by have := (unhide HST1).size; omega
 have HR1 := hide hR1
 have hR12 : ¬ R1 = R2 := by omega
 have hR21 : ¬ R2 = R1 := by omega
 have hwR2 : w.heap.size ≤ R2 := by omega
 clear hs0 ha0 hb0 hst0 hR1 hR2 HC1 HC2 HST1 HST2 cw fw cw2 fw2
 go_loopg [14] n (fun kx u14 wr => ∃ (t : Nat) (f1 f2 : Nat → Nat), u14 = .int .i64 (t : Nat) ∧ t ≤ n ∧ kx = n - t ∧ Hid (Suits ps t f1 f2) ∧ Hid (CntAt wr R1 286 f1) ∧ Hid (CntAt wr R2 30 f2) ∧ Hid (Step (fun _ => False) w wr))
 case atStart => exact ⟨0, _, _, rfl, by omega, rfl, HS0, HA0, HB0, HT0⟩
 case round =>
  clear HS0 HA0 HB0 HT0
  obtain ⟨t, f1, f2, rfl, htn, hkx, HSU, HC1, HC2, HST⟩ := hrel
  by_cases hlt : t < n
  ·have hltz : (t : Int) < (n : Int) := by omega
   obtain ⟨p, hp⟩ : ∃ p, ps[t]? = some p := ⟨_, List.getElem?_eq_getElem (by have := unhide HN; omega)⟩
   obtain ⟨a0, a1, a2⟩ := unhide HW t p hp
   have a0 := (unhide HST).cell a0 (fun y => y)
   have a1 := (unhide HST).cell a1 (fun y => y)
   have a2 := (unhide HST).cell a2 (fun y => y)
   have et : ((t : Int)).toNat = t := by omega
   have pt : (0 : Int) ≤ (t : Int) := by omega
   have lR1 := (unhide HC1).lt
   have lR2 := (unhide HC2).lt
   have hRn1 : ¬ R1 = wr.heap.size := by omega
   have hRn2 : ¬ R2 = wr.heap.size := by omega
   have hjn : j < wr.heap.size := by have := (unhide HST).size; omega
   have hjn2 : ¬ j = wr.heap.size := by omega
   obtain ⟨d, hd⟩ : ∃ d, d = p.d := ⟨_, rfl⟩
   obtain ⟨ln, hln⟩ : ∃ d, d = p.l := ⟨_, rfl⟩
   obtain ⟨b, hb⟩ : ∃ d, d = p.b := ⟨_, rfl⟩
   rw [← hb] at a0
   rw [← hln] at a1
   rw [← hd] at a2
   have hok := unhide HOK p (List.mem_of_getElem? hp)
   rw [← hb, ← hln, ← hd] at hok
   by_cases hl0 : ln = 0
   ·subst hl0
    have hb256 : b < 256 := by omega
    have cR := (unhide HC1).cell b (by omega)
    have fR := (unhide HC1).free b
    have hf := (unhide HSU).le1 b
    have hnew := (unhide HSU).lit hp hln.symm
    have hnc1 : CntAt ((wr.setCell ⟨R1, b, none⟩ (.int .i64 ((f1 b : Int) + 1))).alloc (.cells #[.int .u8 (b : Nat), .int .i64 0, .int .i64 (d : Nat)] 159)) R1 286 (bump f1 b) := RowAt.alloc (CntAt.bump (unhide HC1)) _
    have hnc2 : CntAt ((wr.setCell ⟨R1, b, none⟩ (.int .i64 ((f1 b : Int) + 1))).alloc (.cells #[.int .u8 (b : Nat), .int .i64 0, .int .i64 (d : Nat)] 159)) R2 30 f2 := RowAt.alloc (RowAt.other (unhide HC2) (by show R2 ≠ R1; omega) _) _
    have hns : Step (fun _ => False) w ((wr.setCell ⟨R1, b, none⟩ (.int .i64 ((f1 b : Int) + 1))).alloc (.cells #[.int .u8 (b : Nat), .int .i64 0, .int .i64 (d : Nat)] 159)) := ((unhide HST).setNew (by show w.heap.size ≤ R1; have := unhide HR1; omega) _).alloc _
    rw [← hb] at hnew
    obtain ⟨c, hc⟩ : ∃ c, c = f1 b := ⟨_, rfl⟩
    rw [← hc] at cR hf hnc1 hnc2 hns
    have eb : ((b : Int)).toNat = b := by omega
    have pb : (0 : Int) ≤ (b : Int) := by omega
    have qb : (b : Int) < 286 := by omega
    have N0 := hide hnew
    have N1 := hide hnc1
    have N2 := hide hnc2
    have N3 := hide hns
    clear hnew hnc1 hnc2 hns hc hok hp hd hln hb HSU HC1 HC2 HST
    go_wp2_with fail
    go_roundg (n - (t + 1))
    case measure => omega
    case rel => exact ⟨t + 1, _, _, by go_num, by omega, rfl, N0, N1, N2, N3⟩
   ·have hl0z : ¬ (ln : Int) = 0 := by omega
    have hb3 : 3 ≤ ln ∧ ln ≤ 258 ∧ 1 ≤ d ∧ d ≤ 32768 := by omega
    have kl := fun W => lengthMark_ok ln W hb3.1 hb3.2.1
    have kd := fun W => distanceMark_ok d W hb3.2.2.1 hb3.2.2.2
    have KL := hide kl
    have KD := hide kd
    have HPD := hide (And.intro hp (And.intro hd hln))
    clear kl kd hok hp hd hln hb hb3
    have hfd : ∀ (u v x : Value) (w : World), (Instr.field 175 (.agg #[u, v, x]) 0).run Tryz.prog w = .ok u w := fun _ _ _ _ => by kernel_rfl
    have tac1 : ∀ (s x m : Nat) (w3 : World), LenM ln s x m → Step (fun _ => False) (wr.alloc (.cells #[.int .u8 (b : Nat), .int .i64 (ln : Nat), .int .i64 (d : Nat)] 159)) w3 → ∃ c : Nat, c ≤ 200000 ∧ s < 286 ∧ w3.cell? ⟨R1, s, none⟩ = some (.int .i64 (c : Nat)) ∧ w3.frozen? ⟨R1, s, none⟩ = false ∧ w3.cell? ⟨wr.heap.size, 2, none⟩ = some (.int .i64 (d : Nat)) ∧
      (∀ (s2 x2 m2 : Nat) (w4 : World), DistM d s2 x2 m2 → Step (fun _ => False) (w3.setCell ⟨R1, s, none⟩ (.int .i64 ((c : Int) + 1))) w4 → ∃ c2 : Nat, c2 ≤ 200000 ∧ s2 < 30 ∧ w4.cell? ⟨R2, s2, none⟩ = some (.int .i64 (c2 : Nat)) ∧ w4.frozen? ⟨R2, s2, none⟩ = false ∧
       Hid (Suits ps (t + 1) (bump f1 s) (bump f2 s2)) ∧ Hid (CntAt (w4.setCell ⟨R2, s2, none⟩ (.int .i64 ((c2 : Int) + 1))) R1 286 (bump f1 s)) ∧ Hid (CntAt (w4.setCell ⟨R2, s2, none⟩ (.int .i64 ((c2 : Int) + 1))) R2 30 (bump f2 s2)) ∧ Hid (Step (fun _ => False) w (w4.setCell ⟨R2, s2, none⟩ (.int .i64 ((c2 : Int) + 1))))) := fun s x m w3 hM hs3 => by
     have hbd := hM.bd
     have h1 : CntAt w3 R1 286 f1 := RowAt.step (RowAt.alloc (unhide HC1) _) hs3 (fun y => y)
     have h2 : CntAt w3 R2 30 f2 := RowAt.step (RowAt.alloc (unhide HC2) _) hs3 (fun y => y)
     have h3 := ((unhide HST).alloc (.cells #[.int .u8 (b : Nat), .int .i64 (ln : Nat), .int .i64 (d : Nat)] 159)).trans hs3
     have h4 : w3.heap[wr.heap.size]? = some (.cells #[.int .u8 (b : Nat), .int .i64 (ln : Nat), .int .i64 (d : Nat)] 159 (0, 0)) := hs3.at_ (heap_alloc_new _ _) (fun y => y)
     have hle := (unhide HSU).le1 s
     refine ⟨f1 s, by omega, by omega, RowAt.cell h1 s (by omega), RowAt.free h1 s, blk_cell h4 2 _ rfl, fun s2 x2 m2 w4 hD hs4 => ?_⟩
     have hbd2 := hD.bd
     have g1 : CntAt w4 R1 286 (bump f1 s) := RowAt.step (CntAt.bump h1) hs4 (fun y => y)
     have g2 : CntAt w4 R2 30 f2 := RowAt.step (RowAt.other h2 (by show R2 ≠ R1; omega) _) hs4 (fun y => y)
     have hR1 := unhide HR1
     have g3 := (h3.setNew (p := ⟨R1, s, none⟩) (by show w.heap.size ≤ R1; omega) (.int .i64 ((f1 s : Int) + 1))).trans hs4
     have hle2 := (unhide HSU).le2 s2
     obtain ⟨q1, q2, q3⟩ := unhide HPD
     refine ⟨f2 s2, by omega, by omega, RowAt.cell g2 s2 (by omega), RowAt.free g2 s2, ?_, RowAt.other g1 (by show R1 ≠ R2; omega) _, CntAt.bump g2, g3.setNew (p := ⟨R2, s2, none⟩) hwR2 _⟩
     rw [q3] at hM
     rw [q2] at hD
     exact (unhide HSU).cpy q1 (by omega) hM hD
    have TAC1 := hide tac1
    clear tac1 HC1 HC2
    go_wp2_with fail
    refine (unhide KL _).mono ?_
    rintro e w3 ⟨s, x, m, rfl, hM, hst3⟩
    obtain ⟨c, hc, hs286, c1, fr1, cd, NXT⟩ := unhide TAC1 s x m w3 hM hst3
    have es : ((s : Int)).toNat = s := by omega
    have ps9 : (0 : Int) ≤ (s : Int) := by omega
    have qs9 : (s : Int) < 286 := by omega
    have HNXT := hide NXT
    clear NXT hM hst3 TAC1
    go_wp2_with fail
    refine (unhide KD _).mono ?_
    rintro e w4 ⟨s2, x2, m2, rfl, hD, hst4⟩
    obtain ⟨c2, hc2, hs30, c3, fr3, N0, N1, N2, N3⟩ := unhide HNXT s2 x2 m2 w4 hD hst4
    have es2 : ((s2 : Int)).toNat = s2 := by omega
    have ps92 : (0 : Int) ≤ (s2 : Int) := by omega
    have qs92 : (s2 : Int) < 30 := by omega
    clear hD hst4 HNXT
    go_wp2_with fail
    go_roundg (n - (t + 1))
    case measure => omega
    case rel => exact ⟨t + 1, _, _, by go_num, by omega, rfl, N0, N1, N2, N3⟩
  ·have hltz : ¬ (t : Int) < (n : Int) := by omega
   have htt : t = n := by omega
   subst htt
   have hl1 := lengths_ok R1 0 286 15 (listOf f1 286) wr (CntAt.nums (unhide HC1)) (by rw [listOf_length]; omega) (by rw [listOf_length]; omega) (fun i => by have := listOf_le (n := 286) (unhide HSU).le1 i; omega) (by omega) (by omega) (by rw [listOf_length]; decide)
   rw [listOf_length] at hl1
   have hl2 := fun (W : World) (hs : Step (fun _ => False) wr W) => lengths_ok R2 0 30 15 (listOf f2 30) W ((CntAt.nums (unhide HC2)).step hs (fun y => y)) (by rw [listOf_length]; omega) (by rw [listOf_length]; omega) (fun i => by have := listOf_le (n := 30) (unhide HSU).le2 i; omega) (by omega) (by omega) (by rw [listOf_length]; decide)
   rw [listOf_length] at hl2
   have HL1 := hide hl1
   have HL2 := hide hl2
   have hz := (unhide HST).size
   clear hl1 hl2
   go_wp2_with (first
    | (go_at_call_of 183 R1; refine (unhide HL1).mono ?_; rintro e w5 ⟨g1, rfl, hg1, hcl1, hst5⟩)
    | (go_at_call_of 183 R2; refine (unhide HL2 _ hst5).mono ?_; rintro e w6 ⟨g2, rfl, hg2, hcl2, hst6⟩))
   go_ret2
   exact ⟨g1, g2, f1, f2, rfl, unhide HSU, by omega, by have := hst5.size; omega, RowAt.step hcl1 hst6 (fun y => y), hcl2, ((unhide HST).trans hst5).trans hst6⟩
end Go.Proofs.YtbpahojchgpdnaaGreatDoor
namespace Go.Proofs.YtbpahojchgpdnaaGreatDoor
open Go.RowKit Go.Bel
theorem cntP_none {l : List Pa} {i : Nat} (h : ∀ p ∈ l, i ∉ p.s) : cntP l i = 0 := by
 induction l with
 | nil => rfl
 | cons p l ih => rw [cntP, ih (fun q hq => h q (by simp [hq])), List.count_eq_zero.2 (h p (by simp))]
theorem sumL_pos {f : Nat → Nat} : ∀ {l : List Nat} {i : Nat}, i ∈ l → f i ≤ sumL f l
 | [], _, h => by simp at h
 | x :: l, i, h => by
  rw [sumL]
  rcases List.mem_cons.1 h with rfl | h
  ·omega
  ·have := sumL_pos (f := f) h; omega
theorem sumL_two {f : Nat → Nat} (hf : ∀ i, 1 ≤ f i) : ∀ {l : List Nat} {i : Nat}, i ∈ l → 2 ≤ l.length → f i + 1 ≤ sumL f l
 | [], _, h, _ => by simp at h
 | [x], _, _, h2 => by simp at h2
 | x :: y :: l, i, h, _ => by
  rw [sumL]
  rcases List.mem_cons.1 h with rfl | h
  ·rw [sumL]; have := hf y; omega
  ·have := sumL_pos (f := f) h; have := hf x; omega
theorem lensOf_none {L : List Nat} {k i : Nat} (hi : i ∉ comes L L.length) : often (lensOf L k) i = 0 := by
 by_cases h : i < L.length
 ·rw [lensOf_get L k i h]
  by_cases h2 : (comes L L.length).length < 2
  ·rw [if_pos h2, if_neg hi]
  ·rw [if_neg h2]
   refine cntP_none (fun p hp hip => hi ?_)
   exact rowS_syms (q := fun i => i ∈ comes L L.length) (fun p hp j hj => by
    simp only [List.mem_map] at hp
    obtain ⟨x, hx, rfl⟩ := hp
    simp only [mk1, List.mem_singleton] at hj
    subst hj
    exact hx) k p (List.mem_of_mem_take hp) i hip
 ·unfold often
  rw [List.getElem?_eq_none (by rw [lensOf_length]; omega)]; rfl
theorem lensOf_some {L : List Nat} {k i : Nat} (_hk : 1 ≤ k) (hs : L.length ≤ 2 ^ k) (hi : i ∈ comes L L.length) : 1 ≤ often (lensOf L k) i := by
 have hil := ((comes_mem L _ i).1 hi).1
 rw [lensOf_get L k i hil]
 by_cases h2 : (comes L L.length).length < 2
 ·rw [if_pos h2, if_pos hi]; omega
 ·rw [if_neg h2]
  have hl := comes_length L L.length
  have hfl := (lens_fill (often L) (comes L L.length) (comes_nodup _ _) (by omega) k (by omega)).2.2
  have h9 := sumL_two (f := fun i => 2 ^ (k - cntP ((rowS ((comes L L.length).map (mk1 (often L))) k).take (2 * (comes L L.length).length - 2)) i)) (fun i => Nat.one_le_two_pow) hi (by omega)
  rw [hfl] at h9
  rcases Nat.eq_zero_or_pos (cntP ((rowS ((comes L L.length).map (mk1 (often L))) k).take (2 * (comes L L.length).length - 2)) i) with h0 | h0
  ·simp only [h0, Nat.sub_zero] at h9
   omega
  ·exact h0
theorem wgt_comes (L : List Nat) (k : Nat) (hk : 1 ≤ k) (hs : L.length ≤ 2 ^ k) : ∀ n, n ≤ L.length → wgtTo (lensOf L k) n = sumL (fun i => 32768 / 2 ^ often (lensOf L k) i) (comes L n) ∧ cntTo (lensOf L k) n = (comes L n).length
 | 0, _ => ⟨rfl, rfl⟩
 | n + 1, hn => by
  obtain ⟨h1, h2⟩ := wgt_comes L k hk hs n (by omega)
  have e : (lensOf L k)[n]?.getD 0 = often (lensOf L k) n := rfl
  rw [wgtTo, cntTo, e, comes_succ, h1, h2]
  by_cases hc : 0 < often L n
  ·have hp := lensOf_some (i := n) hk hs ((comes_mem L _ n).2 ⟨by omega, hc⟩)
   rw [if_pos hc, if_pos (by omega), if_pos (by omega)]
   have sumL_snoc : ∀ (f : Nat → Nat) (l : List Nat) (x : Nat), sumL f (l ++ [x]) = sumL f l + f x := fun f l x => by
    induction l with
    | nil => simp [sumL]
    | cons y l ih => rw [List.cons_append, sumL, sumL, ih]; omega
   exact ⟨by rw [sumL_snoc], by simp⟩
  ·have hz : often (lensOf L k) n = 0 := lensOf_none (fun h => hc ((comes_mem L _ n).1 h).2)
   rw [if_neg hc, hz, if_neg (by omega), if_neg (by omega)]
   exact ⟨rfl, rfl⟩
theorem sumL_congr {f g : Nat → Nat} : ∀ {l : List Nat}, (∀ i ∈ l, f i = g i) → sumL f l = sumL g l
 | [], _ => rfl
 | x :: l, h => by rw [sumL, sumL, h x (by simp), sumL_congr (fun i hi => h i (by simp [hi]))]
theorem sumL_mul {f : Nat → Nat} {c : Nat} : ∀ l : List Nat, sumL (fun i => c * f i) l = c * sumL f l
 | [] => rfl
 | x :: l => by rw [sumL, sumL, sumL_mul l, Nat.mul_add]
theorem lensOf_may (L : List Nat) (k : Nat) (hk : 1 ≤ k) (hk2 : k ≤ 15) (hs : L.length ≤ 2 ^ k) (h1 : 1 ≤ (comes L L.length).length) : mayB (lensOf L k) = true := by
 obtain ⟨hw, hc⟩ := wgt_comes L k hk hs L.length (Nat.le_refl _)
 have hl := comes_length L L.length
 unfold mayB
 rw [lensOf_length, hw, hc]
 by_cases h2 : (comes L L.length).length < 2
 ·have e1 : (comes L L.length).length = 1 := by omega
  match hx : comes L L.length, e1 with
  | [x], _ =>
   have hxm : x ∈ comes L L.length := by rw [hx]; simp
   have e : often (lensOf L k) x = 1 := by rw [lensOf_get L k x ((comes_mem L _ x).1 hxm).1, if_pos h2, if_pos hxm]
   simp [sumL, e]
 ·have hfl := (lens_fill (often L) (comes L L.length) (comes_nodup _ _) (by omega) k (by omega)).2.2
  have hle := (lens_fill (often L) (comes L L.length) (comes_nodup _ _) (by omega) k (by omega)).2.1
  have e : sumL (fun i => 32768 / 2 ^ often (lensOf L k) i) (comes L L.length) = 2 ^ (15 - k) * sumL (fun i => 2 ^ (k - cntP ((rowS ((comes L L.length).map (mk1 (often L))) k).take (2 * (comes L L.length).length - 2)) i)) (comes L L.length) := by
   rw [← sumL_mul]
   refine sumL_congr (fun i hi => ?_)
   rw [lensOf_get L k i ((comes_mem L _ i).1 hi).1, if_neg h2]
   have h9 := hle i
   rw [show (32768 : Nat) = 2 ^ 15 from rfl, Nat.pow_div (by omega) (by omega), ← Nat.pow_add]
   congr 1
   omega
  rw [e, hfl, ← Nat.pow_add, show 15 - k + k = 15 by omega]
  simp
end Go.Proofs.YtbpahojchgpdnaaGreatDoor
namespace Go.Proofs.YtbpahojchgpdnaaGreatDoor
open Go.RowKit Go.Shelf Go.Lib Go.Sort Go.Bel
def firstsB (F : List Nat) (c : Nat) : List Bool := (List.range c).flatMap fun i => numBits (often F (orderList[i]?.getD 0)) 3
def marksB (F : List Nat) (l : List Mk) : List Bool := l.flatMap fun k => codeB F k.s ++ numBits k.x k.m
def codingB (a b c : Nat) (F : List Nat) (l : List Mk) : List Bool := numBits (a - 257) 5 ++ numBits (b - 1) 5 ++ numBits (c - 4) 4 ++ firstsB F c ++ marksB F l
structure Codes (L1 L2 : List Nat) (a b c : Nat) (F : List Nat) (l : List Mk) : Prop where
 a1 : 257 ≤ a
 a2 : a ≤ 286
 az : ∀ i, a ≤ i → often L1 i = 0
 b1 : 1 ≤ b
 b2 : b ≤ 30
 bz : ∀ i, b ≤ i → often L2 i = 0
 tells : TellsFrom (L1.take a ++ L2.take b) 0 l (a + b)
 fs : F = lensOf (cntM l) 7
 c1 : 4 ≤ c
 c2 : c ≤ 19
 cz : ∀ i, c ≤ i → i < 19 → often F (orderList[i]?.getD 0) = 0
 last : (257 < a → often L1 (a - 1) ≠ 0) ∧ (1 < b → often L2 (b - 1) ≠ 0) ∧ (4 < c → often F (orderList[c - 1]?.getD 0) ≠ 0)
theorem NumsIn.take {w : World} {g off : Nat} {L : List Nat} (h : NumsIn w g off L) (a : Nat) : NumsIn w g off (L.take a) := fun i hi => by
 rw [List.length_take] at hi
 rw [h i (by omega)]
 unfold often
 rw [List.getElem?_take_of_lt (by omega)]
theorem often_take_le (L : List Nat) (a i c : Nat) (h : ∀ i, often L i ≤ c) : often (L.take a) i ≤ c := by
 have := h i
 unfold often at *
 by_cases hi : i < a
 ·rw [List.getElem?_take_of_lt hi]; exact this
 ·rw [List.getElem?_eq_none (by rw [List.length_take]; omega)]; simp
theorem often_append_le (L M : List Nat) (i c : Nat) (h : ∀ i, often L i ≤ c) (h2 : ∀ i, often M i ≤ c) : often (L ++ M) i ≤ c := by
 unfold often at *
 by_cases hi : i < L.length
 ·rw [List.getElem?_append_left hi]; exact h i
 ·rw [List.getElem?_append_right (by omega)]; exact h2 _
theorem firstsB_succ (F : List Nat) (c : Nat) : firstsB F (c + 1) = firstsB F c ++ numBits (often F (orderList[c]?.getD 0)) 3 := by simp [firstsB, List.range_succ]
theorem firstsB_length (F : List Nat) (c : Nat) : (firstsB F c).length = 3 * c := by
 induction c with
 | zero => rfl
 | succ c ih => rw [firstsB_succ, List.length_append, ih, numBits_length]; omega
theorem marks_may {l : List Mk} {k : Mk} (hk : k ∈ l) (hs : k.s < 19) : mayB (lensOf (cntM l) 7) = true ∧ 1 ≤ often (lensOf (cntM l) 7) k.s := by
 have hin : k.s ∈ comes (cntM l) (cntM l).length := by
  rw [comes_mem, cntM_length, cntM_get l k.s hs]
  exact ⟨hs, List.count_pos_iff.2 (List.mem_map_of_mem hk)⟩
 have hl : (cntM l).length ≤ 2 ^ 7 := by rw [cntM_length]; decide
 exact ⟨lensOf_may _ 7 (by omega) (by omega) hl (List.length_pos_of_mem hin), lensOf_some (by omega) hl hin⟩
theorem marksB_snoc {F : List Nat} {l : List Mk} {i : Nat} {k : Mk} (h : l[i]? = some k) : marksB F (l.take (i + 1)) = marksB F (l.take i) ++ (codeB F k.s ++ numBits k.x k.m) := by
 unfold marksB
 rw [List.take_add_one, h, List.flatMap_append]
 simp
theorem marksB_len {F : List Nat} (hF : ∀ j : Nat, F[j]?.getD 0 ≤ 15) : ∀ l : List Mk, (∀ k ∈ l, k.m ≤ 7) → (marksB F l).length ≤ 22 * l.length
 | [], _ => by simp [marksB]
 | k :: l, h => by
  have h1 := marksB_len hF l (fun q hq => h q (by simp [hq]))
  have h2 := h k (by simp)
  have h3 := hF k.s
  have e : marksB F (k :: l) = codeB F k.s ++ numBits k.x k.m ++ marksB F l := by simp [marksB]
  rw [e, List.length_append, List.length_append, codeB_length, numBits_length, List.length_cons]
  omega
structure Plan (w w7 : World) (L1 L2 : List Nat) (a b c gm cm gF gO : Nat) (F : List Nat) (l : List Mk) : Prop where
 cod : Codes L1 L2 a b c F l
 mks : MksAt w7 gm l
 gml : w.heap.size ≤ gm ∧ gm < w7.heap.size
 fl : CntAt w7 gF 19 (often F)
 gFl : w.heap.size ≤ gF
 od : CntAt w7 gO 19 (fun i => often F (orderList[i]?.getD 0))
 gOl : w.heap.size ≤ gO
 st : Step (fun _ => False) w w7
 len : l.length ≤ 1000
theorem writeCoding_ok (k base g1 g2 : Nat) (v : Value) (bs : List Bool) (L1 L2 : List Nat) (w : World) (h : Sk w k base v bs) (n1 : NumsIn w g1 0 L1) (n2 : NumsIn w g2 0 L2) (hl1 : L1.length = 286) (hl2 : L2.length = 30) (h15 : ∀ i, often L1 i ≤ 15) (h25 : ∀ i, often L2 i ≤ 15) (hO : OrderAt w) (hl : bs.length < 60000000000000) (hbase : base ≤ w.heap.size) :
  Calls Tryz.prog 165 #[.pointer (some ⟨k, 0, none⟩), .slice (some ⟨g1, 0, none⟩) 286 286, .slice (some ⟨g2, 0, none⟩) 30 30] w
   fun e w' => e = .returned (.tuple #[]) ∧ ∃ v' a b c F l, Sk w' k base v' (bs ++ codingB a b c F l) ∧ Codes L1 L2 a b c F l ∧ Wrt k w v w' v' := by
 have ht1 := told_ok g1 0 286 257 L1 w n1 (by omega) (by omega) (by omega)
 rw [hl1] at ht1
 have HT1 := hide ht1
 have HH := hide h
 have HN1 := hide n1
 have HN2 := hide n2
 have HO := hide hO
 have HLL := hide (And.intro hl1 (And.intro hl2 (And.intro h15 h25)))
 clear ht1 h n1 n2 hO hl1 hl2 h15 h25
 go_enter Tryz.func165, Tryz.ntmps165
 go_wp2_with fail
 refine (unhide HT1).mono ?_
 rintro e w1 ⟨a, rfl, a1, a2, az, am, hst1⟩
 have ht2 := told_ok g2 0 30 1 L2 w1 ((unhide HN2).step hst1 (fun y => y)) (by have := (unhide HLL).2.1; omega) (by have := (unhide HLL).2.1; omega) (by have := (unhide HLL).2.1; omega)
 rw [(unhide HLL).2.1] at ht2
 have HT2 := hide ht2
 have HST1 := hide hst1
 have HAZ := hide az
 have HAM := hide am
 clear ht2 hst1 az am HT1
 go_wp2_with fail
 refine (unhide HT2).mono ?_
 rintro e w2 ⟨b, rfl, b1, b2, bz, bm, hst2⟩
 have HBZ := hide bz
 have HBM := hide bm
 have HST2 := hide ((unhide HST1).trans hst2)
 clear hst2 bz bm HT2 HST1
 go_wp2_with fail
 have hl1 := (unhide HLL).1
 have hl2 := (unhide HLL).2.1
 have l1 : (L1.take a).length = a := by rw [List.length_take]; omega
 have l2 : (L2.take b).length = b := by rw [List.length_take]; omega
 have hcat := concat2 g1 286 g2 30 (L1.take a) (L2.take b) w2 57 (((unhide HN1).step (unhide HST2) (fun y => y)).take a) (((unhide HN2).step (unhide HST2) (fun y => y)).take b) (by omega) (by omega)
 rw [l1, l2] at hcat
 refine hcat.mono ?_
 rintro e w3 ⟨c3, rfl, hc3, hsz3, hn3, hst3⟩
 obtain ⟨row, hrow⟩ : ∃ row, row = L1.take a ++ L2.take b := ⟨_, rfl⟩
 rw [← hrow] at hn3
 have hrl : row.length = a + b := by rw [hrow, List.length_append, l1, l2]
 have hr15 : ∀ i, often row i ≤ 15 := fun i => by
  rw [hrow]
  exact often_append_le _ _ _ _ (fun i => often_take_le _ _ _ _ (unhide HLL).2.2.1) (fun i => often_take_le _ _ _ _ (unhide HLL).2.2.2)
 have hw3 := (unhide HST2).trans hst3
 have hrm := rowMarks_ok (w2.heap.size + 1) 0 c3 row w3 hn3 (by omega) (by omega) hr15 ((unhide HO).step hw3 (fun _ _ y => y))
 rw [hrl] at hrm
 have HRM := hide hrm
 have HW3 := hide hw3
 have HROW := hide (And.intro hrow hrl)
 clear hcat hn3 hst3 hrow hr15 hw3 hrm hl1 hl2 l1 l2 hrl HST2
 go_wp2_with fail
 refine (unhide HRM).mono ?_
 rintro e w4 ⟨v4, l, rfl, hmr, htl⟩
 have hlc := htl.count
 have hsym := htl.sym
 have hpos : 1 ≤ l.length := by
  rcases Nat.eq_zero_or_pos l.length with h0 | h0
  ·have h9 := List.eq_nil_of_length_eq_zero h0
   rw [h9] at htl
   have := htl.nil_eq
   omega
  ·exact h0
 obtain ⟨gm, cm, hv4⟩ : ∃ gm cm, v4 = .slice (some ⟨gm, 0, none⟩) l.length cm := by
  obtain ⟨_, ⟨_, hn0⟩ | ⟨g, cap, _, hv, _⟩⟩ := hmr.row
  ·omega
  ·exact ⟨g, cap, hv⟩
 subst hv4
 have hmk := MksAt.of_owns hmr.row
 have hgm := hmr.row.lt gm rfl
 have hfl := firstLengths_ok gm cm l w4 hmk hgm.2 (by omega) (fun k hk => (hsym k hk).1)
 have HFL := hide hfl
 have HMK := hide (And.intro hmk hgm)
 have HTL := hide htl
 have HW4 := hide ((unhide HW3).trans hmr.st)
 have hz3 := (unhide HW3).size
 obtain ⟨N, hN⟩ : ∃ N, N = l.length := ⟨_, rfl⟩
 rw [← hN] at HFL hlc hpos ⊢
 have HNL := hide hN
 clear hfl hmk htl hmr hsym hN HRM HW3
 go_wp2_with fail
 refine (unhide HFL).mono ?_
 rintro e w5 ⟨gF, rfl, hgF, hcF, hst5⟩
 obtain ⟨F, hF⟩ : ∃ F, F = lensOf (cntM l) 7 := ⟨_, rfl⟩
 rw [← hF] at hcF
 have hFl : F.length = 19 := by rw [hF, lensOf_length, cntM_length]
 have hFn : NumsIn w5 gF 0 F := fun i hi => by
  rw [Nat.zero_add]
  exact RowAt.cell hcF i (by omega)
 have hor := ordered_ok gF 0 19 F w5 hFn hFl ((unhide HO).step ((unhide HW4).trans hst5) (fun _ _ y => y)) hcF.lt
 have HOR := hide hor
 have HCF := hide hcF
 have HFF := hide (And.intro hF hFl)
 have HW5 := hide hst5
 have hz4 := (unhide HW4).size
 clear hor hcF hF hFl hFn hst5 HFL
 go_wp2_with fail
 refine (unhide HOR).mono ?_
 rintro e w6 ⟨gO, rfl, hgO, hcO, hst6⟩
 have htd := told_ok gO 0 19 4 (listOf (fun i => often F (orderList[i]?.getD 0)) 19) w6 (CntAt.nums hcO) (by rw [listOf_length]; omega) (by rw [listOf_length]; omega) (by rw [listOf_length]; omega)
 rw [listOf_length] at htd
 have HTD := hide htd
 have HCO := hide hcO
 have HW6 := hide ((unhide HW5).trans hst6)
 have HS6 := hide hst6
 have hz5 := (unhide HW5).size
 clear htd hcO hst6 HOR HW5
 go_wp2_with fail
 refine (unhide HTD).mono ?_
 rintro e w7 ⟨c, rfl, c1, c2, cz, cm9, hst7⟩
 have plan : Plan w w7 L1 L2 a b c gm cm gF gO F l := by
  obtain ⟨hmk, hgm⟩ := unhide HMK
  obtain ⟨hF, hFl⟩ := unhide HFF
  have h47 := (unhide HW6).trans hst7
  refine ⟨⟨a1, a2, unhide HAZ, b1, b2, unhide HBZ, ?_, hF, c1, c2, fun i hi hi2 => ?_, unhide HAM, unhide HBM, fun h9 => by have h8 := cm9 h9; rw [listOf_get _ _ _ (by omega)] at h8; exact h8⟩, hmk.step h47 (fun y => y), ⟨by omega, by have := h47.size; omega⟩, ?_, by omega, RowAt.step (unhide HCO) hst7 (fun y => y), by omega, (unhide HW4).trans h47, by have := unhide HNL; omega⟩
  ·obtain ⟨hr1, hr2⟩ := unhide HROW
   have := unhide HTL
   rw [hr1] at this
   exact this
  ·have h9 := cz i hi
   rw [listOf_get _ _ _ hi2] at h9
   exact h9
  ·exact RowAt.step (RowAt.step (unhide HCF) (unhide HS6) (fun y => y)) hst7 (fun y => y)
 have HPL := hide plan
 clear plan cz cm9 hst7 HS6 HTD HCO HW6 HCF HFF HTL HMK HW4 HO HROW HN1 HN2 HLL HAZ HBZ HAM HBM
 have hsk7 := (unhide HH).step0 (unhide HPL).st
 have hwr7 : Wrt k w v w7 v := (Wrt.refl k w v).step0 (unhide HPL).st
 have hzz := (unhide HPL).st.size
 have ea : (a : Int) - 257 = ((a - 257 : Nat) : Int) := by omega
 have eb : (b : Int) - 1 = ((b - 1 : Nat) : Int) := by omega
 have ec : (c : Int) - 4 = ((c - 4 : Nat) : Int) := by omega
 have k1 := skNum k base (a - 257) 5 v bs w7 hsk7 (by omega) (by omega) (by omega) (by omega)
 rw [← ea] at k1
 have K1 := hide k1
 have HWR := hide hwr7
 have EB := hide eb
 have EC := hide ec
 have oO := (unhide HH).off (unhide HPL).gOl
 have oF := (unhide HH).off (unhide HPL).gFl
 have oM := (unhide HH).off (unhide HPL).gml.1
 have HOF := hide (And.intro oO (And.intro oF oM))
 clear ea eb ec k1 hsk7 hwr7 HH oO oF oM
 go_wp2_with fail
 refine (unhide K1).mono ?_
 rintro e w8 ⟨rfl, v8, hsk8, hwr8⟩
 have hz8 := hwr8.step.size
 have k2 := skNum k base (b - 1) 5 v8 (bs ++ numBits (a - 257) 5) w8 hsk8 (by omega) (by omega) (by simp [numBits_length]; omega) (by omega)
 rw [← unhide EB] at k2
 have K2 := hide k2
 have HWR8 := hide hwr8
 clear k2 hsk8 hwr8 K1 EB
 go_wp2_with fail
 refine (unhide K2).mono ?_
 rintro e w9 ⟨rfl, v9, hsk9, hwr9⟩
 have k3 := skNum k base (c - 4) 4 v9 (bs ++ numBits (a - 257) 5 ++ numBits (b - 1) 5) w9 hsk9 (by omega) (by omega) (by simp [numBits_length]; omega) (by have := hwr9.step.size; omega)
 rw [← unhide EC] at k3
 have K3 := hide k3
 have HWR9 := hide ((unhide HWR8).trans hwr9)
 clear k3 hsk9 hwr9 K2 EC HWR8
 go_wp2_with fail
 refine (unhide K3).mono ?_
 rintro e w10 ⟨rfl, v10, hsk10, hwr10⟩
 have hwr70 := (unhide HWR9).trans hwr10
 obtain ⟨bs0, hbs0⟩ : ∃ l, l = bs ++ numBits (a - 257) 5 ++ numBits (b - 1) 5 ++ numBits (c - 4) 4 := ⟨_, rfl⟩
 rw [← hbs0] at hsk10
 have hbl0 : bs0.length = bs.length + 14 := by rw [hbs0]; simp [numBits_length]
 have HSK := hide (show Sk w10 k base v10 (bs0 ++ firstsB F 0) by simpa [firstsB] using hsk10)
 have HWR10 := hide hwr70
 have HBS := hide hbs0
 clear hsk10 hwr10 K3 HWR9 hwr70 hbs0
 go_wp2_with fail
 go_loopg [45] c (fun kx u45 wr => ∃ (i : Nat) (v1 : Value), u45 = .int .i64 (i : Nat) ∧ i ≤ c ∧ kx = c - i ∧ Hid (Sk wr k base v1 (bs0 ++ firstsB F i)) ∧ Hid (Wrt k w7 v wr v1))
 case atStart => exact ⟨0, v10, rfl, by omega, rfl, HSK, HWR10⟩
 case round =>
  clear HSK HWR10
  obtain ⟨i, v1, rfl, hic, hkx, HSK, HW1⟩ := hrel
  obtain ⟨oO, oF, oM⟩ := unhide HOF
  have hz1 := (unhide HW1).step.size
  by_cases hlt : i < c
  ·have hltz : (i : Int) < (c : Int) := by omega
   have cO := RowAt.cell (RowAt.wrt (unhide HPL).od oO (unhide HW1)) i (by omega)
   dsimp only at cO
   have hF7 : often F (orderList[i]?.getD 0) ≤ 7 := by
    have hc9 := (unhide HPL).cod
    rw [hc9.fs]
    exact lensOf_le _ _ _ (by omega) (by rw [cntM_length]; decide)
   obtain ⟨y, hy⟩ : ∃ y, y = often F (orderList[i]?.getD 0) := ⟨_, rfl⟩
   rw [← hy] at cO hF7
   have kk := skNum k base y 3 v1 (bs0 ++ firstsB F i) wr (unhide HSK) (by omega) (by omega) (by rw [List.length_append, firstsB_length]; omega) (by omega)
   have ei : ((i : Int)).toNat = i := by omega
   have pi : (0 : Int) ≤ (i : Int) := by omega
   have KK := hide kk
   have HY := hide hy
   clear kk hy oO oF oM HSK
   go_wp2_with (go_at_call 93; refine (unhide KK).mono ?_; rintro e w11 ⟨rfl, v11, hsk11, hwr11⟩)
   go_roundg (c - (i + 1))
   case measure => omega
   case rel => exact ⟨i + 1, v11, by go_num, by omega, rfl, (by rw [firstsB_succ, ← List.append_assoc, ← unhide HY]; exact hsk11 : Sk w11 k base v11 (bs0 ++ firstsB F (i + 1))), (unhide HW1).trans hwr11⟩
  ·have hltz : ¬ (i : Int) < (c : Int) := by omega
   have hicc : i = c := by omega
   subst hicc
   have hFl : F.length = 19 := by rw [(unhide HPL).cod.fs, lensOf_length, cntM_length]
   have hF7 : ∀ j : Nat, F[j]?.getD 0 ≤ 15 := fun j => by
    have h9 : often F j ≤ 7 := by
     rw [(unhide HPL).cod.fs]
     exact lensOf_le _ _ _ (by omega) (by rw [cntM_length]; decide)
    have e9 : F[j]?.getD 0 = often F j := rfl
    omega
   have hcF := RowAt.wrt (unhide HPL).fl oF (unhide HW1)
   have hint : Ints wr gF 0 F := ⟨fun j hj => by rw [Nat.zero_add]; exact RowAt.cell hcF j (by omega), hF7, by omega⟩
   have hcod : ∀ x ∈ l, HasCode F x.s := fun x hx => by
    have hc9 := (unhide HPL).cod
    have hx18 := (hc9.tells.sym x hx).1
    have hm9 := marks_may hx (by omega)
    rw [← hc9.fs] at hm9
    refine hasCode_may hF7 hm9.1 (by omega) ?_
    exact hm9.2
   obtain ⟨x0, hx0⟩ : ∃ x, x ∈ l := by
    have hN := unhide HNL
    cases l with
    | nil => simp at hN; omega
    | cons x l => exact ⟨x, by simp⟩
   have hmay : mayB F = true := by
    have hm9 := marks_may hx0 (by have := ((unhide HPL).cod.tells.sym x0 hx0).1; omega)
    rw [← (unhide HPL).cod.fs] at hm9
    exact hm9.1
   have kb := newBook_ok gF 0 19 F wr hint hcF.lt (keysBd_may hF7 hmay) (by omega)
   rw [hFl] at kb
   have KB := hide kb
   have HCOD := hide hcod
   have HFL := hide hFl
   clear kb hcod hFl hF7 hcF hint hmay hx0 oO oF oM
   go_wp2_with fail
   refine (unhide KB).mono ?_
   rintro e w12 ⟨gb, rfl, hgb, hbk, hst12⟩
   have hbA : BookAt w12 gb F := by unfold BookAt; rw [unhide HFL]; exact hbk
   obtain ⟨oO, oF, oM⟩ := unhide HOF
   have hoM := oM.wrt (unhide HPL).gml.2 (unhide HW1)
   have hoB := (unhide HSK).off hgb
   have hmk1 : MksAt w12 gm l := ((unhide HPL).mks.step (unhide HW1).step (fun y => y.elim oM.1 oM.2)).step hst12 (fun y => y)
   have hsk12 := (unhide HSK).step0 hst12
   have hwr12 := (unhide HW1).step0 hst12
   obtain ⟨bs1, hbs1⟩ : ∃ l, l = bs0 ++ firstsB F i := ⟨_, rfl⟩
   rw [← hbs1] at hsk12
   have hbl1 : bs1.length ≤ bs.length + 100 := by rw [hbs1, List.length_append, firstsB_length]; omega
   have hz12 := hst12.size
   have hgml := (unhide HPL).gml.2
   have HBS1 := hide hbs1
   have HBK := hide (And.intro hbA (And.intro hmk1 (And.intro hoM hoB)))
   have HSK12 := hide (show Sk w12 k base v1 (bs1 ++ marksB F (l.take 0)) by simpa [marksB] using hsk12)
   have HWR12 := hide hwr12
   clear hbA oO oF oM hoM hoB hmk1 hsk12 hwr12 hbs1 hbk hst12 KB HSK HW1
   go_wp2_with fail
   go_loopg [57] N (fun kx u57 wq => ∃ (t : Nat) (v2 : Value), u57 = .int .i64 (t : Nat) ∧ t ≤ N ∧ kx = N - t ∧ Hid (Sk wq k base v2 (bs1 ++ marksB F (l.take t))) ∧ Hid (Wrt k w12 v1 wq v2))
   case atStart => exact ⟨0, v1, rfl, by omega, rfl, HSK12, Wrt.refl _ _ _⟩
   case round =>
    clear HSK12
    obtain ⟨t, v2, rfl, htN, hkx2, HSK, HW2⟩ := hrel
    have hz2 := (unhide HW2).step.size
    by_cases hlt2 : t < N
    ·have hlt2z : (t : Int) < (N : Int) := by omega
     obtain ⟨x, hx⟩ : ∃ x, l[t]? = some x := ⟨_, List.getElem?_eq_getElem (by have := unhide HNL; omega)⟩
     have hxm := List.mem_of_getElem? hx
     obtain ⟨hbA, hmk1, hoM, hoB⟩ := unhide HBK
     obtain ⟨m0, m1, m2⟩ := hmk1.step (unhide HW2).step (fun y => y.elim hoM.1 hoM.2) t x hx
     have hcx := unhide HCOD x hxm
     obtain ⟨q1, q2, q3⟩ := (unhide HPL).cod.tells.sym x hxm
     have hbq : BookAt wr gb F := (unhide HW2).step.at_ hbA (fun y => y.elim hoB.1 hoB.2)
     obtain ⟨o9, ho9⟩ : ∃ o : Obj, o = .cells #[.int .i64 (x.s : Nat), .int .i64 (x.x : Nat), .int .i64 (x.m : Nat)] 175 := ⟨_, rfl⟩
     have hcell := BookAt.cell (show BookAt (wr.alloc o9) gb F from (Below.heap_alloc _ _ _ (lt_of_block hbq)).trans hbq) hcx
     have hmb : (marksB F (l.take t)).length ≤ 22 * t := by
      have h15 : ∀ j : Nat, F[j]?.getD 0 ≤ 15 := fun j => by
       have h9 : often F j ≤ 7 := by
        rw [(unhide HPL).cod.fs]
        exact lensOf_le _ _ _ (by omega) (by rw [cntM_length]; decide)
       have e9 : F[j]?.getD 0 = often F j := rfl
       omega
      have h9 := marksB_len h15 (l.take t) (fun q hq => ((unhide HPL).cod.tells.sym q (List.mem_of_mem_take hq)).2.2)
      rw [List.length_take] at h9
      omega
     have hxm6 : x.x < 1000000 := by
      have : 2 ^ x.m ≤ 2 ^ 7 := Nat.pow_le_pow_right (by omega) q3
      have e7 : (2 : Nat) ^ 7 = 128 := rfl
      omega
     have kk := markWrite_ok k base gb 0 19 19 x.s (Go.Bel.keyOf F x.s) (F[x.s]?.getD 0) x.x x.m v2 (bs1 ++ marksB F (l.take t)) (wr.alloc o9) ((unhide HSK).step0 ((Step.refl _ _).alloc _)) hcell (by omega) hcx.lo hcx.hi hcx.le hxm6 (by omega) (by rw [List.length_append]; omega) (by simp; omega)
     rw [ho9] at kk
     have hbits : bs1 ++ marksB F (l.take t) ++ codeBits (Go.Bel.keyOf F x.s - 2 ^ (F[x.s]?.getD 0)) (F[x.s]?.getD 0) ++ numBits x.x x.m = bs1 ++ marksB F (l.take (t + 1)) := by
      rw [marksB_snoc hx]
      unfold codeB
      simp
     rw [hbits] at kk
     have KK := hide kk
     have et : ((t : Int)).toNat = t := by omega
     have pt : (0 : Int) ≤ (t : Int) := by omega
     obtain ⟨xs, hxs⟩ : ∃ s, s = x.s := ⟨_, rfl⟩
     obtain ⟨xx, hxx⟩ : ∃ s, s = x.x := ⟨_, rfl⟩
     obtain ⟨xm, hxm9⟩ : ∃ s, s = x.m := ⟨_, rfl⟩
     rw [← hxs, ← hxx, ← hxm9] at KK
     rw [← hxs] at m0
     rw [← hxx] at m1
     rw [← hxm9] at m2
     have hgmw : gm < wr.heap.size := by omega
     clear kk hbits hx hxm hbA hmk1 hoM hoB hcx q1 q2 q3 hbq ho9 hcell hmb hxm6 hxs hxx hxm9 HSK
     go_wp2_with (go_at_call 129; refine (unhide KK).mono ?_; rintro e w13 ⟨rfl, v13, hsk13, hwr13⟩)
     go_roundg (N - (t + 1))
     case measure => omega
     case rel => exact ⟨t + 1, v13, by go_num, by omega, rfl, hsk13, (unhide HW2).trans ((Wrt.refl k wr v2).alloc _ |>.trans hwr13)⟩
    ·have hlt2z : ¬ (t : Int) < (N : Int) := by omega
     have htN2 : t = N := by omega
     subst htN2
     have hfin : Sk wr k base v2 (bs ++ codingB a b i F l) := by
      have h9 := unhide HSK
      rw [unhide HNL, List.take_length, unhide HBS1, unhide HBS] at h9
      unfold codingB
      simpa using h9
     have HFIN := hide hfin
     clear hfin HSK
     go_wp2_with fail
     go_end0
     exact ⟨rfl, v2, a, b, i, F, l, unhide HFIN, (unhide HPL).cod, ((unhide HWR).trans (unhide HWR12)).trans (unhide HW2)⟩
end Go.Proofs.YtbpahojchgpdnaaGreatDoor
namespace Go.Proofs.YtbpahojchgpdnaaGreatDoor
open Go.RowKit Go.Shelf Go.Lib Go.Sort Go.Bel
def SuitP (w : World) (ps : List Pc) (e : Ending) (w' : World) : Prop := ∃ g1 g2 f1 f2, e = .returned (.tuple #[.slice (some ⟨g1, 0, none⟩) 286 286, .slice (some ⟨g2, 0, none⟩) 30 30]) ∧ Suits ps ps.length f1 f2 ∧
      w.heap.size ≤ g1 ∧ w.heap.size ≤ g2 ∧ CntAt w' g1 286 (often (lensOf (listOf f1 286) 15)) ∧ CntAt w' g2 30 (often (lensOf (listOf f2 30) 15)) ∧ Step (fun _ => False) w w'
theorem suited_nil (w : World) : Calls Tryz.prog 164 #[.slice none 0 0] w (SuitP w []) := by
 unfold SuitP
 obtain ⟨i0, hi, hz0, hz1, hz2⟩ := info_parts Tryz.info3
 go_enter Tryz.func164, Tryz.ntmps164
 go_wp2_with (first
  | (at_make; refine wpList_make_full _ rfl _ _ 57 rfl w.heap.size 3 i0 (.int .i64 0) 1 Tryz.underlying57 hi hz0 hz1 .i64 .i64 _ _ 286 rfl rfl rfl rfl (by rw [hz2]; omega) (by unfold maxLen; omega) (Nat.le_refl _) ?_; intro w1 hown1 hgr1; have hst1 := (Step.refl (fun _ => False) w).grown hgr1 (fun k e => by cases e); have hc1 := cnt_made hown1; have HC1 := hide hc1; have HST1 := hide hst1; have lt1 := hc1.lt; have cw := hc1.cell 256 (by decide); have fw := hc1.free 256; clear hown1 hgr1 hc1 hst1)
  | (at_make; refine wpList_make_full _ rfl _ _ 57 rfl w1.heap.size 3 i0 (.int .i64 0) 1 Tryz.underlying57 hi hz0 hz1 .i64 .i64 _ _ 30 rfl rfl rfl rfl (by rw [hz2]; omega) (by unfold maxLen; omega) (Nat.le_refl _) ?_; intro w2 hown2 hgr2; have hst2 := (Step.refl (fun _ => False) w1).grown hgr2 (fun k e => by cases e); have hc2 := cnt_made hown2; have HC2 := hide hc2; have HST2 := hide hst2; have cw2 := hst2.cell cw (fun y => y); have fw2 := ((unhide HC1).step hst2 (fun y => y)).free 256; clear hown2 hgr2 hc2 hst2))
 obtain ⟨R1, hR1⟩ : ∃ R, R = w.heap.size := ⟨_, rfl⟩
 obtain ⟨R2, hR2⟩ : ∃ R, R = w1.heap.size := ⟨_, rfl⟩
 rw [← hR1] at HC1 lt1 ⊢
 rw [← hR2] at HC2 lt1 ⊢
 have hs0 : Suits [] 0 (fun i => if i = 256 then 1 else 0) (fun _ => 0) := ⟨by simp, fun p hp => by simp at hp, fun i => by split <;> omega, fun i => by omega, .nil⟩
 have ha0 : CntAt (w2.setCell ⟨R1, 256, none⟩ (.int .i64 1)) R1 286 (fun i => if i = 256 then 1 else 0) := by
  refine (((unhide HC1).step (unhide HST2) (fun y => y)).set 256 (.int .i64 1)).congr (fun i hi => ?_)
  by_cases e : i = 256
  ·simp [e]
  ·simp [e]
 have hb0 : CntAt (w2.setCell ⟨R1, 256, none⟩ (.int .i64 1)) R2 30 (fun _ => 0) := (unhide HC2).other (by show R2 ≠ R1; omega) _
 have hst0 : Step (fun _ => False) w (w2.setCell ⟨R1, 256, none⟩ (.int .i64 1)) := ((unhide HST1).trans (unhide HST2)).setNew (by show w.heap.size ≤ R1; omega) _
 have HS0 := hide hs0
 have HA0 := hide ha0
 have HB0 := hide hb0
 have HT0 := hide hst0
 have HR1 := hide hR1
 clear hs0 ha0 hb0 hst0 hR1 hR2 HC1 HC2 HST1 HST2 cw fw cw2 fw2
 go_loopg [14] 0 (fun kx u14 wr => u14 = .int .i64 0 ∧ Hid (CntAt wr R1 286 (fun i => if i = 256 then 1 else 0)) ∧ Hid (CntAt wr R2 30 (fun _ => 0)) ∧ Hid (Step (fun _ => False) w wr))
 case atStart => exact ⟨rfl, HA0, HB0, HT0⟩
 case round =>
  clear HA0 HB0 HT0
  obtain ⟨rfl, HC1, HC2, HST⟩ := hrel
  have hl1 := lengths_ok R1 0 286 15 (listOf (fun i => if i = 256 then 1 else 0) 286) wr (CntAt.nums (unhide HC1)) (by rw [listOf_length]; omega) (by rw [listOf_length]; omega) (fun i => by have := listOf_le (n := 286) (unhide HS0).le1 i; omega) (by omega) (by omega) (by rw [listOf_length]; decide)
  rw [listOf_length] at hl1
  have hl2 := fun (W : World) (hs : Step (fun _ => False) wr W) => lengths_ok R2 0 30 15 (listOf (fun _ => 0) 30) W ((CntAt.nums (unhide HC2)).step hs (fun y => y)) (by rw [listOf_length]; omega) (by rw [listOf_length]; omega) (fun i => by have := listOf_le (n := 30) (unhide HS0).le2 i; omega) (by omega) (by omega) (by rw [listOf_length]; decide)
  rw [listOf_length] at hl2
  have HL1 := hide hl1
  have HL2 := hide hl2
  have hz := (unhide HST).size
  clear hl1 hl2
  go_wp2_with (first
   | (go_at_call_of 183 R1; refine (unhide HL1).mono ?_; rintro e w5 ⟨g1, rfl, hg1, hcl1, hst5⟩)
   | (go_at_call_of 183 R2; refine (unhide HL2 _ hst5).mono ?_; rintro e w6 ⟨g2, rfl, hg2, hcl2, hst6⟩))
  go_ret2
  exact ⟨g1, g2, _, _, rfl, unhide HS0, by omega, by have := hst5.size; omega, RowAt.step hcl1 hst6 (fun y => y), hcl2, ((unhide HST).trans hst5).trans hst6⟩
def PcFine (p : Pc) : Prop := (p.l = 0 ∧ p.b < 256) ∨ (3 ≤ p.l ∧ p.l ≤ 258 ∧ 1 ≤ p.d ∧ p.d ≤ 32768)
theorem suited_ok (pv : Value) (ps : List Pc) (w : World) (hp : PcsIn w pv ps) (hpl : ps.length ≤ 100000) (hok : ∀ p ∈ ps, PcFine p) : Calls Tryz.prog 164 #[pv] w (SuitP w ps) := by
 rcases hp with ⟨rfl, rfl⟩ | ⟨j, off, cap, rfl, h2, h3⟩
 ·exact suited_nil w
 ·exact suited_some j off cap ps w h3 h2 hpl hok
structure Fits (ps : List Pc) (L1 L2 : List Nat) : Prop where
 l1 : L1.length = 286
 l2 : L2.length = 30
 le1 : ∀ i, often L1 i ≤ 15
 le2 : ∀ i, often L2 i ≤ 15
 may1 : mayB L1 = true
 far2 : (∀ i, often L2 i = 0) ∨ mayB L2 = true
 end_ : HasCode L1 256
 need : ∀ p ∈ ps, Needs L1 L2 p ∧ (p.l ≠ 0 → mayB L2 = true)
 is_ : ∃ f1 f2, Cnt ps f1 f2 ∧ L1 = lensOf (listOf f1 286) 15 ∧ L2 = lensOf (listOf f2 30) 15
theorem often_def (L : List Nat) (i : Nat) : L[i]?.getD 0 = often L i := rfl
theorem Suits.fits {ps : List Pc} {f1 f2 : Nat → Nat} (h : Suits ps ps.length f1 f2) (hok : ∀ p ∈ ps, PcFine p) : Fits ps (lensOf (listOf f1 286) 15) (lensOf (listOf f2 30) 15) := by
 have e1 : (listOf f1 286).length = 286 := listOf_length _ _
 have e2 : (listOf f2 30).length = 30 := listOf_length _ _
 have b1 : (listOf f1 286).length ≤ 2 ^ 15 := by rw [e1]; decide
 have b2 : (listOf f2 30).length ≤ 2 ^ 15 := by rw [e2]; decide
 have c1 : ∀ s, s < 286 → 1 ≤ f1 s → s ∈ comes (listOf f1 286) (listOf f1 286).length := fun s hs h1 => by
  rw [comes_mem, e1, listOf_get _ _ _ hs]; exact ⟨hs, h1⟩
 have c2 : ∀ s, s < 30 → 1 ≤ f2 s → s ∈ comes (listOf f2 30) (listOf f2 30).length := fun s hs h1 => by
  rw [comes_mem, e2, listOf_get _ _ _ hs]; exact ⟨hs, h1⟩
 have le1 : ∀ i, often (lensOf (listOf f1 286) 15) i ≤ 15 := fun i => lensOf_le _ _ _ (by omega) b1
 have le2 : ∀ i, often (lensOf (listOf f2 30) 15) i ≤ 15 := fun i => lensOf_le _ _ _ (by omega) b2
 have m1 : mayB (lensOf (listOf f1 286) 15) = true := lensOf_may _ 15 (by omega) (by omega) b1 (List.length_pos_of_mem (c1 256 (by omega) h.end_))
 have m2 : ∀ s, s < 30 → 1 ≤ f2 s → mayB (lensOf (listOf f2 30) 15) = true := fun s hs h1 => lensOf_may _ 15 (by omega) (by omega) b2 (List.length_pos_of_mem (c2 s hs h1))
 have k1 : ∀ s, s < 286 → 1 ≤ f1 s → HasCode (lensOf (listOf f1 286) 15) s := fun s hs h1 => hasCode_may le1 m1 (by rw [lensOf_length, e1]; exact hs) (lensOf_some (by omega) b1 (c1 s hs h1))
 have k2 : ∀ s, s < 30 → 1 ≤ f2 s → HasCode (lensOf (listOf f2 30) 15) s := fun s hs h1 => hasCode_may le2 (m2 s hs h1) (by rw [lensOf_length, e2]; exact hs) (lensOf_some (by omega) b2 (c2 s hs h1))
 refine ⟨by rw [lensOf_length, e1], by rw [lensOf_length, e2], le1, le2, m1, ?_, k1 256 (by omega) h.end_, fun p hp => ?_, f1, f2, by have h9 := h.is_; rw [List.take_length] at h9; exact h9, rfl, rfl⟩
 ·rcases Nat.eq_zero_or_pos (comes (listOf f2 30) (listOf f2 30).length).length with h0 | h0
  ·refine .inl (fun i => lensOf_none (fun hi => ?_))
   rw [List.eq_nil_of_length_eq_zero h0] at hi
   simp at hi
  ·exact .inr (lensOf_may _ 15 (by omega) (by omega) b2 h0)
 ·have hc := h.cnt p (by rw [List.take_length]; exact hp)
  have ho := hok p hp
  rcases hc with ⟨a, b⟩ | ⟨a, s, x, m, s2, x2, m2', b, c, d, e⟩
  ·have hb : p.b < 256 := by rcases ho with ho | ho <;> omega
   exact ⟨.inl ⟨a, hb, k1 p.b (by omega) b⟩, fun y => absurd a y⟩
  ·have ho2 : 3 ≤ p.l ∧ p.l ≤ 258 ∧ 1 ≤ p.d ∧ p.d ≤ 32768 := by rcases ho with ho | ho <;> omega
   have hb := b.bd
   have hd := d.bd
   refine ⟨.inr ⟨ho2.1, ho2.2.1, ho2.2.2.1, ho2.2.2.2, fun s' x' m'' h' => ?_, fun s' x' m'' h' => ?_⟩, fun _ => m2 s2 hd.2.2 e⟩
   ·rw [← lenM_one b h']; exact k1 s (by omega) c
   ·rw [← distM_one d h']; exact k2 s2 hd.2.2 e
end Go.Proofs.YtbpahojchgpdnaaGreatDoor
namespace Go.Proofs.YtbpahojchgpdnaaGreatDoor
open Go.RowKit Go.Shelf Go.Lib Go.Sort Go.Bel
def ToldB (last : Bool) (ps : List Pc) (tb : List Bool) : Prop := ∃ L1 L2 a b c F l bits, Fits ps L1 L2 ∧ Codes L1 L2 a b c F l ∧ PcsBits L1 L2 ps bits ∧ bits.length ≤ 48 * ps.length ∧ tb = beginBits last 2 ++ codingB a b c F l ++ bits ++ codeB L1 256
theorem codingB_len {L1 L2 : List Nat} {a b c : Nat} {F : List Nat} {l : List Mk} (h : Codes L1 L2 a b c F l) : (codingB a b c F l).length ≤ 10000 := by
 have h15 : ∀ j : Nat, F[j]?.getD 0 ≤ 15 := fun j => by
  have h9 : often F j ≤ 7 := by
   rw [h.fs]
   exact lensOf_le _ _ _ (by omega) (by rw [cntM_length]; decide)
  rw [often_def]; omega
 have h1 := marksB_len h15 l (fun q hq => (h.tells.sym q hq).2.2)
 have h2 := h.tells.count
 have h3 := h.a2
 have h4 := h.b2
 have h5 := h.c2
 unfold codingB
 simp only [List.length_append, numBits_length, firstsB_length]
 omega
theorem toldBlock_ok (k base : Nat) (last : Bool) (v pv : Value) (bs : List Bool) (ps : List Pc) (w : World) (h : Sk w k base v bs) (hp : PcsIn w pv ps) (hpo : ∀ j off n c, pv = .slice (some ⟨j, off, none⟩) n c → Off k v j) (hpl : ps.length ≤ 100000) (hok : ∀ p ∈ ps, PcFine p) (hO : OrderAt w) (hOk : ∀ j, j < 4 → Off k v j) (hl : bs.length < 50000000000000) (hbase : base ≤ w.heap.size) :
  Calls Tryz.prog 137 #[.pointer (some ⟨k, 0, none⟩), pv, .bool last] w
   fun e w' => e = .returned (.tuple #[]) ∧ ∃ v' tb, Sk w' k base v' (bs ++ tb) ∧ ToldB last ps tb ∧ Wrt k w v w' v' := by
 have hsu := suited_ok pv ps w hp hpl hok
 have HSU := hide hsu
 have HH := hide h
 have HP := hide hp
 have HPO := hide hpo
 have HOK := hide hok
 have HO := hide (And.intro hO hOk)
 obtain ⟨pa, pn, pc, rfl⟩ : ∃ a n c, pv = .slice a n c := by
  rcases hp with ⟨_, h⟩ | ⟨j', off', cap, h, _⟩
  ·exact ⟨_, _, _, h⟩
  ·exact ⟨_, _, _, h⟩
 clear hsu h hp hpo hok hO hOk
 go_enter Tryz.func137, Tryz.ntmps137
 go_wp2_with fail
 refine (unhide HSU).mono ?_
 rintro e w1 ⟨g1, g2, f1, f2, rfl, hsu, hg1, hg2, hc1, hc2, hst1⟩
 have hfit := hsu.fits (unhide HOK)
 obtain ⟨L1, hL1⟩ : ∃ L, L = lensOf (listOf f1 286) 15 := ⟨_, rfl⟩
 obtain ⟨L2, hL2⟩ : ∃ L, L = lensOf (listOf f2 30) 15 := ⟨_, rfl⟩
 rw [← hL1, ← hL2] at hfit
 rw [← hL1] at hc1
 rw [← hL2] at hc2
 have hsk1 := (unhide HH).step0 hst1
 have hz1 := hst1.size
 have kh := writeHead_ok k base 2 last v bs w1 hsk1 (by omega) (by omega) (by omega)
 have KH := hide kh
 have HFIT := hide hfit
 have HC := hide (And.intro hc1 hc2)
 have HST1 := hide hst1
 clear kh hfit hc1 hc2 hst1 hL1 hL2 hsu hsk1 HSU
 go_wp2_with fail
 refine (unhide KH).mono ?_
 rintro e w2 ⟨rfl, v2, hsk2, hwr2⟩
 have o1 := (unhide HH).off hg1
 have o2 := (unhide HH).off hg2
 obtain ⟨hc1, hc2⟩ := unhide HC
 have hd1 := RowAt.wrt hc1 o1 hwr2
 have hd2 := RowAt.wrt hc2 o2 hwr2
 have o1' := o1.wrt hc1.lt hwr2
 have o2' := o2.wrt hc2.lt hwr2
 have hfit := unhide HFIT
 have hn1 : NumsIn w2 g1 0 L1 := fun i hi => by rw [Nat.zero_add]; exact RowAt.cell hd1 i (by rw [hfit.l1] at hi; exact hi)
 have hn2 : NumsIn w2 g2 0 L2 := fun i hi => by rw [Nat.zero_add]; exact RowAt.cell hd2 i (by rw [hfit.l2] at hi; exact hi)
 have hz2 := hwr2.step.size
 have hO2 : OrderAt w2 := ((unhide HO).1.step (unhide HST1) (fun _ _ y => y)).step hwr2.step (fun j hj y => by
  have o := (unhide HO).2 j hj
  exact y.elim o.1 o.2)
 have kc := writeCoding_ok k base g1 g2 v2 (bs ++ beginBits last 2) L1 L2 w2 hsk2 hn1 hn2 hfit.l1 hfit.l2 hfit.le1 hfit.le2 hO2 (by rw [List.length_append, beginBits_length]; omega) (by omega)
 have KC := hide kc
 have HD := hide (And.intro hd1 (And.intro hd2 (And.intro o1' o2')))
 have HW2 := hide (((Wrt.refl k w v).step0 (unhide HST1)).trans hwr2)
 clear kc o1 o2 hc1 hc2 hd1 hd2 o1' o2' hfit hn1 hn2 hO2 hsk2 hwr2 KH HC
 go_wp2_with fail
 refine (unhide KC).mono ?_
 rintro e w3 ⟨rfl, v3, a, b, c, F, l, hsk3, hcod, hwr3⟩
 obtain ⟨hd1, hd2, o1, o2⟩ := unhide HD
 have hfit := unhide HFIT
 have he1 := RowAt.wrt hd1 o1 hwr3
 have he2 := RowAt.wrt hd2 o2 hwr3
 have hi1 : Ints w3 g1 0 L1 := ⟨fun i hi => by rw [Nat.zero_add]; exact RowAt.cell he1 i (by rw [hfit.l1] at hi; exact hi), hfit.le1, by rw [hfit.l1]; omega⟩
 have hi2 : Ints w3 g2 0 L2 := ⟨fun i hi => by rw [Nat.zero_add]; exact RowAt.cell he2 i (by rw [hfit.l2] at hi; exact hi), hfit.le2, by rw [hfit.l2]; omega⟩
 have hz3 := hwr3.step.size
 have hk2 : KeysBd L2 := by
  rcases hfit.far2 with h0 | h0
  ·exact keysBd_none h0
  ·exact keysBd_may hfit.le2 h0
 have kb := newBooks_ok g1 0 286 g2 0 30 L1 L2 w3 hi1 hi2 he1.lt he2.lt (keysBd_may hfit.le1 hfit.may1) hk2 (by rw [hfit.l1]; omega) (by rw [hfit.l2]; omega)
 rw [hfit.l1, hfit.l2] at kb
 have KB := hide kb
 have HSK3 := hide hsk3
 have HCOD := hide hcod
 have HW3 := hide ((unhide HW2).trans hwr3)
 clear kb hd1 hd2 o1 o2 he1 he2 hi1 hi2 hk2 hfit hsk3 hcod hwr3 KC HD HW2
 go_wp2_with fail
 refine (unhide KB).mono ?_
 rintro e w4 ⟨b1, b2, rfl, hb1, hb2, hbk1, hbk2, hst4⟩
 have hfit := unhide HFIT
 have hsk4 := (unhide HSK3).step0 hst4
 have hz4 := hst4.size
 have hw4 : Wrt k w v w4 v3 := (unhide HW3).step0 hst4
 have hpin : PcsIn w4 (.slice pa pn pc) ps := by
  rcases unhide HP with h | ⟨j, off, cap, h1, h2, h3⟩
  ·exact .inl h
  ·have oj := unhide HPO j off _ cap h1
   refine .inr ⟨j, off, cap, h1, by omega, fun i p hp => ?_⟩
   obtain ⟨q1, q2, q3⟩ := h3 i p hp
   have nj : ¬ (j = k ∨ v.ownBlock = some j) := fun y => y.elim oj.1 oj.2
   exact ⟨hw4.step.cell (p := ⟨j, _, none⟩) q1 nj, hw4.step.cell (p := ⟨j, _, none⟩) q2 nj, hw4.step.cell (p := ⟨j, _, none⟩) q3 nj⟩
 have hpo4 : ∀ j off n c, Value.slice pa pn pc = .slice (some ⟨j, off, none⟩) n c → Off k v3 j := fun j off n c e => by
  have hjl : j < w.heap.size := by
   rcases unhide HP with ⟨_, h⟩ | ⟨j', off', cap, h, h2, _⟩
   ·rw [e] at h; cases h
   ·rw [e] at h
    simp only [Value.slice.injEq, Option.some.injEq, Addr.mk.injEq, and_true] at h
    rw [h.1.1]; exact h2
  exact (unhide HPO j off n c e).wrt hjl hw4
 have kp := writePieces_any k base b1 b2 v3 (.slice pa pn pc) (bs ++ beginBits last 2 ++ codingB a b c F l) ps L1 L2 w4 hsk4 hpin hpo4 hbk1 hbk2 ((unhide HSK3).off hb1) ((unhide HSK3).off hb2) (fun p hp => (hfit.need p hp).1) hfit.end_ (by omega) (by
  have := codingB_len (unhide HCOD)
  rw [List.length_append, List.length_append, beginBits_length]; omega) (by omega)
 rw [hfit.l1, hfit.l2] at kp
 have KP := hide kp
 have HW4 := hide hw4
 clear kp hfit hsk4 hw4 hpin hpo4 hbk1 hbk2 hst4 KB
 go_wp2_with fail
 refine (unhide KP).mono ?_
 rintro e w5 ⟨rfl, v5, bits, hsk5, hpb, hbl, hwr5⟩
 have hfin : ToldB last ps (beginBits last 2 ++ codingB a b c F l ++ bits ++ codeB L1 256) := ⟨L1, L2, a, b, c, F, l, bits, unhide HFIT, unhide HCOD, hpb, hbl, rfl⟩
 have hsk6 : Sk w5 k base v5 (bs ++ (beginBits last 2 ++ codingB a b c F l ++ bits ++ codeB L1 256)) := by simpa using hsk5
 have HFIN := hide (And.intro hsk6 (And.intro hfin ((unhide HW4).trans hwr5)))
 clear hfin hsk6 hsk5 hpb hwr5 KP
 go_wp2_with fail
 go_end0
 exact ⟨rfl, v5, _, (unhide HFIN).1, (unhide HFIN).2.1, (unhide HFIN).2.2⟩
end Go.Proofs.YtbpahojchgpdnaaGreatDoor
namespace Go.Proofs.YtbpahojchgpdnaaGreatDoor
open Go.RowKit Go.Shelf Go.Lib Go.Sort Go.Bel
inductive TolR : List Pc → List Bool → Prop
 | last (ps : List Pc) (tb : List Bool) (h : ps.length ≤ 16384) (ht : ToldB true ps tb) : TolR ps tb
 | more (ps : List Pc) (tb bits : List Bool) (h : 16384 < ps.length) (ht : ToldB false (ps.take 16384) tb) (hr : TolR (ps.drop 16384) bits) : TolR ps (tb ++ bits)
theorem toldB_len {last : Bool} {ps : List Pc} {tb : List Bool} (h : ToldB last ps tb) : tb.length ≤ 10018 + 48 * ps.length := by
 obtain ⟨L1, L2, a, b, c, F, l, bits, h1, h2, h3, h4, rfl⟩ := h
 have h5 := codingB_len h2
 have h6 := h1.le1 256
 rw [List.length_append, List.length_append, List.length_append, beginBits_length, codeB_length, often_def]
 omega
theorem told1_ok (k base box : Nat) (last : Bool) (v pv : Value) (bs : List Bool) (ps : List Pc) (w : World) (h : Sk w k base v bs) (hbox : w.cell? ⟨box, 0, none⟩ = some (.pointer (some ⟨k, 0, none⟩))) (hus : ∃ a n c, pv = .slice a n c) (hp : PcsIn w pv ps) (hpo : ∀ j off n c, pv = .slice (some ⟨j, off, none⟩) n c → Off k v j) (hpl : ps.length ≤ 100000) (hok : ∀ p ∈ ps, PcFine p) (hO : OrderAt w) (hOk : ∀ j, j < 4 → Off k v j) (hl : bs.length < 50000000000000) (hbase : base ≤ w.heap.size) :
  Calls Tryz.prog 136 #[pv, .bool last, .pointer (some ⟨box, 0, none⟩)] w
   fun e w' => e = .returned (.tuple #[]) ∧ ∃ v' tb, Sk w' k base v' (bs ++ tb) ∧ ToldB last ps tb ∧ Wrt k w v w' v' := by
 have HC := hide (toldBlock_ok k base last v pv bs ps w h hp hpo hpl hok hO hOk hl hbase)
 obtain ⟨a, n, c, rfl⟩ := hus
 clear h hp hpo hok hO hOk
 go_enter Tryz.func136, Tryz.ntmps136
 go_wp2_with fail
 refine (unhide HC).mono ?_
 rintro r w1 ⟨rfl, v1, tb, h1, ht, hw1⟩
 have HF := hide (And.intro h1 (And.intro ht hw1))
 clear h1 ht hw1 HC
 go_wp2_with fail
 go_end0
 exact ⟨rfl, v1, tb, unhide HF⟩
structure InT (w wr : World) (k base j o c : Nat) (v v1 : Value) (ps zs : List Pc) (bs b1 : List Bool) : Prop where
 sk : Sk wr k base v1 (bs ++ b1)
 wrt : Wrt k w v wr v1
 lies : PcsLie wr j o zs
 fine : ∀ p ∈ zs, PcFine p
 tol : ∀ rest, TolR zs rest → TolR ps (b1 ++ rest)
 len : b1.length + 100 * zs.length ≤ 100 * ps.length
 cap : zs.length ≤ c
theorem pcsLie_drop {w : World} {j o m : Nat} {zs : List Pc} (h : PcsLie w j o zs) : PcsLie w j (o + m * 3) (zs.drop m) := fun i p hp => by
 rw [List.getElem?_drop] at hp
 obtain ⟨h1, h2, h3⟩ := h (m + i) p hp
 rw [Nat.add_mul, ← Nat.add_assoc] at h1 h2 h3
 exact ⟨h1, h2, h3⟩
theorem pcsLie_take {w : World} {j o m : Nat} {zs : List Pc} (h : PcsLie w j o zs) : PcsLie w j o (zs.take m) := fun i p hp => by
 have hi := (List.getElem?_eq_some_iff.1 hp).1
 rw [List.length_take] at hi
 rw [List.getElem?_take_of_lt (by omega)] at hp
 exact h i p hp
theorem inBlocksT_ok (k base box j off cap : Nat) (v : Value) (bs : List Bool) (ps : List Pc) (w : World) (h : Sk w k base v bs) (hbox : w.cell? ⟨box, 0, none⟩ = some (.pointer (some ⟨k, 0, none⟩))) (hbk : box ≠ k ∧ box < base) (hli : PcsLie w j off ps) (hj : j ≠ k ∧ j < base) (hcap : ps.length ≤ cap) (hfine : ∀ p ∈ ps, PcFine p) (hps : ps.length ≤ 1048576) (hO : OrderAt w) (h4 : 4 ≤ k ∧ 4 ≤ base) (hl : bs.length < 1000) (hbase : base ≤ w.heap.size) :
  Calls Tryz.prog 135 #[.slice (some ⟨j, off, none⟩) ps.length cap, .int .i64 16384, .func (.func 136) #[] #[.pointer (some ⟨box, 0, none⟩)]] w
   fun e w' => e = .returned (.tuple #[]) ∧ ∃ v' bits, Sk w' k base v' (bs ++ bits) ∧ TolR ps bits ∧ bits.length ≤ 200000000 ∧ Wrt k w v w' v' := by
 have HH := hide (show InT w w k base j off cap v v ps ps bs [] from ⟨by rw [List.append_nil]; exact h, Wrt.refl _ _ _, hli, hfine, fun rest hr => hr, by simp, hcap⟩)
 have hob : ∀ b, b ≠ k → b < base → ¬ (b = k ∨ v.ownBlock = some b) := fun b h1 h2 y => by
  rcases y with y | y
  ·exact h1 y
  ·obtain ⟨B1, hB⟩ := h
   have := (hB.own.lt b y).1
   omega
 have hvb : ∀ (wr : World) (v1 : Value), Wrt k w v wr v1 → wr.cell? ⟨box, 0, none⟩ = some (.pointer (some ⟨k, 0, none⟩)) := fun wr v1 hw => hw.step.cell (p := ⟨box, 0, none⟩) hbox (hob box hbk.1 hbk.2)
 have hvo : ∀ (wr : World) (v1 : Value), Wrt k w v wr v1 → OrderAt wr := fun wr v1 hw => hO.step hw.step (fun b hb => hob b (by omega) (by omega))
 have hoff : ∀ (wr : World) (v1 : Value) (b1 : List Bool), Sk wr k base v1 b1 → ∀ b, b ≠ k → b < base → Off k v1 b := fun wr v1 b1 hs b h1 h2 => ⟨h1, fun y => by
  obtain ⟨B1, hB⟩ := hs
  have := (hB.own.lt b y).1
  omega⟩
 have HVB := hide (And.intro hvb (And.intro hvo hoff))
 clear h hli hfine hbox hvb hvo hoff hob hO
 go_enter Tryz.func135, Tryz.ntmps135
 go_wp2_with fail
 go_loopg [0] ps.length (fun g u0 wr => ∃ (n o c : Nat) (v1 : Value) (zs : List Pc) (b1 : List Bool), u0 = .slice (some ⟨j, o, none⟩) n c ∧ n = zs.length ∧ n ≤ g ∧ InT w wr k base j o c v v1 ps zs bs b1 ∧ c ≤ cap)
 case atStart => exact ⟨ps.length, off, cap, v, ps, [], rfl, rfl, Nat.le_refl _, unhide HH, Nat.le_refl _⟩
 case round =>
  obtain ⟨n, o, c, v1, zs, b1, rfl, hn, hng, hin, hcc⟩ := hrel
  obtain ⟨hvb, hvo, hoff⟩ := unhide HVB
  have hcb := hvb wr v1 hin.wrt
  have hor := hvo wr v1 hin.wrt
  have hof := hoff wr v1 _ hin.sk
  have hzs := hin.wrt.step.size
  have hcz := hin.cap
  have hln := hin.len
  by_cases hbig : 16384 < n
  ·have hbig' : (n : Int) > 16384 := by omega
   have hc1 : (16384 : Int) ≤ (c : Int) := by omega
   have hn1 : (16384 : Int) ≤ (n : Int) := by omega
   have hcne : ¬ c = 16384 := by omega
   have hcne2 : 16384 < c := by omega
   have htl : (zs.take 16384).length = 16384 := by rw [List.length_take]; omega
   have hjl : j < wr.heap.size := by omega
   have hC := told1_ok k base box false v1 (.slice (some ⟨j, o, none⟩) 16384 c) (bs ++ b1) (zs.take 16384) wr hin.sk hcb ⟨_, _, _, rfl⟩ (.inr ⟨j, o, c, by rw [htl], hjl, pcsLie_take hin.lies⟩) (fun j' off' n' c' hu => by
    simp only [Value.slice.injEq, Option.some.injEq, Addr.mk.injEq, and_true] at hu
    rw [← hu.1.1]
    exact hof j hj.1 hj.2) (by omega) (fun p hp => hin.fine p (List.mem_of_mem_take hp)) hor (fun b hb => hof b (by omega) (by omega)) (by rw [List.length_append]; omega) (by omega)
   have HC := hide hC
   have HIN := hide (And.intro hin hn)
   clear hC hin hn hcz hcb hor hof htl hvb hvo hoff
   go_wp2_with fail
   refine (unhide HC).mono ?_
   rintro r w1 ⟨rfl, v2, tb, h1, ht, hw1⟩
   have HNEXT := hide (And.intro h1 (And.intro ht hw1))
   clear h1 ht hw1 HC
   go_wp2_with fail
   go_roundg (gk - 16384)
   case measure => omega
   case rel =>
    obtain ⟨hin, hn⟩ := unhide HIN
    obtain ⟨h1, ht, hw1⟩ := unhide HNEXT
    have hsl := toldB_len ht
    rw [List.length_take] at hsl
    refine ⟨n - 16384, o + 49152, c - 16384, v2, zs.drop 16384, b1 ++ tb, by first | rfl | (congr 3; omega), by rw [List.length_drop, hn], by omega, ⟨by rw [← List.append_assoc]; exact h1, hin.wrt.trans hw1, ?_, fun p hp => hin.fine p (List.mem_of_mem_drop hp), fun rest hr => ?_, ?_, by have := hin.cap; rw [List.length_drop]; omega⟩, by omega⟩
    ·have h9 : PcsLie w1 j o zs := fun i p hp => by
      have hoj := (unhide HVB).2.2 wr v1 _ hin.sk j hj.1 hj.2
      obtain ⟨q1, q2, q3⟩ := hin.lies i p hp
      have nj : ¬ (j = k ∨ v1.ownBlock = some j) := fun y => y.elim hoj.1 hoj.2
      exact ⟨hw1.step.cell (p := ⟨j, _, none⟩) q1 nj, hw1.step.cell (p := ⟨j, _, none⟩) q2 nj, hw1.step.cell (p := ⟨j, _, none⟩) q3 nj⟩
     exact pcsLie_drop (m := 16384) h9
    ·rw [List.append_assoc]
     exact hin.tol _ (.more zs tb rest (by omega) ht hr)
    ·rw [List.length_append, List.length_drop]
     omega
  ·have hbig' : ¬ (n : Int) > 16384 := by omega
   have hjl : j < wr.heap.size := by omega
   have hC := told1_ok k base box true v1 (.slice (some ⟨j, o, none⟩) n c) (bs ++ b1) zs wr hin.sk hcb ⟨_, _, _, rfl⟩ (.inr ⟨j, o, c, by rw [hn], hjl, hin.lies⟩) (fun j' off' n' c' hu => by
    simp only [Value.slice.injEq, Option.some.injEq, Addr.mk.injEq, and_true] at hu
    rw [← hu.1.1]
    exact hof j hj.1 hj.2) (by omega) hin.fine hor (fun b hb => hof b (by omega) (by omega)) (by rw [List.length_append]; omega) (by omega)
   have HC := hide hC
   have HIN := hide (And.intro hin hn)
   clear hC hin hn hcz hcb hor hof hvb hvo hoff
   go_wp2_with fail
   refine (unhide HC).mono ?_
   rintro r w1 ⟨rfl, v2, tb, h1, ht, hw1⟩
   obtain ⟨hin, hn⟩ := unhide HIN
   have hsl := toldB_len ht
   have HFIN := hide (show Sk w1 k base v2 (bs ++ (b1 ++ tb)) ∧ TolR ps (b1 ++ tb) ∧ (b1 ++ tb).length ≤ 200000000 ∧ Wrt k w v w1 v2 from ⟨by
    rw [← List.append_assoc]; exact h1, hin.tol _ (.last zs tb (by omega) ht), by rw [List.length_append]; omega, hin.wrt.trans hw1⟩)
   clear h1 ht hw1 hin hn HC HIN
   go_wp2_with fail
   go_end0
   exact ⟨rfl, v2, _, unhide HFIN⟩
theorem inBlocksT_nil (k base box : Nat) (v : Value) (bs : List Bool) (w : World) (h : Sk w k base v bs) (hbox : w.cell? ⟨box, 0, none⟩ = some (.pointer (some ⟨k, 0, none⟩))) (hO : OrderAt w) (h4 : 4 ≤ k ∧ 4 ≤ base) (hl : bs.length < 1000) (hbase : base ≤ w.heap.size) :
  Calls Tryz.prog 135 #[.slice none 0 0, .int .i64 16384, .func (.func 136) #[] #[.pointer (some ⟨box, 0, none⟩)]] w
   fun e w' => e = .returned (.tuple #[]) ∧ ∃ v' bits, Sk w' k base v' (bs ++ bits) ∧ TolR [] bits ∧ bits.length ≤ 200000000 ∧ Wrt k w v w' v' := by
 have hof : ∀ j, j < 4 → Off k v j := fun j hj => ⟨by omega, fun y => by
  obtain ⟨B1, hB⟩ := h
  have := (hB.own.lt j y).1
  omega⟩
 have HC := hide (told1_ok k base box true v (.slice none 0 0) bs [] w h hbox ⟨_, _, _, rfl⟩ (.inl ⟨rfl, rfl⟩) (fun j off n c hu => by cases hu) (by simp) (fun p hp => by simp at hp) hO hof (by omega) hbase)
 clear h hO hof
 go_enter Tryz.func135, Tryz.ntmps135
 go_wp2_with fail
 go_loopg [0] 1 (fun _ u0 wr => u0 = .slice none 0 0 ∧ wr = w)
 case atStart => exact ⟨rfl, rfl⟩
 case round =>
  obtain ⟨rfl, rfl⟩ := hrel
  go_wp2_with fail
  refine (unhide HC).mono ?_
  rintro r w1 ⟨rfl, v1, tb, h1, ht, hw1⟩
  have hsl := toldB_len ht
  have HF := hide (show Sk w1 k base v1 (bs ++ tb) ∧ TolR [] tb ∧ tb.length ≤ 200000000 ∧ Wrt k wr v w1 v1 from ⟨h1, .last [] tb (by simp) ht, by simp at hsl; omega, hw1⟩)
  clear h1 ht hw1 HC
  go_wp2_with fail
  go_end0
  exact ⟨rfl, v1, tb, unhide HF⟩
theorem packTold_ok (pv : Value) (ps : List Pc) (w : World) (hp : PcsIn w pv ps) (hcap : ∀ a n c, pv = .slice a n c → n ≤ c) (hfine : ∀ p ∈ ps, PcFine p) (hpl : ps.length ≤ 1048576) (hO : OrderAt w) (h4 : 4 ≤ w.heap.size) :
  Calls Tryz.prog 105 #[pv] w fun e w' => ∃ v' bits, e = .returned v' ∧ TolR ps bits ∧ Packed w w' v' bits := by
 have hmf : ∀ (fn : Fn) (first cap : Array Value) (w : World), (Instr.makeFunc fn first cap).run Tryz.prog w = .ok (.func fn first cap) w := fun _ _ _ _ => rfl
 have hin : ∀ (k : Nat) (w2 : World), k = w.heap.size → Step (fun _ => False) w w2 → k + 2 ≤ w2.heap.size → Sk w2 k (k + 2) (.slice none 0 0) [] → w2.cell? ⟨k + 1, 0, none⟩ = some (.pointer (some ⟨k, 0, none⟩)) →
   Calls Tryz.prog 135 #[pv, .int .i64 16384, .func (.func 136) #[] #[.pointer (some ⟨k + 1, 0, none⟩)]] w2
   fun e w' => e = .returned (.tuple #[]) ∧ ∃ v' bits, Sk w' k (k + 2) v' ([] ++ bits) ∧ TolR ps bits ∧ bits.length ≤ 200000000 ∧ Wrt k w2 (.slice none 0 0) w' v' := fun k w2 hk hs hz hsk hb => by
  have hO2 := hO.step hs (fun _ _ y => y)
  rcases hp with ⟨rfl, rfl⟩ | ⟨j, off, cap, rfl, h2, h3⟩
  ·exact inBlocksT_nil k (k + 2) (k + 1) (.slice none 0 0) [] w2 hsk hb hO2 ⟨by omega, by omega⟩ (by simp) hz
  ·exact inBlocksT_ok k (k + 2) (k + 1) j off cap (.slice none 0 0) [] ps w2 hsk hb ⟨by omega, by omega⟩ (fun i p hpp => ⟨hs.cell (h3 i p hpp).1 (fun y => y), hs.cell (h3 i p hpp).2.1 (fun y => y), hs.cell (h3 i p hpp).2.2 (fun y => y)⟩) ⟨by omega, by omega⟩ (hcap _ _ _ rfl) hfine hpl hO2 ⟨by omega, by omega⟩ (by simp) hz
 obtain ⟨ua, um, uc, rfl⟩ : ∃ a n c, pv = .slice a n c := by
  rcases hp with ⟨_, h⟩ | ⟨j', off', cap, h, _⟩
  ·exact ⟨_, _, _, h⟩
  ·exact ⟨_, _, _, h⟩
 have HIN := hide hin
 clear hin hp hcap hfine hO
 go_enter Tryz.func105, Tryz.ntmps105
 go_wp2_with fail
 obtain ⟨k, hk⟩ : ∃ k, k = w.heap.size := ⟨_, rfl⟩
 obtain ⟨w2, hw2⟩ : ∃ w2, w2 = (w.alloc (.cells #[.slice none 0 0, .int .i64 0] 103)).alloc (.cells #[.pointer (some ⟨w.heap.size, 0, none⟩)] 101) := ⟨_, rfl⟩
 have hs2 : Step (fun _ => False) w w2 := by rw [hw2]; exact ((Step.refl _ _).alloc _).alloc _
 have hz2 : w2.heap.size = k + 2 := by rw [hw2, hk]; simp
 have hk2 : w2.heap[k]? = some (.cells #[.slice none 0 0, .int .i64 0] 103 (0, 0)) := by
  rw [hw2, hk]
  exact (Below.heap_alloc _ _ _ (by simp)).trans (heap_alloc_new _ _)
 have hb2 : w2.cell? ⟨k + 1, 0, none⟩ = some (.pointer (some ⟨k, 0, none⟩)) := by
  have h9 := heap_alloc_new (w.alloc (.cells #[.slice none 0 0, .int .i64 0] 103)) (.cells #[.pointer (some ⟨w.heap.size, 0, none⟩)] 101)
  rw [show (w.alloc (.cells #[.slice none 0 0, .int .i64 0] 103)).heap.size = w.heap.size + 1 by simp, ← hw2, ← hk] at h9
  exact blk_cell h9 0 _ rfl
 have hsk : Sk w2 k (k + 2) (.slice none 0 0) [] := ⟨[], hk2, World.ownsRow_nil _ _ _ _, BitsIn.nil, rfl, by omega⟩
 have hkw : w.heap.size ≤ k := by omega
 have hC := unhide HIN k w2 hk hs2 (by omega) hsk hb2
 rw [← hw2, ← hk]
 have HS2 := hide hs2
 clear hw2 hk
 refine hC.mono ?_
 rintro r w3 ⟨rfl, v3, bits, h3, htol, hbl, hw3⟩
 rw [List.nil_append] at h3
 have hb3 := hw3.step.cell (p := ⟨k + 1, 0, none⟩) hb2 (fun y => by
  rcases y with y | y
  ·have y : k + 1 = k := y; omega
  ·cases y)
 have HO := hide (skOut k (k + 2) v3 bits w3 h3)
 have HF := hide (show TolR ps bits ∧ Packed w w3 v3 bits from ⟨htol, by
  obtain ⟨B, hB⟩ := h3
  refine ⟨B, ownsRow_mono hB.own (by omega), hB.bits, hB.len, (unhide HS2).trans' hw3.step (fun i hi y => ?_)⟩
  rcases y with y | y
  ·omega
  ·cases y⟩)
 obtain ⟨va, vn, vc, hvs⟩ : ∃ a n c, v3 = .slice a n c := by
  obtain ⟨B, hB⟩ := h3
  obtain ⟨_, ⟨hv, _⟩ | ⟨g, cap, _, hv, _⟩⟩ := hB.own
  ·exact ⟨_, _, _, hv⟩
  ·exact ⟨_, _, _, hv⟩
 subst hvs
 clear h3 hw3 hsk hs2 hb2 hk2 hC htol HIN
 go_wp2_with fail
 refine (unhide HO).mono ?_
 rintro r w4 ⟨rfl, rfl⟩
 go_wp2_with fail
 go_ret
 exact ⟨_, bits, rfl, unhide HF⟩
end Go.Proofs.YtbpahojchgpdnaaGreatDoor
