/- Proved here: what the finder's places hands over. -/
import Derived.RangeFuncNested
import Derived.RangeFuncBound
import Derived.RangeFuncCalls
import Derived.RangeFuncLeaves
import Derived.RangeFuncWrites
import Derived.Shelf.Abstract
import Derived.Shelf.RegionOpen
import Derived.OwnWalkIn
import Derived.TacticsInMore
import Derived.LoopNIn
import Derived.LoopIn
import Derived.Test.YtbpahojchgpdnaaGreatDoorFinder
import Derived.BigRegionIn
set_option maxRecDepth 20000
set_option maxHeartbeats 4000000
namespace Go.Proofs.YtbpahojchgpdnaaGreatDoor
open Go.RowKit Go.Shelf Go.Bel
def PlaceOf (q : Nat) : Type := { p : Nat // p < q ∧ q ≤ p + 32768 }
def encP {q : Nat} (x : PlaceOf q) : Array Value := #[.int .i64 (x.1 : Nat)]
def chainF (ys : List Nat) (q : Nat) : Nat → Int → List Nat
 | 0, _ => []
 | k + 1, pv => if pv = -1 ∨ (q : Int) - pv > 32768 then [] else pv.toNat :: chainF ys q k (nA ys q pv.toNat)
def chain (ys : List Nat) (q : Nat) : List Nat := if q + 3 ≤ ys.length then chainF ys q 64 (nL ys q (slotF ys q)) else []
def spots {q : Nat} (xs : List (PlaceOf q)) : List Nat := xs.map (·.1)
def KpS (best n1 : Nat) (A B : World) : Prop := Step (fun k => k = best ∨ n1 ≤ k) A B
attribute [local go_sem] Oper.semAt_some
structure PlAt (w : World) (b1 b2 best n1 F j off cap gl ga q : Nat) (ys : List Nat) (L A : Nat → Int) : Prop where
 f : FAt w F j off cap gl ga ys q L A
 c1 : w.cell? ⟨b1, 0, none⟩ = some (.pointer (some ⟨F, 0, none⟩))
 c2 : w.cell? ⟨b2, 0, none⟩ = some (.int .i64 (q : Nat))
 no : b1 ≠ best ∧ b2 ≠ best ∧ F ≠ best ∧ j ≠ best ∧ gl ≠ best ∧ ga ≠ best
 lo : b1 < n1 ∧ b2 < n1 ∧ F < n1 ∧ j < n1 ∧ gl < n1 ∧ ga < n1
theorem PlAt.kp {w w' : World} {b1 b2 best n1 F j off cap gl ga q : Nat} {ys : List Nat} {L A : Nat → Int} (h : PlAt w b1 b2 best n1 F j off cap gl ga q ys L A) (hk : KpS best n1 w w') : PlAt w' b1 b2 best n1 F j off cap gl ga q ys L A := by
 obtain ⟨a1, a2, a3, a4, a5, a6⟩ := h.no
 obtain ⟨l1, l2, l3, l4, l5, l6⟩ := h.lo
 exact ⟨h.f.step hk ⟨by omega, by omega, by omega, by omega⟩, Step.cell hk h.c1 (by dsimp only; omega), Step.cell hk h.c2 (by dsimp only; omega), h.no, h.lo⟩
set_option maxRecDepth 100000 in
theorem places1_in (n : Nat) (hn : 1 ≤ n) (l b1 b2 best n1 F j off cap gl ga q : Nat) (ys : List Nat) (L A : Nat → Int) (hq : q ≤ ys.length) (J Jx : List (PlaceOf q) → World → Prop) (W : World) (hA : AbidesFrom W.heap.size J)
    (hY : ∀ pre x W, J pre W → pre.length < 64 → YieldAt Fence.wide (n - 1) Tryz.prog l (encP x) W fun e W' =>
      (e = .returned (.bool true) ∧ J (pre ++ [x]) W' ∧ KpS best n1 W W') ∨ (e = .returned (.bool false) ∧ Jx (pre ++ [x]) W'))
    (hP : PlAt W b1 b2 best n1 F j off cap gl ga q ys L A) (h0 : J [] W) :
    CallsIn Fence.wide n Tryz.prog 182 #[.func (.yield l) #[] #[], .pointer (some ⟨b1, 0, none⟩), .pointer (some ⟨b2, 0, none⟩)] W fun e W' => (∃ v, e = .returned v) ∧
      ((∃ xs, J xs W' ∧ spots xs = chain ys q) ∨ (∃ pre, Jx pre W' ∧ spots pre <+: chain ys q)) := by
  refine callsIn_of_wp Tryz.func182 rfl trivial ?_ rfl
  simp only [Tryz.ntmps182, List.size_toArray, List.length_cons, List.length_nil, Nat.reduceAdd, Nat.reduceSub, Array.replicate_succ, Array.replicate_zero, List.push_toArray, List.append_toArray, List.nil_append, List.cons_append]
  have c1 := hP.c1
  have c2 := hP.c2
  have hfew := hP.f.few
  have HP := hide hP
  have HS := hide (slot_ok F j off cap q ys W hP.f.src (by omega))
  clear hP
  by_cases h3 : q + 3 ≤ ys.length
  · have HS2 := hide ((unhide HS).mono (R' := fun e w' => ∃ s : Nat, (s < 32768 ∧ s = slotF ys q ∧ e = .returned (.tuple #[.int .i64 (s : Nat), .bool true])) ∧ Step (fun _ => False) W w') (fun e w' y => by rw [if_pos h3] at y; exact ⟨slotF ys q, ⟨slotF_lt ys q, rfl, y.1⟩, y.2⟩))
    clear HS
    gi_wp2_with (refine ⟨trivial, ?_⟩; gi_at_call 181; refine (callsIn_wide.2 (unhide HS2)).mono ?_; rintro e W1 ⟨s, ⟨hs, hse, rfl⟩, hs1⟩; have HSE := hide hse; clear hse; have hP1 := (unhide HP).kp (w' := W1) (show KpS best n1 W W1 from hs1.mono (fun _ y => y.elim)); have c1' := hP1.c1; have c2' := hP1.c2; have d2 : W1.cell? ⟨F, 2, none⟩ = some (.slice (some ⟨gl, 0, none⟩) 32768 32768) := blk_cell hP1.f.blk 2 _ rfl; have l1 := hP1.f.last.cell s hs; have s0 : (0 : Int) ≤ (s : Int) := by omega
                 have s1 : (s : Int) < 32768 := by omega
                 have HP1 := hide hP1; clear hP1)
    have hJ1 : J [] W1 := hA [] W W1 none h0 ⟨hs1.os, hs1.tape, hs1.output, hs1.size, fun k hk _ => hs1.block k hk (fun y => y)⟩ (fun r e => by cases e)
    have hpv : L s = -1 ∨ (0 ≤ L s ∧ L s < q ∧ L s + 3 ≤ ys.length) := (unhide HP1).f.lok s hs
    have hch : chainF ys q 64 (L s) = chain ys q := by rw [(unhide HP1).f.isL, unhide HSE, chain, if_pos h3]
    have hAA : A = nA ys q := (unhide HP1).f.isA
    have HAA := hide hAA
    clear HSE hAA
    generalize L s = pv at *
    clear HS2 HP c1 c2 c1' c2' d2 l1 s0 s1 hs1 h0 hA
    gi_loopw [6, 22] (fun u6 u22 wr => ∃ (k : Nat) (pv : Int) (pre : List (PlaceOf q)), k ≤ 64 ∧ u22 = .int .i64 (k : Nat) ∧ u6 = .int .i64 pv ∧ (pv = -1 ∨ (0 ≤ pv ∧ pv < q ∧ pv + 3 ≤ ys.length)) ∧ pre.length = k ∧ spots pre ++ chainF ys q (64 - k) pv = chain ys q ∧ J pre wr ∧ KpS best n1 W1 wr) (fun _ i _ => 64 - (intOf i).toNat)
    case atStart => exact ⟨0, pv, [], by omega, rfl, rfl, hpv, rfl, hch, hJ1, Step.refl _ _⟩
    case round =>
      clear hpv hJ1 hch
      obtain ⟨k, pv, pre, hk, rfl, rfl, hpv, hpre, hcp, hJ, hkp⟩ := hrel
      have HCP := hide hcp
      clear hcp
      have HKP := hide hkp
      have hPr := (unhide HP1).kp hkp
      have r1 := hPr.c1
      have r2 := hPr.c2
      by_cases hlt : k < 64
      · have hlt' : (k : Int) < 64 := by omega
        rcases hpv with hpv | ⟨hp0, hp1, hp2⟩
        · subst hpv
          have HJ := hide hJ
          have HE := hide (show spots pre = chain ys q by rw [← unhide HCP, show 64 - k = 63 - k + 1 by omega, chainF, if_pos (.inl rfl), List.append_nil])
          clear hJ hPr hkp
          gi_wp2
          refine ⟨fun _ y => (by cases y), ?_⟩
          gi_wp2
          refine bodyPost_ret (results_none rfl _ _ _) rfl ?_
          exact ⟨⟨_, rfl⟩, .inl ⟨_, unhide HJ, unhide HE⟩⟩
        · obtain ⟨p, rfl⟩ : ∃ p : Nat, pv = (p : Int) := ⟨pv.toNat, by omega⟩
          have e1 : ((p : Int) == -1) = false := beq_eq_false_iff_ne.2 (by omega)
          by_cases hfar : q ≤ p + 32768
          · have e2 : ¬ (q : Int) - (p : Int) > 32768 := by omega
            have HC2 := hide (show spots (pre ++ [⟨p, by omega, hfar⟩]) ++ chainF ys q (64 - (k + 1)) (nA ys q p) = chain ys q by
              rw [← unhide HCP, show 64 - k = 64 - (k + 1) + 1 by omega, chainF, if_neg (by omega), show ((p : Int)).toNat = p by omega]
              simp only [spots, List.map_append, List.append_assoc]
              rfl)
            obtain ⟨fn, tmps, assign, body, hy, hR⟩ := hY pre ⟨p, by omega, hfar⟩ wr hJ (by omega)
            unfold encP at hy
            dsimp only at hy
            have HR := hide hR
            clear hJ hPr hkp hR hY
            gi_wp2
            refine (unhide HR).mono ?_
            rintro e W3 (⟨rfl, hJ3, hk3⟩ | ⟨rfl, hJx3⟩)
            · have hP3 := (unhide HP1).kp (Step.trans (unhide HKP) hk3)
              have r1' := hP3.c1
              have d3 : W3.cell? ⟨F, 3, none⟩ = some (.slice (some ⟨ga, 0, none⟩) ys.length ys.length) := blk_cell hP3.f.blk 3 _ rfl
              have l3 := hP3.f.ahead.cell p (by omega)
              have ha := hP3.f.aok p (by omega) (by omega)
              have p0 : (0 : Int) ≤ (p : Int) := by omega
              have p1 : (p : Int) < (ys.length : Int) := by omega
              have HJ3 := hide hJ3
              have HK3 := hide hk3
              obtain ⟨x, hx⟩ : ∃ x, x = A p := ⟨_, rfl⟩
              have HXA := hide (show x = nA ys q p by rw [hx, unhide HAA])
              rw [← hx] at l3 ha
              clear hx hJ3 hP3 hk3 r1 r2 e1 e2
              gi_wp2
              go_roundw
              case rel => exact ⟨k + 1, x, _, by omega, by go_num, rfl, by omega, by rw [List.length_append, hpre]; rfl, by rw [unhide HXA]; exact unhide HC2, unhide HJ3, Step.trans (unhide HKP) (unhide HK3)⟩
              case measure => simp [intOf]; omega
            · have HJ3 := hide hJx3
              clear hJx3
              gi_wp2
              refine bodyPost_ret (results_none rfl _ _ _) rfl ?_
              exact ⟨⟨_, rfl⟩, .inr ⟨_, unhide HJ3, ⟨_, unhide HC2⟩⟩⟩
          · have e2 : (q : Int) - (p : Int) > 32768 := by omega
            have HJ := hide hJ
            have HE := hide (show spots pre = chain ys q by rw [← unhide HCP, show 64 - k = 63 - k + 1 by omega, chainF, if_pos (.inr e2), List.append_nil])
            clear hJ hPr hkp
            gi_wp2
            refine ⟨fun _ y => (by cases y), ?_⟩
            gi_wp2
            refine bodyPost_ret (results_none rfl _ _ _) rfl ?_
            exact ⟨⟨_, rfl⟩, .inl ⟨_, unhide HJ, unhide HE⟩⟩
      · have hlt' : ¬ (k : Int) < 64 := by omega
        have HJ := hide hJ
        have HE := hide (show spots pre = chain ys q by rw [← unhide HCP, show 64 - k = 0 by omega, chainF, List.append_nil])
        clear hJ hPr hkp
        gi_wp2
        go_end0
        exact ⟨⟨_, rfl⟩, .inl ⟨_, unhide HJ, unhide HE⟩⟩
  · have HS2 := hide ((unhide HS).mono (R' := fun e w' => e = .returned (.tuple #[.int .i64 0, .bool false]) ∧ Step (fun _ => False) W w') (fun e w' y => by rw [if_neg h3] at y; exact y))
    clear HS
    gi_wp2_with (refine ⟨trivial, ?_⟩; gi_at_call 181; refine (callsIn_wide.2 (unhide HS2)).mono ?_; rintro e W1 ⟨rfl, hs1⟩)
    refine bodyPost_ret (results_none rfl _ _ _) rfl ?_
    exact ⟨⟨_, rfl⟩,   .inl ⟨[], hA [] W W1 none h0 ⟨hs1.os, hs1.tape, hs1.output, hs1.size, fun k hk _ => hs1.block k hk (fun y => y)⟩ (fun r e => by cases e), by rw [chain, if_neg h3]; rfl⟩⟩
theorem places_stops (n : Nat) (hn : 1 ≤ n) (b1 b2 best n1 F j off cap gl ga q : Nat) (ys : List Nat) (L A : Nat → Int) (hq : q ≤ ys.length) (w : World) (hP : PlAt w b1 b2 best n1 F j off cap gl ga q ys L A) :
  SeqStopsK Fence.wide n Tryz.prog 182 #[.pointer (some ⟨b1, 0, none⟩), .pointer (some ⟨b2, 0, none⟩)] encP (KpS best n1) (fun (xs : List (PlaceOf q)) => spots xs = chain ys q) (fun pre => spots pre <+: chain ys q) 64 w := fun l J Jx W hW hA _ hY h0 => by
 have hP' : PlAt W b1 b2 best n1 F j off cap gl ga q ys L A := hP.kp ⟨hW.os, hW.tape, hW.output, hW.size, fun k hk _ => hW.block k hk⟩
 refine (places1_in n hn l b1 b2 best n1 F j off cap gl ga q ys L A hq J Jx W hA hY hP' h0).mono ?_
 rintro e W' ⟨he, ⟨xs, hx, hy⟩ | ⟨pre, hx, hy⟩⟩
 ·exact ⟨he, .inl ⟨xs, hy, hx⟩⟩
 ·exact ⟨he, .inr ⟨pre, hy, hx⟩⟩
theorem places_in (n : Nat) (F q : Nat) (w : World) :
  CallsIn Fence.wide n Tryz.prog 161 #[.pointer (some ⟨F, 0, none⟩), .int .i64 (q : Nat)] w fun e w' => e = .returned (.func (.func 182) #[] #[.pointer (some ⟨w.heap.size, 0, none⟩), .pointer (some ⟨w.heap.size + 1, 0, none⟩)]) ∧ w' = (w.alloc (.cells #[.pointer (some ⟨F, 0, none⟩)] 156)).alloc (.cells #[.int .i64 (q : Nat)] 3) := by
 refine callsIn_of_wp Tryz.func161 rfl trivial ?_ rfl
 simp only [Tryz.ntmps161, List.size_toArray, List.length_cons, List.length_nil, Nat.reduceAdd, Nat.reduceSub, Array.replicate_succ, Array.replicate_zero, List.push_toArray, List.append_toArray, List.nil_append, List.cons_append]
 gi_wp2
 go_ret
 exact ⟨rfl, rfl⟩
end Go.Proofs.YtbpahojchgpdnaaGreatDoor
namespace Go.Proofs.YtbpahojchgpdnaaGreatDoor
open Go.RowKit Go.Shelf Go.Bel
structure Pc where
 b : Nat
 l : Nat
 d : Nat
def Pc.cells (p : Pc) : Array Value := #[.int .u8 (p.b : Nat), .int .i64 (p.l : Nat), .int .i64 (p.d : Nat)]
def PcOk (ys : List Nat) (q : Nat) (p : Pc) : Prop :=
 (p.l = 0 ∧ p.b = ys[q]?.getD 0) ∨ (3 ≤ p.l ∧ p.l ≤ 258 ∧ q + p.l ≤ ys.length ∧ 1 ≤ p.d ∧ p.d ≤ 32768 ∧ p.d ≤ q ∧ p.b = 0 ∧ ∀ i, i < p.l → ys[q - p.d + i]?.getD 0 = ys[q + i]?.getD 0)
def stepF (ys : List Nat) (q m : Nat) (b : Pc) (p : Nat) : Pc := if b.l < commonF ys p q m ∧ paysB (commonF ys p q m) (q - p) = true then ⟨0, commonF ys p q m, q - p⟩ else b
def foldF (ys : List Nat) (q m : Nat) (ps : List Nat) : Pc := ps.foldl (stepF ys q m) ⟨ys[q]?.getD 0, 0, 0⟩
def bestF (ys : List Nat) (q m : Nat) : List Nat → Pc → Pc
 | [], b => b
 | p :: ps, b => if commonF ys p q m = m then stepF ys q m b p else bestF ys q m ps (stepF ys q m b p)
theorem bestF_all (ys : List Nat) (q m : Nat) : ∀ (ps : List Nat) (b : Pc), (∀ p ∈ ps, commonF ys p q m ≠ m) → bestF ys q m ps b = ps.foldl (stepF ys q m) b
 | [], _, _ => rfl
 | p :: ps, b, h => by
  rw [bestF, if_neg (h p (by simp)), bestF_all ys q m ps _ (fun x hx => h x (by simp [hx]))]
  rfl
theorem bestF_stop (ys : List Nat) (q m x : Nat) (hx : commonF ys x q m = m) (r : List Nat) : ∀ (ps : List Nat) (b : Pc), (∀ p ∈ ps, commonF ys p q m ≠ m) → bestF ys q m (ps ++ [x] ++ r) b = (ps ++ [x]).foldl (stepF ys q m) b
 | [], b, _ => by
  show bestF ys q m (x :: r) b = _
  rw [bestF, if_pos hx]
  rfl
 | p :: ps, b, h => by
  show bestF ys q m (p :: (ps ++ [x] ++ r)) b = _
  rw [bestF, if_neg (h p (by simp)), bestF_stop ys q m x hx r ps _ (fun y hy => h y (by simp [hy]))]
  rfl
def copyF (ys : List Nat) (q : Nat) : Pc := bestF ys q (min 258 (ys.length - q)) (chain ys q) ⟨ys[q]?.getD 0, 0, 0⟩
theorem stepF_ok {ys : List Nat} {q m p : Nat} {b : Pc} (hb : PcOk ys q b ∧ (b.l ≠ 0 → paysB b.l b.d = true)) (hp : p < q ∧ q ≤ p + 32768) (hm : m ≤ 258 ∧ q + m ≤ ys.length) : PcOk ys q (stepF ys q m b p) ∧ ((stepF ys q m b p).l ≠ 0 → paysB (stepF ys q m b p).l (stepF ys q m b p).d = true) := by
 unfold stepF
 split
 ·rename_i h
  have h3 : 3 ≤ commonF ys p q m := by
   have h := h.2
   unfold paysB at h
   simp only [Bool.or_eq_true, Bool.and_eq_true, decide_eq_true_eq] at h
   omega
  have h4 := commonF_le ys m p q
  refine ⟨.inr ⟨h3, by dsimp only; omega, by dsimp only; omega, by dsimp only; omega, by dsimp only; omega, by dsimp only; omega, rfl, fun i hi => ?_⟩, fun _ => h.2⟩
  dsimp only at hi ⊢
  rw [show q - (q - p) = p by omega]
  exact commonF_same ys m p q i hi
 ·exact hb
theorem foldF_ok {ys : List Nat} {q m : Nat} (hm : m ≤ 258 ∧ q + m ≤ ys.length) : ∀ {ps : List Nat} {b : Pc}, (∀ p ∈ ps, p < q ∧ q ≤ p + 32768) → PcOk ys q b ∧ (b.l ≠ 0 → paysB b.l b.d = true) → PcOk ys q (ps.foldl (stepF ys q m) b) ∧ ((ps.foldl (stepF ys q m) b).l ≠ 0 → paysB (ps.foldl (stepF ys q m) b).l (ps.foldl (stepF ys q m) b).d = true)
 | [], _, _, hb => hb
 | p :: ps, b, h, hb => by
  rw [List.foldl_cons]
  exact foldF_ok hm (fun x hx => h x (by simp [hx])) (stepF_ok hb (h p (by simp)) hm)
structure CopyIs (ys : List Nat) (q : Nat) (p : Pc) : Prop where
 ok : PcOk ys q p
 is_ : p = copyF ys q
 pays : p.l ≠ 0 → paysB p.l p.d = true
def nextF (ys : List Nat) (q : Nat) : Pc := if (copyF ys q).l = 0 ∨ 32 ≤ (copyF ys q).l then copyF ys q else if (copyF ys q).l < (copyF ys (q + 1)).l then ⟨ys[q]?.getD 0, 0, 0⟩ else copyF ys q
structure NextIs (ys : List Nat) (q : Nat) (p : Pc) : Prop where
 ok : PcOk ys q p
 is_ : p = nextF ys q
 pays : p.l ≠ 0 → paysB p.l p.d = true
structure InC (w1 : World) (best n1 q m : Nat) (ys : List Nat) (pre : List (PlaceOf q)) (W : World) : Prop where
 st : KpS best n1 w1 W
 blk : W.heap[best]? = some (.cells (foldF ys q m (spots pre)).cells 159 (0, 0))
def NoneGood (ys : List Nat) (q m : Nat) (ps : List Nat) : Prop := ∀ p ∈ ps, commonF ys p q m ≠ m
def LastGood (ys : List Nat) (q m : Nat) (ps : List Nat) : Prop := ∃ ps' x, ps = ps' ++ [x] ∧ NoneGood ys q m ps' ∧ commonF ys x q m = m
theorem spots_in {q : Nat} (pre : List (PlaceOf q)) : ∀ p ∈ spots pre, p < q ∧ q ≤ p + 32768 := by
 intro p hp
 simp only [spots, List.mem_map] at hp
 obtain ⟨x, _, rfl⟩ := hp
 exact x.2
theorem spots_snoc {q : Nat} (pre : List (PlaceOf q)) (x : PlaceOf q) : spots (pre ++ [x]) = spots pre ++ [x.1] := by
 unfold spots
 rw [List.map_append]
 rfl
theorem foldF_snoc (ys : List Nat) (q m : Nat) (ps : List Nat) (p : Nat) : foldF ys q m (ps ++ [p]) = stepF ys q m (foldF ys q m ps) p := by
 unfold foldF
 rw [List.foldl_append]
 rfl
theorem InC.grown {w1 A B : World} {best n1 q m : Nat} {ys : List Nat} {pre : List (PlaceOf q)} {row : Option Nat} (h : InC w1 best n1 q m ys pre A) (hg : A.grownBy B row) (hb : best < n1) (hr : ∀ r, row = some r → n1 ≤ r) : InC w1 best n1 q m ys pre B :=
 ⟨Step.grown h.st hg (fun k e => .inl (.inr (hr k e))), (hg.block best (lt_of_block h.blk) (fun e => by have := hr _ e.symm; omega)).trans h.blk⟩
theorem blk_put3 {w : World} {b t : Nat} {u v x : Value} (h : w.heap[b]? = some (.cells #[u, v, x] t (0, 0))) (u' v' x' : Value) :
  (((w.setCell ⟨b, 0, none⟩ u').setCell ⟨b, 1, none⟩ v').setCell ⟨b, 2, none⟩ x').heap[b]? = some (.cells #[u', v', x'] t (0, 0)) := by
 have h1 := blk_set h 0 u'
 have h2 := blk_set h1 1 v'
 have h3 := blk_set h2 2 x'
 simpa using h3
theorem keepsFrom_of {A B : World} {best n1 : Nat} (h : Step (· = best) A B) (hb : best < n1) : KeepsFrom n1 A B :=
 ⟨h.size, fun _ _ hk ho _ => h.at_ ho (by omega)⟩
theorem kpS_of {A B : World} {best n1 : Nat} (h : Step (· = best) A B) : KpS best n1 A B := h.mono (fun _ y => .inl y)
end Go.Proofs.YtbpahojchgpdnaaGreatDoor
namespace Go.Proofs.YtbpahojchgpdnaaGreatDoor
open Go.RowKit Go.Shelf Go.Bel
def rangeBody : Code → Option Code
 | .rangeFunc _ _ _ c => some c
 | .seq a b => match rangeBody a with
  | some c => some c
  | none => rangeBody b
 | .block _ c => rangeBody c
 | .scope c => rangeBody c
 | .cond _ a b => match rangeBody a with
  | some c => some c
  | none => rangeBody b
 | _ => none
noncomputable def copyBody : Code := ((Tryz.f134.body.bind rangeBody).getD .skip)
attribute [local go_sem] Oper.semAt_some
set_option maxRecDepth 100000 in
theorem copy_body (l : Nat) (Q : Exit → Act → World → Prop) (R S F j off cap q p m : Nat) (ys : List Nat) (W : World) (pc : Pc) (hfew : ys.length ≤ 1048576) (hpq : p < q) (hmn : q + m ≤ ys.length) (hsrc : FSrc W F j off cap ys)
  (t0 : W.cell? ⟨R, 0, none⟩ = some (.pointer (some ⟨F, 0, none⟩))) (t1 : W.cell? ⟨R + 1, 0, none⟩ = some (.int .i64 (q : Nat))) (t2 : W.cell? ⟨S + 1, 0, none⟩ = some (.int .i64 (m : Nat))) (hbe : W.heap[S]? = some (.cells pc.cells 159 (0, 0)))
  (hstay : ∀ a W1, Step (fun _ => False) W W1 → ¬ (pc.l < commonF ys p q m ∧ paysB (commonF ys p q m) (q - p) = true) → (commonF ys p q m ≠ m → Q .normal a W1) ∧ (commonF ys p q m = m → Q (.exit 0) a W1))
  (hput : ∀ a W1 l', Step (fun _ => False) W W1 → l' = commonF ys p q m → pc.l < l' → paysB l' (q - p) = true →
   (l' ≠ m → Q .normal a (((W1.setCell ⟨S, 0, none⟩ (.int .u8 0)).setCell ⟨S, 1, none⟩ (.int .i64 (l' : Nat))).setCell ⟨S, 2, none⟩ (.int .i64 ((q - p : Nat) : Int)))) ∧ (l' = m → Q (.exit 0) a (((W1.setCell ⟨S, 0, none⟩ (.int .u8 0)).setCell ⟨S, 1, none⟩ (.int .i64 (l' : Nat))).setCell ⟨S, 2, none⟩ (.int .i64 ((q - p : Nat) : Int)))))
  (c0 c1 c4 c8 c9 c10 c11 c12 c13 c14 c15 c16 c17 c18 c19 c20 c21 c22 c23 c24 c25 c26 c27 c28 c29 c30 c31 c32 c33 c34 c35 c36 c37 c38 c39 c40 c41 c42 c43 c44 c45 c46 c47 c48 c49 c50 c51 c52 c53 c54 c55 c56 : Value) :
  copyBody.wpIn (Fence.wide.inRound l) 1 Tryz.prog Q ⟨#[c0, c1, .pointer (some ⟨R, 0, none⟩), .pointer (some ⟨R + 1, 0, none⟩), c4, .pointer (some ⟨S, 0, none⟩), .pointer (some ⟨S + 1, 0, none⟩), .int .i64 (p : Nat), c8, c9, c10, c11, c12, c13, c14, c15, c16, c17, c18, c19, c20, c21, c22, c23, c24, c25, c26, c27, c28, c29, c30, c31, c32, c33, c34, c35, c36, c37, c38, c39, c40, c41, c42, c43, c44, c45, c46, c47, c48, c49, c50, c51, c52, c53, c54, c55, c56], []⟩ W := by
 conv => arg 4; whnf
 have HC := hide (common_ok F j off cap p q m ys W hsrc (by omega) (by omega))
 have HBE := hide hbe
 have HST := hide hstay
 have HPUT := hide hput
 clear hsrc hbe hstay hput
 gi_wp2
 refine ⟨trivial, (CallsIn.inRound l (callsIn_wide.2 (unhide HC))).mono ?_⟩
 rintro e W1 ⟨rfl, hs1⟩
 obtain ⟨l', hl'⟩ : ∃ l', l' = commonF ys p q m := ⟨_, rfl⟩
 have hl1 : l' ≤ m := by rw [hl']; exact commonF_le ys m p q
 rw [← hl']
 have hst2 := unhide HST
 rw [← hl'] at hst2
 have HST2 := hide hst2
 have HL2 := hide hl'
 clear hst2 HST hl'
 have u0 := hs1.cell t0 (fun y => y)
 have u1 := hs1.cell t1 (fun y => y)
 have u2 := hs1.cell t2 (fun y => y)
 have hb1 := hs1.at_ (unhide HBE) (fun y => y)
 obtain ⟨g0, g1, gf0, gf1, g2, gf2⟩ := blk_three (show W1.heap[S]? = some (.cells #[.int .u8 (pc.b : Nat), .int .i64 (pc.l : Nat), .int .i64 (pc.d : Nat)] 159 (0, 0)) from hb1)
 have HS1 := hide hs1
 have hSl := lt_of_block hb1
 obtain ⟨bm, hbm⟩ : ∃ bm, ((l' : Int) == (m : Int)) = bm := ⟨_, rfl⟩
 have HBT := hide (show bm = true → l' = m from fun e => by rw [e, beq_iff_eq] at hbm; omega)
 have HBF := hide (show bm = false → l' ≠ m from fun e => by rw [e, beq_eq_false_iff_ne] at hbm; omega)
 clear hb1 hs1 t0 t1 t2 HC HBE
 by_cases hgt : pc.l < l'
 ·have hgt' : (l' : Int) > (pc.l : Int) := by omega
  obtain ⟨d, hd⟩ : ∃ d, d = q - p := ⟨_, rfl⟩
  have hdi : (q : Int) - (p : Int) = (d : Int) := by omega
  have HD := hide hd
  clear hd
  gi_wp2
  refine ⟨trivial, (CallsIn.inRound l (callsIn_wide.2 (pays_ok l' d W1))).mono ?_⟩
  rintro e W2 ⟨rfl, rfl⟩
  cases hpay : paysB l' d with
  | true =>
   have HPAY := hide hpay
   clear hpay
   cases bm with
   | true =>
    gi_wp2
    have hp := unhide HPUT
    rw [← unhide HD] at hp
    exact (hp _ _ l' (unhide HS1) (unhide HL2) hgt (unhide HPAY)).2 (unhide HBT trivial)
   | false =>
    gi_wp2
    have hp := unhide HPUT
    rw [← unhide HD] at hp
    exact (hp _ _ l' (unhide HS1) (unhide HL2) hgt (unhide HPAY)).1 (unhide HBF trivial)
  | false =>
   have HPAY := hide (show ¬ (pc.l < l' ∧ paysB l' (q - p) = true) from fun y => by rw [← unhide HD, hpay] at y; exact absurd y.2 (by decide))
   clear hpay
   cases bm with
   | true =>
    gi_wp2
    exact (unhide HST2 _ _ (unhide HS1) (unhide HPAY)).2 (unhide HBT trivial)
   | false =>
    gi_wp2
    exact (unhide HST2 _ _ (unhide HS1) (unhide HPAY)).1 (unhide HBF trivial)
 ·have hgt' : ¬ (l' : Int) > (pc.l : Int) := by omega
  cases bm with
  | true =>
   gi_wp2
   refine ⟨trivial, ?_⟩
   gi_wp2
   exact (unhide HST2 _ _ (unhide HS1) (fun y => hgt y.1)).2 (unhide HBT trivial)
  | false =>
   gi_wp2
   refine ⟨trivial, ?_⟩
   gi_wp2
   exact (unhide HST2 _ _ (unhide HS1) (fun y => hgt y.1)).1 (unhide HBF trivial)
end Go.Proofs.YtbpahojchgpdnaaGreatDoor
namespace Go.Proofs.YtbpahojchgpdnaaGreatDoor
open Go.RowKit Go.Shelf Go.Bel
def rangeCode : Code → Option Code
 | .rangeFunc g ps a c => some (.rangeFunc g ps a c)
 | .seq a b => match rangeCode a with
  | some c => some c
  | none => rangeCode b
 | .block _ c => rangeCode c
 | .scope c => rangeCode c
 | .cond _ a b => match rangeCode a with
  | some c => some c
  | none => rangeCode b
 | _ => none
noncomputable def copyLoop : Code := ((Tryz.f134.body.bind rangeCode).getD .skip)
attribute [local go_sem] Oper.semAt_some
structure LoopAt (w5 : World) (R S F j off cap gl ga q m : Nat) (ys : List Nat) (L A : Nat → Int) : Prop where
 hP : PlAt w5 (S + 1 + 1) (S + 1 + 1 + 1) S (S + 4) F j off cap gl ga q ys L A
 hI : InC w5 S (S + 4) q m ys [] w5
 b0 : w5.heap[R]? = some (.cells #[.pointer (some ⟨F, 0, none⟩)] 156 (0, 0))
 b1 : w5.heap[R + 1]? = some (.cells #[.int .i64 (q : Nat)] 3 (0, 0))
 mo : w5.heap[S + 1]? = some (.cells #[.int .i64 (m : Nat)] 3 (0, 0))
 size : w5.heap.size = S + 4
 lt : R + 1 < S
 most : m ≤ 258
 fits : q + m ≤ ys.length
set_option maxRecDepth 100000 in
theorem copy_loop (Q : Exit → Act → World → Prop) (R S F j off cap gl ga q m : Nat) (ys : List Nat) (L A : Nat → Int) (w5 : World) (h : LoopAt w5 R S F j off cap gl ga q m ys L A)
  (c0 c1 c4 c7 c8 c9 c10 c11 c12 c13 c14 c15 c16 c17 c18 c19 c20 c21 c22 c23 c24 c25 c26 c27 c28 c29 c31 c32 c33 c34 c35 c36 c37 c38 c39 c40 c41 c42 c43 c44 c45 c46 c47 c48 c49 c50 c51 c52 c53 c54 c55 c56 : Value)
  (hend : ∀ D W, w5.heap.size ≤ D → KpS S (S + 4) w5 W → W.heap[S]? = some (.cells (bestF ys q m (chain ys q) ⟨ys[q]?.getD 0, 0, 0⟩).cells 159 (0, 0)) → (∃ pre : List (PlaceOf q), bestF ys q m (chain ys q) ⟨ys[q]?.getD 0, 0, 0⟩ = foldF ys q m (spots pre)) → W.heap[D]? = some (.deferred (some [])) → Q .normal ⟨#[c0, c1, .pointer (some ⟨R, 0, none⟩), .pointer (some ⟨R + 1, 0, none⟩), c4, .pointer (some ⟨S, 0, none⟩), .pointer (some ⟨S + 1, 0, none⟩), c7, c8, c9, c10, c11, c12, c13, c14, c15, c16, c17, c18, c19, c20, c21, c22, c23, c24, c25, c26, c27, c28, c29, .func (.func 182) #[] #[.pointer (some ⟨S + 1 + 1, 0, none⟩), .pointer (some ⟨S + 1 + 1 + 1, 0, none⟩)], c31, c32, c33, c34, c35, c36, c37, c38, c39, c40, c41, c42, c43, c44, c45, c46, c47, c48, c49, c50, c51, c52, c53, c54, c55, c56], [{ target := .collected D, args := #[] }]⟩ W ∧ Q (.exit 0) ⟨#[c0, c1, .pointer (some ⟨R, 0, none⟩), .pointer (some ⟨R + 1, 0, none⟩), c4, .pointer (some ⟨S, 0, none⟩), .pointer (some ⟨S + 1, 0, none⟩), c7, c8, c9, c10, c11, c12, c13, c14, c15, c16, c17, c18, c19, c20, c21, c22, c23, c24, c25, c26, c27, c28, c29, .func (.func 182) #[] #[.pointer (some ⟨S + 1 + 1, 0, none⟩), .pointer (some ⟨S + 1 + 1 + 1, 0, none⟩)], c31, c32, c33, c34, c35, c36, c37, c38, c39, c40, c41, c42, c43, c44, c45, c46, c47, c48, c49, c50, c51, c52, c53, c54, c55, c56], [{ target := .collected D, args := #[] }]⟩ W) :
  copyLoop.wpIn Fence.wide 3 Tryz.prog Q ⟨#[c0, c1, .pointer (some ⟨R, 0, none⟩), .pointer (some ⟨R + 1, 0, none⟩), c4, .pointer (some ⟨S, 0, none⟩), .pointer (some ⟨S + 1, 0, none⟩), c7, c8, c9, c10, c11, c12, c13, c14, c15, c16, c17, c18, c19, c20, c21, c22, c23, c24, c25, c26, c27, c28, c29, .func (.func 182) #[] #[.pointer (some ⟨S + 1 + 1, 0, none⟩), .pointer (some ⟨S + 1 + 1 + 1, 0, none⟩)], c31, c32, c33, c34, c35, c36, c37, c38, c39, c40, c41, c42, c43, c44, c45, c46, c47, c48, c49, c50, c51, c52, c53, c54, c55, c56], []⟩ w5 := by
 conv => arg 4; whnf
 have hz5 := h.size
 have hlt := h.lt
 have HH := hide h
 clear h
 refine wpIn_rangeFunc_ownG (F := Fence.wide) rfl (by omega) (gf := 182) (lb := #[.pointer (some ⟨S + 1 + 1, 0, none⟩), .pointer (some ⟨S + 1 + 1 + 1, 0, none⟩)]) rfl trivial (enters_of Tryz.func182 (by kernel_rfl) rfl)
  (places_stops _ (by omega) (S + 1 + 1) (S + 1 + 1 + 1) S (S + 4) F j off cap gl ga q ys L A (by have := (unhide HH).fits; omega) w5 (unhide HH).hP) (fun h k => Step.trans h k) ?hKb (Below.refl _ _) (fun _ => rfl)
  (fun pre W => InC w5 S (S + 4) q m ys pre W ∧ NoneGood ys q m (spots pre)) (fun c pre W => c = .exit 0 ∧ InC w5 S (S + 4) q m ys pre W ∧ LastGood ys q m (spots pre)) ?hI ?hIx ⟨(unhide HH).hI, fun p hp => by simp [spots] at hp⟩
  (fun x => { tmps := #[c0, c1, .pointer (some ⟨R, 0, none⟩), .pointer (some ⟨R + 1, 0, none⟩), c4, .pointer (some ⟨S, 0, none⟩), .pointer (some ⟨S + 1, 0, none⟩), .int .i64 (x.1 : Nat), c8, c9, c10, c11, c12, c13, c14, c15, c16, c17, c18, c19, c20, c21, c22, c23, c24, c25, c26, c27, c28, c29, .func (.func 182) #[] #[.pointer (some ⟨S + 1 + 1, 0, none⟩), .pointer (some ⟨S + 1 + 1 + 1, 0, none⟩)], .int .i64 (x.1 : Nat), c32, c33, c34, c35, c36, c37, c38, c39, c40, c41, c42, c43, c44, c45, c46, c47, c48, c49, c50, c51, c52, c53, c54, c55, c56], defers := [] }) ?assign ?body ?done ?stop
 case hKb =>
  intro W l o o' hl _ _ _
  exact (Step.refl _ W).grown (grownBy_putObj' W l o') (fun k e => by cases e; exact .inl (.inr (by omega)))
 case hI =>
  intro s A B row hs hg hr
  exact ⟨InC.grown hs.1 hg (by omega) (fun r e => by have := (hr r e).1; omega), hs.2⟩
 case hIx =>
  intro c s A B row hs hg hr
  exact ⟨hs.1, hs.2.1.grown hg (by omega) (fun r e => by have := (hr r e).1; omega), hs.2.2⟩
 case assign =>
  intro l x W K hK
  dsimp only [encP]
  gi_wp2
  exact hK
 case body =>
  rintro l pre ⟨p, hp1, hp2⟩ W ⟨hs, hng⟩ hpl
  have hbe := hs.blk
  have kst := hs.st
  have hPw := (unhide HH).hP.kp kst
  have hm := (unhide HH).fits
  have hm2 := (unhide HH).most
  have t0 : W.cell? ⟨R, 0, none⟩ = some (.pointer (some ⟨F, 0, none⟩)) := blk_cell (Step.at_ kst (unhide HH).b0 (by omega)) 0 _ rfl
  have t1 : W.cell? ⟨R + 1, 0, none⟩ = some (.int .i64 (q : Nat)) := blk_cell (Step.at_ kst (unhide HH).b1 (by omega)) 0 _ rfl
  have t2 : W.cell? ⟨S + 1, 0, none⟩ = some (.int .i64 (m : Nat)) := blk_cell (Step.at_ kst (unhide HH).mo (by omega)) 0 _ rfl
  obtain ⟨pc, hpc⟩ : ∃ pc, pc = foldF ys q m (spots pre) := ⟨_, rfl⟩
  rw [← hpc] at hbe
  have esp : spots (pre ++ [⟨p, hp1, hp2⟩]) = spots pre ++ [p] := spots_snoc pre _
  have hgood : commonF ys p q m ≠ m → NoneGood ys q m (spots (pre ++ [⟨p, hp1, hp2⟩])) := fun h y hy => by
   rw [esp] at hy
   rcases List.mem_append.1 hy with hy | hy
   ·exact hng y hy
   ·simp only [List.mem_singleton] at hy; rw [hy]; exact h
  have hlast : commonF ys p q m = m → LastGood ys q m (spots (pre ++ [⟨p, hp1, hp2⟩])) := fun h => ⟨spots pre, p, esp, hng, h⟩
  have hstay : ∀ W1, Step (fun _ => False) W W1 → ¬ (pc.l < commonF ys p q m ∧ paysB (commonF ys p q m) (q - p) = true) → KeepsFrom w5.heap.size W W1 ∧ KpS S (S + 4) W W1 ∧ InC w5 S (S + 4) q m ys (pre ++ [⟨p, hp1, hp2⟩]) W1 := fun W1 h1 hno =>
   ⟨keepsFrom_of (best := S) (h1.mono (fun _ y => y.elim)) (by omega), kpS_of (h1.mono (fun _ y => y.elim)), Step.trans kst (h1.mono (fun _ y => y.elim)), by
    rw [esp, foldF_snoc, ← hpc, stepF, if_neg hno]
    exact h1.at_ hbe (fun y => y)⟩
  have hput : ∀ W1 l', Step (fun _ => False) W W1 → l' = commonF ys p q m → pc.l < l' → paysB l' (q - p) = true →
    KeepsFrom w5.heap.size W (((W1.setCell ⟨S, 0, none⟩ (.int .u8 0)).setCell ⟨S, 1, none⟩ (.int .i64 (l' : Nat))).setCell ⟨S, 2, none⟩ (.int .i64 ((q - p : Nat) : Int))) ∧
    KpS S (S + 4) W (((W1.setCell ⟨S, 0, none⟩ (.int .u8 0)).setCell ⟨S, 1, none⟩ (.int .i64 (l' : Nat))).setCell ⟨S, 2, none⟩ (.int .i64 ((q - p : Nat) : Int))) ∧
    InC w5 S (S + 4) q m ys (pre ++ [⟨p, hp1, hp2⟩]) (((W1.setCell ⟨S, 0, none⟩ (.int .u8 0)).setCell ⟨S, 1, none⟩ (.int .i64 (l' : Nat))).setCell ⟨S, 2, none⟩ (.int .i64 ((q - p : Nat) : Int))) := fun W1 l' h1 hl hgt hpay => by
   have h2 : Step (· = S) W (((W1.setCell ⟨S, 0, none⟩ (.int .u8 0)).setCell ⟨S, 1, none⟩ (.int .i64 (l' : Nat))).setCell ⟨S, 2, none⟩ (.int .i64 ((q - p : Nat) : Int))) :=
    (((h1.mono (S' := (· = S)) (fun _ y => y.elim)).setCell (p := ⟨S, 0, none⟩) rfl _).setCell (p := ⟨S, 1, none⟩) rfl _).setCell (p := ⟨S, 2, none⟩) rfl _
   refine ⟨keepsFrom_of h2 (by omega), kpS_of h2, Step.trans kst (kpS_of h2), ?_⟩
   rw [esp, foldF_snoc, ← hpc, stepF, ← hl, if_pos ⟨hgt, hpay⟩]
   exact blk_put3 (show W1.heap[S]? = some (.cells #[.int .u8 (pc.b : Nat), .int .i64 (pc.l : Nat), .int .i64 (pc.d : Nat)] 159 (0, 0)) from h1.at_ hbe (fun y => y)) _ _ _
  exact copy_body l _ R S F j off cap q p m ys W pc hPw.f.few (by omega) hm hPw.f.src t0 t1 t2 hbe
   (fun a W1 h1 h2 => ⟨fun h9 => ⟨(hstay W1 h1 h2).1, (hstay W1 h1 h2).2.1, (hstay W1 h1 h2).2.2, hgood h9⟩, fun h9 => ⟨(hstay W1 h1 h2).1, rfl, (hstay W1 h1 h2).2.2, hlast h9⟩⟩)
   (fun a W1 l' h1 h2 h3 h4 => ⟨fun h9 => ⟨(hput W1 l' h1 h2 h3 h4).1, (hput W1 l' h1 h2 h3 h4).2.1, (hput W1 l' h1 h2 h3 h4).2.2, hgood (by rw [← h2]; exact h9)⟩, fun h9 => ⟨(hput W1 l' h1 h2 h3 h4).1, rfl, (hput W1 l' h1 h2 h3 h4).2.2, hlast (by rw [← h2]; exact h9)⟩⟩)
   _ _ _ _ _ _ _ _ _ _ _ _ _ _ _ _ _ _ _ _ _ _ _ _ _ _ _ _ _ _ _ _ _ _ _ _ _ _ _ _ _ _ _ _ _ _ _ _ _ _ _ _
 case done =>
  rintro Dd xs W hDd hxs ⟨hs, hng⟩ hK
  have e : bestF ys q m (chain ys q) ⟨ys[q]?.getD 0, 0, 0⟩ = foldF ys q m (spots xs) := by rw [← hxs]; exact bestF_all ys q m _ _ hng
  exact (hend Dd W hDd hs.st (by rw [e]; exact hs.blk) ⟨xs, e⟩ hK).1
 case stop =>
  rintro Dd c pre W hDd hpre ⟨rfl, hs, ps', x, h1, h2, h3⟩ hK
  have e : bestF ys q m (chain ys q) ⟨ys[q]?.getD 0, 0, 0⟩ = foldF ys q m (spots pre) := by
   obtain ⟨r, hr⟩ := hpre
   rw [← hr, h1]
   exact bestF_stop ys q m x h3 r ps' _ h2
  exact wpIn_exit (hend Dd W hDd hs.st (by rw [e]; exact hs.blk) ⟨pre, e⟩ hK).2
end Go.Proofs.YtbpahojchgpdnaaGreatDoor
namespace Go.Proofs.YtbpahojchgpdnaaGreatDoor
open Go.RowKit Go.Shelf Go.Bel
def afterRange : Code → Option Code
 | .seq a b => match rangeCode a with
  | some _ => some b
  | none => afterRange b
 | .block _ c => afterRange c
 | .scope c => afterRange c
 | _ => none
noncomputable def copyTail : Code := ((Tryz.f134.body.bind afterRange).getD .skip)
attribute [local go_sem] Oper.semAt_some
set_option maxRecDepth 100000 in
theorem copy_tail (post : Ending → World → Prop) (R S D : Nat) (W : World) (pc : Pc) (u v x : Value) (hbe : W.heap[S]? = some (.cells pc.cells 159 (0, 0))) (hr : W.heap[R]? = some (.cells #[u, v, x] 159 (0, 0))) (hK : W.heap[D]? = some (.deferred (some []))) (hDR : D ≠ R)
  (hpost : post (.returned (.agg pc.cells)) ((((W.setCell ⟨R, 0, none⟩ (.int .u8 (pc.b : Nat))).setCell ⟨R, 1, none⟩ (.int .i64 (pc.l : Nat))).setCell ⟨R, 2, none⟩ (.int .i64 (pc.d : Nat))).putObj D (.deferred none)))
  (c0 c1 c2 c3 c6 c7 c8 c9 c10 c11 c12 c13 c14 c15 c16 c17 c18 c19 c20 c21 c22 c23 c24 c25 c26 c27 c28 c29 c30 c31 c32 c33 c34 c35 c36 c37 c38 c39 c40 c41 c42 c43 c44 c45 c46 c47 c48 c49 c50 c51 c52 c53 c54 c55 c56 : Value) :
  copyTail.wpIn Fence.wide 3 Tryz.prog (bodyPostM Fence.wide 3 Tryz.prog Tryz.f134 post) ⟨#[c0, c1, c2, c3, .pointer (some ⟨R, 0, none⟩), .pointer (some ⟨S, 0, none⟩), c6, c7, c8, c9, c10, c11, c12, c13, c14, c15, c16, c17, c18, c19, c20, c21, c22, c23, c24, c25, c26, c27, c28, c29, c30, c31, c32, c33, c34, c35, c36, c37, c38, c39, c40, c41, c42, c43, c44, c45, c46, c47, c48, c49, c50, c51, c52, c53, c54, c55, c56], [{ target := .collected D, args := #[] }]⟩ W := by
 conv => arg 4; whnf
 obtain ⟨g0, g1, gf0, gf1, g2, gf2⟩ := blk_three hr
 obtain ⟨t0, t1, tf0, tf1, t2, tf2⟩ := blk_three (show W.heap[S]? = some (.cells #[.int .u8 (pc.b : Nat), .int .i64 (pc.l : Nat), .int .i64 (pc.d : Nat)] 159 (0, 0)) from hbe)
 have HR := hide hr
 have HK := hide hK
 have HP := hide hpost
 clear hbe hr hK hpost
 gi_wp2
 obtain ⟨W2, hW2⟩ : ∃ W2, W2 = ((W.setCell ⟨R, 0, none⟩ (.int .u8 (pc.b : Nat))).setCell ⟨R, 1, none⟩ (.int .i64 (pc.l : Nat))).setCell ⟨R, 2, none⟩ (.int .i64 (pc.d : Nat)) := ⟨_, rfl⟩
 have hb2 : W2.heap[R]? = some (.cells #[.int .u8 (pc.b : Nat), .int .i64 (pc.l : Nat), .int .i64 (pc.d : Nat)] 159 (0, 0)) := by rw [hW2]; exact blk_put3 (unhide HR) _ _ _
 have hK2 : W2.heap[D]? = some (.deferred (some [])) := by
  rw [hW2]
  exact (Below.heap_setCell _ _ _ _ hDR).trans ((Below.heap_setCell _ _ _ _ hDR).trans ((Below.heap_setCell _ _ _ _ hDR).trans (unhide HK)))
 have hP := unhide HP
 rw [← hW2] at hP ⊢
 have hb3 : (W2.putObj D (.deferred none)).heap[R]? = some (.cells #[.int .u8 (pc.b : Nat), .int .i64 (pc.l : Nat), .int .i64 (pc.d : Nat)] 159 (0, 0)) := (World.putObj_heap_other (fun e => hDR e.symm)).trans hb2
 obtain ⟨p0, p1, _, _, p2, _⟩ := blk_three hb3
 refine ⟨by simp, .inl ⟨_, _, rfl, run_takeDeferred hK2, ?_⟩⟩
 exact ⟨.agg pc.cells, by simp [results, Tryz.results134, go_sem, p0, p1, p2, Pc.cells], hP⟩
end Go.Proofs.YtbpahojchgpdnaaGreatDoor
