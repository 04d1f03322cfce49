/- Proved here: what MinFunc picks out of three rows of bytes. -/
import Derived.Test.YtbpahojchgpdnaaGreatDoorMarksC
import Derived.Laws.IdiomStrings
import Derived.Laws.BytesArg
import Derived.Deep.DeepCutAuto
import Derived.Deep.RegionWith
import Derived.Laws.Cover4
import Derived.Lib.SlBytesConst
set_option maxRecDepth 20000
set_option maxHeartbeats 4000000
namespace Go.Proofs.YtbpahojchgpdnaaGreatDoor
open Go.RowKit Go.Shelf Go.Lib Go.Sort Go.Bel
theorem best1_ok (a1 a2 : Option Addr) (n1 c1 n2 c2 : Nat) (w : World) : Calls Tryz.prog 107 #[.slice a1 n1 c1, .slice a2 n2 c2] w fun e w' => e = .returned (.int .i64 (Lib.compareInt (n1 : Int) (n2 : Int))) ∧ w' = w := by
 have hcon := compare_ok (n1 : Int) (n2 : Int)
 generalize Lib.compareInt (n1 : Int) (n2 : Int) = r at hcon ⊢
 go_enter Tryz.func107, Tryz.ntmps107
 go_wp2_with (go_at_call 108; refine (hcon _).mono ?_; rintro e w' ⟨rfl, rfl⟩)
 go_ret
 exact ⟨rfl, rfl⟩
theorem minFunc_ok (g : Nat) (A : Nat → Option Addr) (n c : Nat → Nat) (w : World) (hc : ∀ j, j < 3 → w.cell? ⟨g, j, none⟩ = some (.slice (A j) (n j) (c j))) :
  Calls Tryz.prog 106 #[.slice (some ⟨g, 0, none⟩) 3 3, .func (.func 107) #[] #[]] w
   fun e w' => ∃ i, i < 3 ∧ e = .returned (.slice (A i) (n i) (c i)) ∧ (∀ j, j < 3 → n i ≤ n j ∧ (j < i → n i < n j)) ∧ Step (fun _ => False) w w' := by
 have c0 := hc 0 (by omega)
 have HC := hide hc
 clear hc
 go_enter Tryz.func106, Tryz.ntmps106
 go_wp2_with fail
 go_loopg [5, 6] 2 (fun kx u5 u6 wr => ∃ i k : Nat, u6 = .int .i64 (i : Nat) ∧ u5 = .slice (A k) (n k) (c k) ∧ 1 ≤ i ∧ i ≤ 3 ∧ k < i ∧ kx = 3 - i ∧ Hid (∀ j, j < i → n k ≤ n j ∧ (j < k → n k < n j)) ∧ wr = w)
 case atStart => exact ⟨1, 0, rfl, rfl, by omega, by omega, by omega, by omega, (fun j hj => (by rw [show j = 0 by omega]; exact ⟨Nat.le_refl _, fun y => by omega⟩) : ∀ j, j < 1 → n 0 ≤ n j ∧ (j < 0 → n 0 < n j)), rfl⟩
 case round =>
  obtain ⟨i, k, rfl, rfl, hi1, hi3, hki, hkx, HM, rfl⟩ := hrel
  by_cases hlt : i < 3
  ·have hltz : (i : Int) < 3 := by omega
   have ci := unhide HC i hlt
   have ei : ((i : Int)).toNat = i := by omega
   have pi : (0 : Int) ≤ (i : Int) := by omega
   have kc := best1_ok (A i) (A k) (n i) (c i) (n k) (c k) wr
   have hr := cmp_neg (n i : Int) (n k : Int)
   obtain ⟨r, hrr⟩ : ∃ r, r = Lib.compareInt (n i : Int) (n k : Int) := ⟨_, rfl⟩
   rw [← hrr] at kc hr
   have KC := hide kc
   clear kc hrr
   by_cases hrn : r < 0
   ·have hlt2 := hr.1 hrn
    have N1 : Hid (∀ j, j < i + 1 → n i ≤ n j ∧ (j < i → n i < n j)) := fun j hj => by
     rcases Nat.lt_or_ge j i with h9 | h9
     ·have := (unhide HM j h9).1; omega
     ·rw [show j = i by omega]; exact ⟨Nat.le_refl _, fun y => by omega⟩
    clear hr hlt2
    go_wp2_with (go_at_call 107; refine (unhide KC).mono ?_; rintro e w1 ⟨rfl, rfl⟩)
    go_roundg (3 - (i + 1))
    case measure => omega
    case rel => exact ⟨i + 1, i, by go_num, rfl, by omega, by omega, by omega, rfl, N1, rfl⟩
   ·have hlt2 : ¬ (n i : Int) < (n k : Int) := fun y => hrn (hr.2 y)
    have N1 : Hid (∀ j, j < i + 1 → n k ≤ n j ∧ (j < k → n k < n j)) := fun j hj => by
     rcases Nat.lt_or_ge j i with h9 | h9
     ·exact unhide HM j h9
     ·rw [show j = i by omega]; exact ⟨by omega, fun y => by omega⟩
    clear hr hlt2
    go_wp2_with (go_at_call 107; refine (unhide KC).mono ?_; rintro e w1 ⟨rfl, rfl⟩)
    go_roundg (3 - (i + 1))
    case measure => omega
    case rel => exact ⟨i + 1, k, by go_num, rfl, by omega, by omega, by omega, rfl, N1, rfl⟩
  ·have hltz : ¬ (i : Int) < 3 := by omega
   have hi : i = 3 := by omega
   subst hi
   go_wp2_with fail
   go_ret
   exact ⟨k, hki, rfl, unhide HM, Step.refl _ _⟩
end Go.Proofs.YtbpahojchgpdnaaGreatDoor
namespace Go.Proofs.YtbpahojchgpdnaaGreatDoor
open Go.RowKit Go.Shelf Go.Lib Go.Sort Go.Bel
def BestPb (ys : List Nat) (bits : List Bool) : Prop := ∃ ps sb fb pb tb, PcsFrom ys 0 ps ys.length ∧ StoR 0 ys sb ∧ PcsBits fixLens (List.replicate 32 5) ps pb ∧ pb.length ≤ 48 * ps.length ∧ fb = beginBits true 1 ++ pb ++ codeB fixLens 256 ∧ TolR ps tb ∧ (bits = sb ∨ bits = fb ∨ bits = tb) ∧
 (bits.length + 7) / 8 ≤ (sb.length + 7) / 8 ∧ (bits.length + 7) / 8 ≤ (fb.length + 7) / 8 ∧ (bits.length + 7) / 8 ≤ (tb.length + 7) / 8 ∧ PcsAre ys 0 ps ys.length ∧
 bits = if (sb.length + 7) / 8 ≤ (fb.length + 7) / 8 ∧ (sb.length + 7) / 8 ≤ (tb.length + 7) / 8 then sb else if (fb.length + 7) / 8 ≤ (tb.length + 7) / 8 then fb else tb
theorem pcFine_from {ys : List Nat} (hb : ∀ i : Nat, ys[i]?.getD 0 < 256) : ∀ {ps : List Pc} {q r : Nat}, PcsFrom ys q ps r → ∀ p ∈ ps, PcFine p
 | [], _, _, _ => fun p hp => by simp at hp
 | p :: ps, q, r, ⟨_, h2, h3⟩ => fun x hx => by
  rcases List.mem_cons.1 hx with rfl | hx
  ·rcases h2 with ⟨a, b⟩ | ⟨a1, a2, a3, a4, a5, a6, a7, a8⟩
   ·exact .inl ⟨a, by rw [b]; exact hb q⟩
   ·exact .inr ⟨a1, a2, a4, a5⟩
  ·exact pcFine_from hb h3 x hx
theorem packed_slice {w w' : World} {v : Value} {bits : List Bool} (h : Packed w w' v bits) : ∃ a c, v = .slice a ((bits.length + 7) / 8) c := by
 obtain ⟨B, hB, _, hl, _⟩ := h
 obtain ⟨a, c, h⟩ := own_slice hB
 exact ⟨a, c, by rw [h, hl]⟩
theorem Packed.later {w w1 w' w'' : World} {v : Value} {bits : List Bool} (h : Packed w1 w' v bits) (hs : Step (fun _ => False) w w1) (hl : Step (fun _ => False) w' w'') : Packed w w'' v bits := by
 obtain ⟨B, b1, b2, b3, b4⟩ := h
 exact ⟨B, ownsRow_far (ownsRow_mono b1 hs.size) hl (fun _ _ y => y), b2, b3, (hs.trans b4).trans hl⟩
theorem packBest_ok (u : Value) (ys : List Nat) (w : World) (hu : BytesIn w u ys) (hO : OrderAt w) (h4 : 4 ≤ w.heap.size) :
  Calls Tryz.prog 63 #[u] w fun e w' => ∃ v' bits, e = .returned v' ∧ BestPb ys bits ∧ bits.length ≤ 800000000 ∧ Packed w w' v' bits := by
 have hlen := hu.len
 have hby : ∀ i : Nat, ys[i]?.getD 0 < 256 := fun i => by
  rcases Nat.lt_or_ge i ys.length with y | y
  ·rw [List.getElem?_eq_getElem y]
   exact hu.byte _ (List.getElem_mem y)
  ·rw [List.getElem?_eq_none y]
   exact (by decide)
 obtain ⟨sb, hsb⟩ := stoR_ex ys.length 0 ys (Nat.le_refl _)
 have HBY := hide hby
 have HC := hide (find_ok u ys w hu)
 have HU := hide hu
 have HO := hide hO
 have HSB := hide hsb
 obtain ⟨ua, uc, hus⟩ := hu.shape
 obtain ⟨m, hm⟩ : ∃ m, m = ys.length := ⟨_, rfl⟩
 rw [← hm] at hus
 subst hus
 have HM := hide hm
 clear hu hm hby hO hsb
 go_enter Tryz.func63, Tryz.ntmps63
 go_wp2_with fail
 refine (unhide HC).mono ?_
 rintro r w1 ⟨pv, ps, rfl, hF⟩
 have hcnt := hF.pcs.count
 have hpi := pcsIn_own hF.row
 have hst := hF.st
 have hz1 := hst.size
 have hpc : ∀ a n c, pv = .slice a n c → n ≤ c := fun a n c e => by
  obtain ⟨_, ⟨hv, _⟩ | ⟨g, cap, _, hv, _, _, hnc, _⟩⟩ := hF.row
  ·rw [e] at hv; cases hv; omega
  ·rw [e] at hv; cases hv; exact hnc
 have k1 := packStored_ok (.slice ua m uc) ys sb w1 ((unhide HU).step0 hst) (unhide HSB)
 have K1 := hide k1
 have HF := hide hF
 have HPI := hide (And.intro hpi hpc)
 have HST := hide hst
 obtain ⟨pa, pn, pc, rfl⟩ : ∃ a n c, pv = .slice a n c := by
  rcases hpi with ⟨_, h⟩ | ⟨j', off', cap, h, _⟩
  ·exact ⟨_, _, _, h⟩
  ·exact ⟨_, _, _, h⟩
 clear hF hpi hpc hst k1 HC
 go_wp2_with fail
 refine (unhide K1).mono ?_
 rintro r w2 ⟨v2, rfl, hp2⟩
 obtain ⟨sa, sc, rfl⟩ := packed_slice hp2
 have hst2 : Step (fun _ => False) w1 w2 := by obtain ⟨_, _, _, _, h⟩ := hp2; exact h
 have hz2 := hst2.size
 have hpi2 := (unhide HPI).1.step0 hst2
 have k2 := packFixed_ok (.slice pa pn pc) ps w2 hpi2 (pcs_needs (unhide HBY) (unhide HF).pcs) (by omega)
 have K2 := hide k2
 have HP2 := hide hp2
 have HST2 := hide hst2
 clear k2 hp2 hst2 hpi2 K1
 go_wp2_with fail
 refine (unhide K2).mono ?_
 rintro r w3 ⟨v3, pb, rfl, hpb, hpl, hp3⟩
 obtain ⟨fb, hfb⟩ : ∃ fb, fb = beginBits true 1 ++ pb ++ codeB fixLens 256 := ⟨_, rfl⟩
 rw [← hfb] at hp3
 obtain ⟨fa, fc, rfl⟩ := packed_slice hp3
 have hst3 : Step (fun _ => False) w2 w3 := by obtain ⟨_, _, _, _, h⟩ := hp3; exact h
 have hz3 := hst3.size
 have hst13 := (unhide HST2).trans hst3
 have hpi3 := (unhide HPI).1.step0 hst13
 have k3 := packTold_ok (.slice pa pn pc) ps w3 hpi3 (unhide HPI).2 (pcFine_from (unhide HBY) (unhide HF).pcs) (by omega) ((unhide HO).step ((unhide HST).trans hst13) (fun _ _ y => y)) (by omega)
 have K3 := hide k3
 have HP3 := hide (And.intro hp3 (And.intro hfb (And.intro hpb hpl)))
 have HST3 := hide hst3
 clear k3 hp3 hst3 hpi3 hfb hpb hpl hst13 K2
 go_wp2_with fail
 refine (unhide K3).mono ?_
 rintro r w4 ⟨v4, tb, rfl, htol, hp4⟩
 obtain ⟨ta, tc, rfl⟩ := packed_slice hp4
 have hst4 : Step (fun _ => False) w3 w4 := by obtain ⟨_, _, _, _, h⟩ := hp4; exact h
 have hz4 := hst4.size
 obtain ⟨n0, hn0⟩ : ∃ n, n = (sb.length + 7) / 8 := ⟨_, rfl⟩
 obtain ⟨n1, hn1⟩ : ∃ n, n = (fb.length + 7) / 8 := ⟨_, rfl⟩
 obtain ⟨n2, hn2⟩ : ∃ n, n = (tb.length + 7) / 8 := ⟨_, rfl⟩
 rw [← hn0, ← hn1, ← hn2]
 obtain ⟨o5, ho5⟩ : ∃ o : Obj, o = .cells #[.slice sa n0 sc, .slice fa n1 fc, .slice ta n2 tc] 31 := ⟨_, rfl⟩
 have hb5 : (w4.alloc o5).heap[w4.heap.size]? = some (.cells #[.slice sa n0 sc, .slice fa n1 fc, .slice ta n2 tc] 31 (0, 0)) := by rw [ho5]; exact heap_alloc_new _ _
 have k4 := minFunc_ok w4.heap.size (fun j => if j = 0 then sa else if j = 1 then fa else ta) (fun j => if j = 0 then n0 else if j = 1 then n1 else n2) (fun j => if j = 0 then sc else if j = 1 then fc else tc) (w4.alloc o5) (fun j hj => by
  refine blk_cell hb5 j _ ?_
  have : j = 0 ∨ j = 1 ∨ j = 2 := by omega
  rcases this with rfl | rfl | rfl <;> rfl)
 rw [ho5] at k4
 have K4 := hide k4
 have HP4 := hide (And.intro hp4 (And.intro htol hst4))
 have HN := hide (And.intro hn0 (And.intro hn1 hn2))
 clear k4 hp4 htol hst4 hn0 hn1 hn2 hb5 ho5 K3
 go_wp2_with fail
 refine (unhide K4).mono ?_
 rintro r w5 ⟨i, hi, rfl, hmin, hst5⟩
 obtain ⟨hp3, hfb, hpb, hpl⟩ := unhide HP3
 obtain ⟨hp4, htol, hst4⟩ := unhide HP4
 obtain ⟨hn0, hn1, hn2⟩ := unhide HN
 have hs45 : Step (fun _ => False) w4 w5 := ((Step.refl _ _).alloc _).trans hst5
 have q2 := (unhide HP2).later (unhide HST) (((unhide HST3).trans hst4).trans hs45)
 have q3 := hp3.later ((unhide HST).trans (unhide HST2)) (hst4.trans hs45)
 have q4 := hp4.later (((unhide HST).trans (unhide HST2)).trans (unhide HST3)) hs45
 have hfbl : fb.length ≤ 48 * ys.length + 18 := by
  have := fix_le 256
  rw [hfb, List.length_append, List.length_append, beginBits_length, codeB_length]; omega
 have hfin : ∃ bits, BestPb ys bits ∧ bits.length ≤ 800000000 ∧ Packed w w5 (.slice (if i = 0 then sa else if i = 1 then fa else ta) (if i = 0 then n0 else if i = 1 then n1 else n2) (if i = 0 then sc else if i = 1 then fc else tc)) bits := by
  have hi3 : i = 0 ∨ i = 1 ∨ i = 2 := by omega
  rcases hi3 with rfl | rfl | rfl
  ·have m1 := hmin 1 (by omega)
   have m2 := hmin 2 (by omega)
   simp at m1 m2
   refine ⟨sb, ⟨ps, sb, fb, pb, tb, (unhide HF).pcs, unhide HSB, hpb, hpl, hfb, htol, .inl rfl, Nat.le_refl _, ?_, ?_, (unhide HF).are, ?_⟩, ?_, ?_⟩
   ·omega
   ·omega
   ·rw [if_pos (by omega)]
   ·omega
   ·rw [← hn0] at q2; exact q2
  ·have m0 := hmin 0 (by omega)
   have m2 := hmin 2 (by omega)
   simp at m0 m2
   refine ⟨fb, ⟨ps, sb, fb, pb, tb, (unhide HF).pcs, unhide HSB, hpb, hpl, hfb, htol, .inr (.inl rfl), ?_, Nat.le_refl _, ?_, (unhide HF).are, ?_⟩, by omega, ?_⟩
   ·omega
   ·omega
   ·rw [if_neg (by omega), if_pos (by omega)]
   ·rw [← hn1] at q3; exact q3
  ·have m0 := hmin 0 (by omega)
   have m1 := hmin 1 (by omega)
   simp at m0 m1
   refine ⟨tb, ⟨ps, sb, fb, pb, tb, (unhide HF).pcs, unhide HSB, hpb, hpl, hfb, htol, .inr (.inr rfl), ?_, ?_, Nat.le_refl _, (unhide HF).are, ?_⟩, ?_, ?_⟩
   ·omega
   ·omega
   ·rw [if_neg (by omega), if_neg (by omega)]
   ·omega
   ·rw [← hn2] at q4; exact q4
 have HFIN := hide hfin
 clear hfin q2 q3 q4 hfbl hs45 hn0 hn1 hn2 hp3 hp4 hfb hpb hpl htol hst4 hst5 hmin K4
 generalize (if i = 0 then sa else if i = 1 then fa else ta) = A9 at *
 generalize (if i = 0 then n0 else if i = 1 then n1 else n2) = N9 at *
 generalize (if i = 0 then sc else if i = 1 then fc else tc) = C9 at *
 go_wp2_with fail
 go_ret
 obtain ⟨bits, f1, f2, f3⟩ := unhide HFIN
 exact ⟨_, bits, rfl, f1, f2, f3⟩
end Go.Proofs.YtbpahojchgpdnaaGreatDoor
namespace Go.Proofs.YtbpahojchgpdnaaGreatDoor
open Go.RowKit Go.Bel Go.Maps
theorem bytes_back (s : ByteArray) : (⟨s.data.toList.toArray⟩ : ByteArray) = s := by cases s; simp
theorem owned_string {w W : World} {base : Nat} {v : Value} {s : ByteArray} (h : w.ownsRow base 5 1 v (bytesOf s).length (u8s (bytesOf s))) (hW : ∀ k, v.ownBlock = some k → W.heap[k]? = w.heap[k]?) :
  (convert 31 9 v).run Tryz.prog W = .ok (.string s) W := by
 have h' := ownsRow_of_block h hW
 rw [bytesOf_length] at h'
 have h2 := h'
 obtain ⟨_, ⟨hv, hn⟩ | ⟨g, cap, cur, hv, _⟩⟩ := h'
 ·have hs : s = ByteArray.empty := by
   cases s with
   | mk d => have : d.size = 0 := hn; simp at this; subst this; rfl
  rw [hv, hs]
  exact run_convert_bytes_nil W 31 5 Tryz.underlying31 Tryz.underlying5 0 0 9 Tryz.underlying9
 ·subst hv
  have hl : s.data.toList.length = s.size := by simp
  have := run_convert_bytes_back W 31 9 5 ⟨g, 0, none⟩ cap s.data.toList Tryz.underlying31 Tryz.underlying5 Tryz.underlying9 (fun j hj => by
   have hc := h2.cellAt j (by omega)
   have e : (⟨g, 0, none⟩ : Addr).add j = ⟨g, j, none⟩ := by unfold Addr.add; split <;> simp_all
   rw [e, hc]
   have hb : j < (bytesOf s).length := by rw [bytesOf_length]; omega
   simp [u8s, bytesOf, List.getElem?_map, List.getElem?_eq_getElem hj])
  rw [hl, bytes_back] at this
  exact this
theorem asked_nat (n : Nat) (h : n ≤ 1048576) : asked (n : Int) = n := by unfold asked; rw [if_neg (by omega), if_neg (by omega)]; omega
end Go.Proofs.YtbpahojchgpdnaaGreatDoor
namespace Go.Proofs.YtbpahojchgpdnaaGreatDoor
open Go.RowKit Go.Bel Go.Maps
theorem around_len (kind : Nat) (P ys : List Nat) : P.length ≤ (aroundK kind P ys).length ∧ (aroundK kind P ys).length ≤ P.length + 18 := by
 unfold aroundK
 split
 ·simp [aroundZ, be4]; omega
 ·split
  ·simp [aroundG, le4]; omega
  ·omega
end Go.Proofs.YtbpahojchgpdnaaGreatDoor
namespace Go.Proofs.YtbpahojchgpdnaaGreatDoor
open Go.RowKit Go.Bel Go.Maps
theorem stoR_len {n : Nat} {ys : List Nat} {bits : List Bool} (h : StoR n ys bits) : bits.length ≤ 9 * ys.length + 50 := by
 induction h with
 | last n ys h =>
  have := storedBits_length n ys true
  omega
 | more n ys bits h ht ih =>
  have := storedBits_length n (ys.take 65535) false
  rw [List.length_take] at this
  rw [List.length_drop] at ih
  rw [List.length_append]
  omega
theorem packSaid_stored (ys : List Nat) (hl : ys.length ≤ 1048576) : PackSaid 0 ys (StoR 0 ys) := by
 obtain ⟨bits, hb⟩ := stoR_ex ys.length 0 ys (Nat.le_refl _)
 intro u w hu hO h4
 refine (packBare_stored ys bits hb u w hu hO h4).mono ?_
 rintro e w' ⟨v', rfl, hp⟩
 exact ⟨v', bits, rfl, hb, by have := stoR_len hb; omega, hp⟩
theorem stoR_pos {n : Nat} {ys : List Nat} {bits : List Bool} (h : StoR n ys bits) : 3 ≤ bits.length := by
 induction h with
 | last n ys h => unfold storedBits; simp only [List.length_append, beginBits_length]; omega
 | more n ys bits h ht ih => rw [List.length_append]; omega
end Go.Proofs.YtbpahojchgpdnaaGreatDoor
namespace Go.Proofs.YtbpahojchgpdnaaGreatDoor
open Go.RowKit Go.Shelf Go.Lib Go.Sort Go.Bel
theorem packBare_best (ys : List Nat) : PackSaid 2 ys (BestPb ys) := by
 intro u w hu hO h4
 have HC := hide (packBest_ok u ys w hu hO h4)
 obtain ⟨ua, uc, hus⟩ := hu.shape
 obtain ⟨m, hm⟩ : ∃ m, m = ys.length := ⟨_, rfl⟩
 rw [← hm] at hus
 subst hus
 clear hu hO hm
 go_enter Tryz.func40, Tryz.ntmps40
 go_wp2_with fail
 refine (unhide HC).mono ?_
 rintro r w2 ⟨v2, bits, rfl, hb, hl, hp⟩
 obtain ⟨a, c, rfl⟩ := packed_slice hp
 obtain ⟨n, hn⟩ : ∃ n, n = (bits.length + 7) / 8 := ⟨_, rfl⟩
 rw [← hn] at hp ⊢
 have HF := hide (And.intro hb (And.intro hl hp))
 clear hb hl hp hn HC
 go_wp2_with fail
 go_ret
 obtain ⟨f1, f2, f3⟩ := unhide HF
 exact ⟨_, bits, rfl, f1, f2, f3⟩
theorem best_reads {ys : List Nat} {bits : List Bool} {P : List Nat} (h : BestPb ys bits) (hy : ∀ i : Nat, ys[i]?.getD 0 < 256) (hB : BitsIn bits P) (hl : P.length = (bits.length + 7) / 8) : ReadsAs P ys := by
 obtain ⟨ps, sb, fb, pb, tb, h1, h2, h3, h4, h5, h6, h7, _⟩ := h
 rcases h7 with rfl | rfl | rfl
 ·refine sto_reads h2 (fun y hy' => ?_) hB hl
  obtain ⟨i, hi⟩ := List.mem_iff_getElem?.1 hy'
  have := hy i
  rw [hi] at this
  exact this
 ·exact fix_reads ⟨ps, pb, h1, h3, h4, h5⟩ hy hB hl
 ·exact tol_reads h6 h1 hB hl
end Go.Proofs.YtbpahojchgpdnaaGreatDoor
namespace Go.Proofs.YtbpahojchgpdnaaGreatDoor
open Go.RowKit Go.Bel Go.Maps
def AnyPb (way : Nat) (ys : List Nat) (bits : List Bool) : Prop := (way = 0 ∧ StoR 0 ys bits) ∨ (way = 1 ∧ FixPk ys bits) ∨ (way = 2 ∧ BestPb ys bits)
theorem any_said (way : Nat) (ys : List Nat) (hw : way ≤ 2) (hl : ys.length ≤ 1048576) : PackSaid way ys (AnyPb way ys) := by
 have h3 : way = 0 ∨ way = 1 ∨ way = 2 := by omega
 intro u w hu hO h4
 rcases h3 with rfl | rfl | rfl
 ·refine (packSaid_stored ys hl u w hu hO h4).mono ?_
  rintro e w' ⟨v', bits, h1, h2, h3⟩
  exact ⟨v', bits, h1, .inl ⟨rfl, h2⟩, h3⟩
 ·refine (packBare_fixed ys u w hu hO h4).mono ?_
  rintro e w' ⟨v', bits, h1, h2, h3⟩
  exact ⟨v', bits, h1, .inr (.inl ⟨rfl, h2⟩), h3⟩
 ·refine (packBare_best ys u w hu hO h4).mono ?_
  rintro e w' ⟨v', bits, h1, h2, h3⟩
  exact ⟨v', bits, h1, .inr (.inr ⟨rfl, h2⟩), h3⟩
theorem any_reads {way : Nat} {ys : List Nat} {bits : List Bool} {P : List Nat} (h : AnyPb way ys bits) (hy : ∀ y ∈ ys, y < 256) (hB : BitsIn bits P) (hl : P.length = (bits.length + 7) / 8) : ReadsAs P ys := by
 have hy2 : ∀ i : Nat, ys[i]?.getD 0 < 256 := all_get hy
 rcases h with ⟨_, h⟩ | ⟨_, h⟩ | ⟨_, h⟩
 ·exact sto_reads h hy hB hl
 ·exact fix_reads h.1 hy2 hB hl
 ·exact best_reads h hy2 hB hl
theorem tolR_pos {ps : List Pc} {bits : List Bool} (h : TolR ps bits) : 3 ≤ bits.length := by
 have key : ∀ {last : Bool} {ps : List Pc} {tb : List Bool}, ToldB last ps tb → 3 ≤ tb.length := fun h => by
  obtain ⟨L1, L2, a, b, c, F, l, bits, _, _, _, _, rfl⟩ := h
  simp only [List.length_append, beginBits_length]
  omega
 cases h with
 | last ps tb h ht => exact key ht
 | more ps tb bits h ht hr => rw [List.length_append]; have := key ht; omega
theorem any_len {way : Nat} {ys : List Nat} {bits : List Bool} (h : AnyPb way ys bits) (hl : ys.length ≤ 1048576) : 3 ≤ bits.length ∧ (bits.length + 7) / 8 ≤ 8388000 := by
 rcases h with ⟨_, h⟩ | ⟨_, h⟩ | ⟨_, h⟩
 ·have h1 := stoR_len h
  have h2 := stoR_pos h
  omega
 ·have h1 := fixPb_length h.1
  have h2 : 3 ≤ bits.length := by
   obtain ⟨ps, pb, _, _, _, rfl⟩ := h.1
   simp only [List.length_append, beginBits_length]
   omega
  omega
 ·obtain ⟨ps, sb, fb, pb, tb, h1, h2, h3, h4, h5, h6, h7, h8, _⟩ := h
  have k1 := stoR_len h2
  have k2 : 3 ≤ bits.length := by
   rcases h7 with rfl | rfl | rfl
   ·exact stoR_pos h2
   ·rw [h5]; simp only [List.length_append, beginBits_length]; omega
   ·exact tolR_pos h6
  omega
end Go.Proofs.YtbpahojchgpdnaaGreatDoor
namespace Go.Proofs.YtbpahojchgpdnaaGreatDoor
open Go.RowKit Go.Shelf Go.Lib Go.Sort Go.Bel
theorem lenM_all {n s x m s' x' m' : Nat} (h : LenM n s x m) (h' : LenM n s' x' m') : s = s' ∧ x = x' ∧ m = m' := by
 have e := lenM_one h h'
 subst e
 refine ⟨rfl, ?_⟩
 rcases h with ⟨a1, a2, a3, a4⟩ | ⟨a1, a2, a3, a4, a5⟩ | ⟨a1, a2, a3, a4, a5, a6, a7⟩
 ·rcases h' with ⟨b1, b2, b3, b4⟩ | ⟨b1, b2, b3, b4, b5⟩ | ⟨b1, b2, b3, b4, b5, b6, b7⟩
  ·omega
  ·omega
  ·omega
 ·rcases h' with ⟨b1, b2, b3, b4⟩ | ⟨b1, b2, b3, b4, b5⟩ | ⟨b1, b2, b3, b4, b5, b6, b7⟩
  ·omega
  ·omega
  ·omega
 ·rcases h' with ⟨b1, b2, b3, b4⟩ | ⟨b1, b2, b3, b4, b5⟩ | ⟨b1, b2, b3, b4, b5, b6, b7⟩
  ·omega
  ·omega
  ·have e : m = m' := a3.trans b3.symm
   subst e
   exact ⟨by omega, rfl⟩
theorem distM_all {n s x m s' x' m' : Nat} (h : DistM n s x m) (h' : DistM n s' x' m') : s = s' ∧ x = x' ∧ m = m' := by
 have e := distM_one h h'
 subst e
 refine ⟨rfl, ?_⟩
 rcases h with ⟨a1, a2, a3, a4⟩ | ⟨a1, a2, a3, a4, a5, a6⟩
 ·rcases h' with ⟨b1, b2, b3, b4⟩ | ⟨b1, b2, b3, b4, b5, b6⟩
  ·omega
  ·omega
 ·rcases h' with ⟨b1, b2, b3, b4⟩ | ⟨b1, b2, b3, b4, b5, b6⟩
  ·omega
  ·have e : m = m' := a3.trans b3.symm
   subst e
   exact ⟨by omega, rfl⟩
theorem PcBits.one {L1 L2 : List Nat} {p : Pc} {b b' : List Bool} (h : PcBits L1 L2 p b) (h' : PcBits L1 L2 p b') : b = b' := by
 rcases h with ⟨a1, a2⟩ | ⟨a1, s, x, m, s2, x2, m2, a2, a3, a4⟩
 ·rcases h' with ⟨b1, b2⟩ | ⟨b1, _⟩
  ·rw [a2, b2]
  ·exact absurd a1 b1
 ·rcases h' with ⟨b1, b2⟩ | ⟨b1, t, y, k, t2, y2, k2, b2, b3, b4⟩
  ·exact absurd b1 a1
  ·obtain ⟨rfl, rfl, rfl⟩ := lenM_all a2 b2
   obtain ⟨rfl, rfl, rfl⟩ := distM_all a3 b3
   rw [a4, b4]
theorem PcsBits.one {L1 L2 : List Nat} : ∀ {ps : List Pc} {b b' : List Bool}, PcsBits L1 L2 ps b → PcsBits L1 L2 ps b' → b = b'
 | [], b, b', h, h' => by
  have e : b = [] := h
  have e' : b' = [] := h'
  rw [e, e']
 | _ :: _, _, _, ⟨b1, b2, hb, h1, h2⟩, ⟨c1, c2, hc, k1, k2⟩ => by rw [hb, hc, PcBits.one h1 k1, PcsBits.one h2 k2]
theorem tells_one {row : List Nat} {a b : Nat} {l l' : List Mk} (h : TellsFrom row a l b) : TellsFrom row a l' b → l = l' := by
 induction h generalizing l' with
 | nil a =>
  intro h'
  cases h' with
  | nil => rfl
  | cons _ k t l b hk hi r => have := r.count; have := hk.pos; omega
 | cons a k t l b hk hi r ih =>
  intro h'
  cases h' with
  | nil => have := r.count; have := hk.pos; omega
  | cons _ k' t' l' b hk' hi' r' =>
   obtain ⟨rfl, rfl⟩ := hi.one hi'
   rw [ih r']
theorem cut_one {L : List Nat} {least a a' : Nat} (h1 : least ≤ a) (h1' : least ≤ a') (hz : ∀ i, a ≤ i → often L i = 0) (hz' : ∀ i, a' ≤ i → often L i = 0) (hm : least < a → often L (a - 1) ≠ 0) (hm' : least < a' → often L (a' - 1) ≠ 0) : a = a' := by
 rcases Nat.lt_trichotomy a a' with y | y | y
 ·exact absurd (hz (a' - 1) (by omega)) (hm' (by omega))
 ·exact y
 ·exact absurd (hz' (a - 1) (by omega)) (hm (by omega))
theorem Codes.one {L1 L2 : List Nat} {a b c a' b' c' : Nat} {F F' : List Nat} {l l' : List Mk} (h : Codes L1 L2 a b c F l) (h' : Codes L1 L2 a' b' c' F' l') : codingB a b c F l = codingB a' b' c' F' l' := by
 have e1 := cut_one h.a1 h'.a1 h.az h'.az h.last.1 h'.last.1
 subst e1
 have e2 := cut_one h.b1 h'.b1 h.bz h'.bz h.last.2.1 h'.last.2.1
 subst e2
 have e3 := tells_one h.tells h'.tells
 subst e3
 have e4 : F = F' := h.fs.trans h'.fs.symm
 subst e4
 have e5 : c = c' := by
  have k1 := h.c1
  have k2 := h.c2
  have k3 := h'.c1
  have k4 := h'.c2
  rcases Nat.lt_trichotomy c c' with y | y | y
  ·exact absurd (h.cz (c' - 1) (by omega) (by omega)) (h'.last.2.2 (by omega))
  ·exact y
  ·exact absurd (h'.cz (c - 1) (by omega) (by omega)) (h.last.2.2 (by omega))
 subst e5
 rfl
theorem Cnt.one {ps : List Pc} {f1 f2 g1 g2 : Nat → Nat} (h : Cnt ps f1 f2) : Cnt ps g1 g2 → f1 = g1 ∧ f2 = g2 := by
 induction h generalizing g1 g2 with
 | nil =>
  intro h'
  generalize hq : ([] : List Pc) = q at h'
  cases h' with
  | nil => exact ⟨rfl, rfl⟩
  | lit ps p => simp at hq
  | cpy ps p => simp at hq
 | lit ps p f1 f2 h hl ih =>
  intro h'
  generalize hq : ps ++ [p] = q at h'
  cases h' with
  | nil => simp at hq
  | lit ps' p' a b h' hl' =>
   obtain ⟨rfl, e⟩ := List.append_inj' hq rfl
   simp only [List.cons.injEq, and_true] at e
   subst e
   obtain ⟨rfl, rfl⟩ := ih h'
   exact ⟨rfl, rfl⟩
  | cpy ps' p' a b s x m s2 x2 m2 h' hl' hM hD =>
   obtain ⟨rfl, e⟩ := List.append_inj' hq rfl
   simp only [List.cons.injEq, and_true] at e
   subst e
   exact absurd hl hl'
 | cpy ps p f1 f2 s x m s2 x2 m2 h hl hM hD ih =>
  intro h'
  generalize hq : ps ++ [p] = q at h'
  cases h' with
  | nil => simp at hq
  | lit ps' p' a b h' hl' =>
   obtain ⟨rfl, e⟩ := List.append_inj' hq rfl
   simp only [List.cons.injEq, and_true] at e
   subst e
   exact absurd hl' hl
  | cpy ps' p' a b s' x' m' s2' x2' m2' h' hl' hM' hD' =>
   obtain ⟨rfl, e⟩ := List.append_inj' hq rfl
   simp only [List.cons.injEq, and_true] at e
   subst e
   obtain ⟨rfl, rfl⟩ := ih h'
   rw [lenM_one hM hM', distM_one hD hD']
   exact ⟨rfl, rfl⟩
theorem ToldB.one {last : Bool} {ps : List Pc} {tb tb' : List Bool} (h : ToldB last ps tb) (h' : ToldB last ps tb') : tb = tb' := by
 obtain ⟨L1, L2, a, b, c, F, l, bits, h1, h2, h3, h4, rfl⟩ := h
 obtain ⟨M1, M2, a', b', c', F', l', bits', k1, k2, k3, k4, rfl⟩ := h'
 obtain ⟨f1, f2, c1, e1, e2⟩ := h1.is_
 obtain ⟨g1, g2, c2, e3, e4⟩ := k1.is_
 obtain ⟨rfl, rfl⟩ := c1.one c2
 have e5 : L1 = M1 := e1.trans e3.symm
 have e6 : L2 = M2 := e2.trans e4.symm
 subst e5 e6
 rw [h2.one k2, h3.one k3]
theorem TolR.one {ps : List Pc} {tb tb' : List Bool} (h : TolR ps tb) : TolR ps tb' → tb = tb' := by
 induction h generalizing tb' with
 | last ps tb h ht =>
  intro h'
  cases h' with
  | last _ _ h' ht' => exact ht.one ht'
  | more _ tb' bits' h' ht' hr' => omega
 | more ps tb bits h ht hr ih =>
  intro h'
  cases h' with
  | last _ _ h' ht' => omega
  | more _ tb' bits' h' ht' hr' => rw [ht.one ht', ih hr']
theorem StoR.one {n : Nat} {ys : List Nat} {bits bits' : List Bool} (h : StoR n ys bits) : StoR n ys bits' → bits = bits' := by
 induction h generalizing bits' with
 | last n ys h =>
  intro h'
  cases h' with
  | last => rfl
  | more _ _ b h' ht => omega
 | more n ys bits h ht ih =>
  intro h'
  cases h' with
  | last _ _ h' => omega
  | more _ _ b h' ht' => rw [ih ht']
theorem FixPk.one {ys : List Nat} {bits bits' : List Bool} (h : FixPk ys bits) (h' : FixPk ys bits') : bits = bits' := by
 obtain ⟨ps, pb, h1, _, h2, rfl⟩ := h.2
 obtain ⟨ps', pb', k1, _, k2, rfl⟩ := h'.2
 have e := h1.one k1
 subst e
 rw [h2.one k2]
theorem BestPb.one {ys : List Nat} {bits bits' : List Bool} (h : BestPb ys bits) (h' : BestPb ys bits') : bits = bits' := by
 obtain ⟨ps, sb, fb, pb, tb, h1, h2, h3, h4, h5, h6, h7, h8, h9, ha, hb, hc⟩ := h
 obtain ⟨ps', sb', fb', pb', tb', k1, k2, k3, k4, k5, k6, k7, k8, k9, ka, kb, kc⟩ := h'
 have e := hb.one kb
 subst e
 have e2 := h2.one k2
 subst e2
 have e3 := h3.one k3
 subst e3
 have e4 : fb = fb' := h5.trans k5.symm
 subst e4
 have e5 := h6.one k6
 subst e5
 rw [hc, kc]
theorem AnyPb.one {way : Nat} {ys : List Nat} {bits bits' : List Bool} (h : AnyPb way ys bits) (h' : AnyPb way ys bits') : bits = bits' := by
 rcases h with ⟨e, h⟩ | ⟨e, h⟩ | ⟨e, h⟩
 ·rcases h' with ⟨e', h'⟩ | ⟨e', h'⟩ | ⟨e', h'⟩
  ·exact h.one h'
  ·omega
  ·omega
 ·rcases h' with ⟨e', h'⟩ | ⟨e', h'⟩ | ⟨e', h'⟩
  ·omega
  ·exact h.one h'
  ·omega
 ·rcases h' with ⟨e', h'⟩ | ⟨e', h'⟩ | ⟨e', h'⟩
  ·omega
  ·omega
  ·exact h.one h'
theorem bytes_one {bits : List Bool} {P P' : List Nat} (h : BitsIn bits P) (h' : BitsIn bits P') (hl : P.length = (bits.length + 7) / 8) (hl' : P'.length = (bits.length + 7) / 8) : P = P' := by
 refine List.ext_getElem? fun i => ?_
 by_cases hi : i < P.length
 ·have hi' : i < P'.length := by omega
  rw [List.getElem?_eq_getElem hi, List.getElem?_eq_getElem hi']
  have e : ∀ (Q : List Nat) (hq : i < Q.length), BitsIn bits Q → Q[i] = numAt Q (8 * i) 8 := fun Q hq hb => by
   have h9 := hb.byte i
   rw [List.getElem?_eq_getElem hq] at h9
   rw [numAt_low Q i 8 (Nat.le_refl _), List.getElem?_eq_getElem hq]
   exact (Nat.mod_eq_of_lt h9).symm
  have n : ∀ k, numAt P (8 * i) k = numAt P' (8 * i) k := fun k => by
   induction k with
   | zero => rfl
   | succ k ih => rw [numAt, numAt, ih, h.bit, h'.bit]
  rw [e P hi h, e P' hi' h', n 8]
 ·rw [List.getElem?_eq_none (by omega), List.getElem?_eq_none (by omega)]
end Go.Proofs.YtbpahojchgpdnaaGreatDoor
