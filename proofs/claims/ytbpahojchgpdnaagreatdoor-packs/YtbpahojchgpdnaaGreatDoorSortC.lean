/- Proved here: how great parcels become while lengths are worked out, and the lengths themselves, plain; nothing of the program. -/
import Derived.Deep.DeepCutAuto
import Derived.Test.YtbpahojchgpdnaaGreatDoorSoPair
set_option maxRecDepth 20000
set_option maxHeartbeats 4000000
namespace Go.Bel
def BdP (c0 m : Nat) (l : List Pa) : Prop := ∀ p ∈ l, p.c ≤ c0 * m ∧ 1 ≤ p.s.length ∧ p.s.length ≤ m
theorem bdP_pairUp {c0 m : Nat} : ∀ l : List Pa, BdP c0 m l → BdP c0 (2 * m) (pairUp l)
 | [], _ => by intro p hp; simp [pairUp] at hp
 | [_], _ => by intro p hp; simp [pairUp] at hp
 | x :: y :: r, h => by
  intro p hp
  rw [pairUp, List.mem_cons] at hp
  rcases hp with rfl | hp
  ·obtain ⟨a1, a2, a3⟩ := h x (by simp)
   obtain ⟨b1, b2, b3⟩ := h y (by simp)
   refine ⟨?_, ?_, ?_⟩
   ·show x.c + y.c ≤ c0 * (2 * m)
    have : c0 * (2 * m) = c0 * m + c0 * m := by rw [show 2 * m = m + m by omega, Nat.mul_add]
    omega
   ·simp; omega
   ·simp; omega
  ·exact bdP_pairUp r (fun q hq => h q (by simp [hq])) p hp
theorem stabP_mem : ∀ (l : List Pa) (p : Pa), p ∈ stabP l ↔ p ∈ l
 | [], _ => Iff.rfl
 | x :: l, p => by rw [stabP, ins_mem, stabP_mem l p, List.mem_cons]
theorem insP_length (x : Pa) : ∀ l : List Pa, (insP x l).length = l.length + 1
 | [] => rfl
 | y :: l => by
  rw [insP]
  split
  ·rfl
  ·rw [List.length_cons, insP_length x l, List.length_cons]
theorem stabP_length : ∀ l : List Pa, (stabP l).length = l.length
 | [] => rfl
 | x :: l => by rw [stabP, insP_length, stabP_length l, List.length_cons]
theorem rowS_bd {c0 : Nat} {S : List Pa} (h : BdP c0 1 S) : ∀ k, BdP c0 (2 ^ k) (rowS S k)
 | 0 => by intro p hp; simp [rowS] at hp
 | k + 1 => by
  intro p hp
  rw [rowS, stabP_mem, List.mem_append] at hp
  have h2 : 1 ≤ 2 ^ (k + 1) := Nat.one_le_two_pow
  rcases hp with hp | hp
  ·obtain ⟨a1, a2, a3⟩ := h p hp
   exact ⟨Nat.le_trans a1 (Nat.mul_le_mul_left c0 h2), a2, Nat.le_trans a3 h2⟩
  ·have := bdP_pairUp _ (rowS_bd h k) p hp
   rw [show 2 * 2 ^ k = 2 ^ (k + 1) by rw [Nat.pow_succ]; omega] at this
   exact this
theorem rowS_length (S : List Pa) : ∀ k, (rowS S k).length ≤ 2 * S.length
 | 0 => by simp [rowS]
 | k + 1 => by
  have := rowS_length S k
  rw [rowS, stabP_length, List.length_append, pairUp_length]
  omega
theorem bd_singles (f : Nat → Nat) (l : List Nat) (c0 : Nat) (h : ∀ i, f i ≤ c0) : BdP c0 1 (l.map (mk1 f)) := by
 intro p hp
 simp only [List.mem_map] at hp
 obtain ⟨i, _, rfl⟩ := hp
 exact ⟨by have := h i; simp [mk1]; exact this, by simp [mk1], by simp [mk1]⟩
theorem pairUp_syms {q : Nat → Prop} : ∀ l : List Pa, (∀ p ∈ l, ∀ i ∈ p.s, q i) → ∀ p ∈ pairUp l, ∀ i ∈ p.s, q i
 | [], _ => by intro p hp; simp [pairUp] at hp
 | [_], _ => by intro p hp; simp [pairUp] at hp
 | x :: y :: r, h => by
  intro p hp i hi
  rw [pairUp, List.mem_cons] at hp
  rcases hp with rfl | hp
  ·rcases List.mem_append.1 hi with hi | hi
   ·exact h x (by simp) i hi
   ·exact h y (by simp) i hi
  ·exact pairUp_syms r (fun p hp => h p (by simp [hp])) p hp i hi
theorem rowS_syms {q : Nat → Prop} {S : List Pa} (h : ∀ p ∈ S, ∀ i ∈ p.s, q i) : ∀ k, ∀ p ∈ rowS S k, ∀ i ∈ p.s, q i
 | 0 => by intro p hp; simp [rowS] at hp
 | k + 1 => by
  intro p hp
  rw [rowS, stabP_mem, List.mem_append] at hp
  rcases hp with hp | hp
  ·exact h p hp
  ·exact pairUp_syms _ (rowS_syms h k) p hp
def lensOf (L : List Nat) (k : Nat) : List Nat :=
 let sy := comes L L.length
 (List.range L.length).map fun i => if sy.length < 2 then (if i ∈ sy then 1 else 0) else cntP ((rowS (sy.map (mk1 (often L))) k).take (2 * sy.length - 2)) i
theorem lensOf_length (L : List Nat) (k : Nat) : (lensOf L k).length = L.length := by simp [lensOf]
theorem lensOf_get (L : List Nat) (k i : Nat) (h : i < L.length) : often (lensOf L k) i = if (comes L L.length).length < 2 then (if i ∈ comes L L.length then 1 else 0) else cntP ((rowS ((comes L L.length).map (mk1 (often L))) k).take (2 * (comes L L.length).length - 2)) i := by
 unfold often lensOf
 rw [List.getElem?_map, List.getElem?_range h]
 rfl
theorem cntP_le {f : Nat → Nat} {sy : List Nat} {k : Nat} (hnd : sy.Nodup) (h2 : 2 ≤ sy.length) (hk : sy.length ≤ 2 ^ k) (i : Nat) : cntP ((rowS (sy.map (mk1 f)) k).take (2 * sy.length - 2)) i ≤ k := (lens_fill f sy hnd h2 k hk).2.1 i
theorem lensOf_le (L : List Nat) (k i : Nat) (hk : 1 ≤ k) (hs : L.length ≤ 2 ^ k) : often (lensOf L k) i ≤ k := by
 by_cases h : i < L.length
 ·rw [lensOf_get L k i h]
  have hl := comes_length L L.length
  by_cases h2 : (comes L L.length).length < 2
  ·rw [if_pos h2]; split <;> omega
  ·rw [if_neg h2]
   exact cntP_le (comes_nodup _ _) (by omega) (by omega) i
 ·have : often (lensOf L k) i = 0 := by
   unfold often
   rw [List.getElem?_eq_none (by rw [lensOf_length]; omega)]; rfl
  omega
theorem cntP_append (A B : List Pa) (i : Nat) : cntP (A ++ B) i = cntP A i + cntP B i := by
 induction A with
 | nil => simp [cntP]
 | cons a A ih => simp only [List.cons_append, cntP, ih]; omega
theorem cntP_bd {c0 m : Nat} (i : Nat) : ∀ (l : List Pa) (t : Nat), BdP c0 m l → cntP (l.take t) i ≤ t * m
 | _, 0, _ => by simp [cntP]
 | [], t + 1, _ => by simp [cntP]
 | p :: l, t + 1, h => by
  have h1 := cntP_bd i l t (fun q hq => h q (by simp [hq]))
  have h2 := (h p (by simp)).2.2
  have h3 : p.s.count i ≤ p.s.length := List.count_le_length
  rw [List.take_succ_cons, cntP, Nat.add_mul, Nat.one_mul]
  omega
theorem cntP_take_succ {l : List Pa} {t : Nat} {p : Pa} (h : l[t]? = some p) (i : Nat) : cntP (l.take (t + 1)) i = cntP (l.take t) i + p.s.count i := by
 rw [List.take_add_one, h, cntP_append]
 simp [cntP]
theorem count_take_succ {s : List Nat} {j x : Nat} (h : s[j]? = some x) (i : Nat) : (s.take (j + 1)).count i = (s.take j).count i + (if i = x then 1 else 0) := by
 rw [List.take_add_one, h, List.count_append]
 by_cases e : i = x
 ·subst e; simp
 ·simp [e, Ne.symm e]
end Go.Bel
namespace Go.Proofs.YtbpahojchgpdnaaGreatDoor
open Go.RowKit Go.Shelf Go.Lib Go.Sort Go.Bel
theorem PRow.pes {B : Nat} {w : World} {v : Value} {S : List Pe} (h : PRow B w v S) : PesIn w v S := PesIn.of_owns h.row
def CntAt (w : World) (g n : Nat) (f : Nat → Nat) : Prop := RowAt w g 3 n fun i => .int .i64 (f i : Nat)
theorem cnt_made {w : World} {base g n : Nat} (h : w.ownsRow base 3 1 (.slice (some ⟨g, 0, none⟩) n n) n (madeCells (Value.int .i64 0).cells (n * 1)).toList) : CntAt w g n (fun _ => 0) := by
 have h0 := made_block h
 refine ⟨_, h0, by simp [ci], fun i hi => ?_⟩
 simp [ci, hi]
theorem lengths_ok (g off cap k : Nat) (L : List Nat) (w : World) (h : NumsIn w g off L) (hL : L.length ≤ 1000) (hL1 : 1 ≤ L.length) (hcap : ∀ i, often L i ≤ 1000000) (hk : 1 ≤ k) (hk2 : k ≤ 15) (hs : L.length ≤ 2 ^ k) :
  Calls Tryz.prog 183 #[.slice (some ⟨g, off, none⟩) L.length cap, .int .i64 (k : Nat)] w fun e w' => ∃ gl, e = .returned (.slice (some ⟨gl, 0, none⟩) L.length L.length) ∧ w.heap.size ≤ gl ∧ CntAt w' gl L.length (often (lensOf L k)) ∧ Step (fun _ => False) w w' := by
 obtain ⟨i0, hi, hz0, hz1, hz2⟩ := info_parts Tryz.info3
 have HI := hide h
 obtain ⟨n, hn⟩ : ∃ n, n = L.length := ⟨_, rfl⟩
 have hnn : n ≤ 1000 := by omega
 have hn1 : 1 ≤ n := by omega
 rw [← hn]
 have HN := hide hn
 have HCAP := hide hcap
 have HSS := hide (And.intro hL (And.intro hk (And.intro hk2 hs)))
 clear h hL hL1 hcap hs hn
 go_enter Tryz.func183, Tryz.ntmps183
 go_wp2_with (at_make; refine wpList_make_full _ rfl _ _ 57 rfl w.heap.size 3 i0 (.int .i64 0) 1 Tryz.underlying57 hi hz0 hz1 .i64 .i64 _ _ n rfl rfl rfl rfl (by rw [hz2]; omega) (by unfold maxLen; omega) (Nat.le_refl _) ?_; intro w1 hown1 hgr1)
 have hst1 : Step (fun _ => False) w w1 := (Step.refl _ _).grown hgr1 (fun k e => by cases e)
 have hc1 : CntAt w1 w.heap.size n (fun _ => 0) := cnt_made hown1
 have hg1 : w.heap.size < w1.heap.size := hc1.lt
 have hsg := single_ok g off cap L w1 ((unhide HI).step hst1 (fun y => y)) (unhide HSS).1 (fun i => by have := unhide HCAP i; omega)
 rw [← unhide HN] at hsg
 refine hsg.mono ?_
 rintro e w2 ⟨v, S, rfl, hrow, hpa, hst2⟩
 obtain ⟨G, hG⟩ : ∃ G, G = w.heap.size := ⟨_, rfl⟩
 rw [← hG] at hc1 hg1 ⊢
 have hgl : ¬ G = 1000000000000000 ∨ True := .inr trivial
 clear hgl
 have hc2 := hc1.step hst2 (fun y => y)
 have hg2 := hst2.size
 have HC2 := hide hc2
 have HROW := hide hrow
 have HST2 := hide (hst1.trans hst2)
 obtain ⟨sy, hsy⟩ : ∃ sy, sy = comes L n := ⟨_, rfl⟩
 rw [← hsy] at hpa
 have hsl : S.length = sy.length := by have := congrArg List.length hpa; simpa using this
 have hlen : ∀ i, i < n → often (lensOf L k) i = if sy.length < 2 then (if i ∈ sy then 1 else 0) else cntP ((rowS (sy.map (mk1 (often L))) k).take (2 * sy.length - 2)) i := fun i hi => by
  have hN := unhide HN
  rw [hsy, hN]
  exact lensOf_get L k i (by omega)
 have hsyl : sy.length ≤ n := by rw [hsy]; exact comes_length L n
 have hnd : sy.Nodup := by rw [hsy]; exact comes_nodup L n
 have HND := hide hnd
 have hsym : ∀ i ∈ sy, i < n := fun i hi => by rw [hsy] at hi; exact ((comes_mem L n i).1 hi).1
 have HPA := hide hpa
 have HLEN := hide hlen
 have HSYM := hide hsym
 have HGW := hide hG
 have hp := hrow.pes
 have hrb := hrow.row.lt
 clear hnd hown1 hgr1 hst1 hc1 hsg hrow hpa hst2 hc2 hsy hlen hsym hG
 obtain ⟨hv, hS0⟩ | ⟨gs, cs, hv, hsc, hgs, hat⟩ := hp
 ·subst hS0 hv
  have hsl0 : sy.length = 0 := by simpa using hsl.symm
  go_wp2_with fail
  go_ret
  refine ⟨G, rfl, by have := unhide HGW; omega, (unhide HC2).congr (fun i hi => ?_), unhide HST2⟩
  have h9 := unhide HLEN i hi
  rw [h9, if_pos (by omega), List.eq_nil_of_length_eq_zero hsl0]
  rfl
 ·subst hv
  have HAT := hide hat
  have hrb2 := (hrb gs rfl).1
  clear hat hrb
  by_cases h1 : S.length = 1
  ·obtain ⟨p, rfl⟩ := one_of h1
   have hsl1 : sy.length = 1 := by simpa using hsl.symm
   obtain ⟨x, hx⟩ : ∃ x, sy = [x] := by
    match sy, hsl1 with
    | [x], _ => exact ⟨x, rfl⟩
   have hxn : x < n := unhide HSYM x (by rw [hx]; simp)
   have hps : p.s = [x] := by
    have h9 := unhide HPA
    rw [hx] at h9
    simp only [List.map_cons, List.map_nil, List.cons.injEq, and_true] at h9
    exact congrArg Pa.s h9
   obtain ⟨a0, a1, _, _⟩ := unhide HAT 0 (by simp)
   have hsya := (unhide HROW).sy p (by simp)
   have ax := hsya.2.2 0 x (by rw [hps]; rfl)
   have hav : (atE [p] 0).v = .slice (some ⟨p.g, 0, none⟩) 1 p.cap := by show Value.slice _ p.s.length _ = _; rw [hps]; rfl
   rw [hav] at a1
   have hac : (atE [p] 0).c = p.c := rfl
   rw [hac] at a0
   obtain ⟨pc, hpc⟩ : ∃ c : Int, c = (p.c : Int) := ⟨_, rfl⟩
   obtain ⟨pg, hpg⟩ : ∃ c, c = p.g := ⟨_, rfl⟩
   obtain ⟨pk, hpk⟩ : ∃ c, c = p.cap := ⟨_, rfl⟩
   rw [← hpc] at a0
   rw [← hpg, ← hpk] at a1
   rw [← hpg] at ax
   have cx := (unhide HC2).cell x hxn
   have fx := (unhide HC2).free x
   have ex : ((x : Int)).toNat = x := by omega
   have px : (0 : Int) ≤ (x : Int) := by omega
   have qx : (x : Int) < (n : Int) := by omega
   have HX := hide hx
   have hgsG : ¬ gs = G := by omega
   clear hsya hav hac hpc hpg hpk hps hx hsl hsl1 hsyl
   simp only [Nat.zero_mul, Nat.zero_add] at a0 a1
   go_wp2_with fail
   go_ret
   have hgw := unhide HGW
   refine ⟨G, rfl, by omega, ((unhide HC2).set x (.int .i64 (1 : Nat))).congr (fun i hi => ?_), (unhide HST2).setNew (p := ⟨G, x, none⟩) (by show w.heap.size ≤ G; omega) _⟩
   have h9 := unhide HLEN i hi
   have h8 := unhide HX
   rw [h9, h8, if_pos (show ([x] : List Nat).length < 2 by simp)]
   by_cases hix : i = x
   ·simp [hix]
   ·simp [hix]
  ·by_cases h0 : S.length = 0
   ·have hsl0 : sy.length = 0 := by omega
    rw [h0]
    go_wp2_with fail
    go_ret
    refine ⟨G, rfl, by have := unhide HGW; omega, (unhide HC2).congr (fun i hi => ?_), unhide HST2⟩
    have h9 := unhide HLEN i hi
    rw [h9, if_pos (by omega), List.eq_nil_of_length_eq_zero hsl0]
    rfl
   ·have h2 : 2 ≤ S.length := by omega
    obtain ⟨N, hN⟩ : ∃ N, N = S.length := ⟨_, rfl⟩
    rw [← hN] at h2 hsl hsc ⊢
    have HNN := hide hN
    have z1 : ¬ (N : Int) = 1 := by omega
    have z2 : ¬ (N : Int) < 2 := by omega
    have hNn : N ≤ 1000 := by omega
    have HSL := hide hsl
    have hsS := (unhide HROW)
    obtain ⟨SP, hSP⟩ : ∃ SP, SP = sy.map (mk1 (often L)) := ⟨_, rfl⟩
    have hSl : SP.length = N := by rw [hSP, List.length_map]; exact hsl.symm
    have hbd : BdP 1000000 1 SP := by rw [hSP]; exact bd_singles _ _ _ (unhide HCAP)
    have hfl : 2 * N - 2 ≤ (rowS SP k).length := by
     rw [hSP, hsl]
     exact (lens_fill (often L) sy (unhide HND) (by omega) k (by obtain ⟨_, _, _, h9⟩ := unhide HSS; have := unhide HN; omega)).1
    have hin : ∀ p ∈ rowS SP k, ∀ i ∈ p.s, i < n := fun p hp i hi => by
     have h9 := rowS_syms (S := SP) (q := fun i => i < n) (fun p hp i hi => by
      rw [hSP] at hp
      simp only [List.mem_map] at hp
      obtain ⟨x, hx, rfl⟩ := hp
      simp only [mk1, List.mem_singleton] at hi
      subst hi
      exact unhide HSYM i hx) k p hp i hi
     exact h9
    have HFL := hide hfl
    have HIN := hide hin
    rw [← hSP] at HPA HLEN
    clear hfl hin
    have HBD := hide hbd
    have HLO := hide hsS.lo
    have HSY := hide hsS.sy
    have HPS := hide hsS.pes
    have HSPL := hide hSl
    clear h1 h0 hN hsl hsS hSP hSl hbd HSYM
    go_wp2_with fail
    have zb : ((N : Int) == 1) = false := by simp; omega
    have zd : decide ((N : Int) < 2) = false := by simp; omega
    first | rw [zb, zd] | rw [zb] | skip
    go_loopg [7, 33] k (fun kx u7 u33 wr => ∃ (j : Nat) (v : Value) (l : List Pe), u33 = .int .i64 (j : Nat) ∧ u7 = v ∧ j ≤ k ∧ kx = k - j ∧ Hid (PesIn wr v l) ∧ Hid (∀ p ∈ l, SyAt wr p ∧ G < p.g) ∧ Hid (∀ b, v.ownBlock = some b → G < b) ∧ Hid (l.map Pe.pa = rowS SP j) ∧ Hid (Step (fun _ => False) w2 wr))
    case atStart => exact ⟨0, _, [], rfl, rfl, by omega, rfl, .inl ⟨rfl, rfl⟩, (fun p hp => by simp at hp : ∀ p ∈ ([] : List Pe), SyAt w2 p ∧ G < p.g), (fun b hb => (by cases hb) : ∀ b, (Value.slice none 0 0).ownBlock = some b → G < b), rfl, Step.refl _ _⟩
    case round =>
     obtain ⟨j, v, l, rfl, rfl, hj, hkx, HP, HL, HBK, HR, HS⟩ := hrel
     by_cases hlt : j < k
     ·have hltz : (j : Int) < (k : Int) := by omega
      have bdl := rowS_bd (unhide HBD) j
      have lnl := rowS_length SP j
      rw [← unhide HR] at bdl lnl
      rw [List.length_map, unhide HSPL] at lnl
      have h2j : 2 ^ j ≤ 32768 := Nat.le_trans (Nat.pow_le_pow_right (by omega) (show j ≤ 15 by omega)) (by decide)
      have kp := paired_ok u7 l wr (unhide HP) (fun p hp => (unhide HL p hp).1) (by omega) (fun p hp => by
       obtain ⟨b1, b2, b3⟩ := bdl p.pa (List.mem_map_of_mem hp)
       exact ⟨Nat.le_trans b1 (Nat.le_trans (Nat.mul_le_mul_left 1000000 h2j) (by decide)), b2, Nat.le_trans b3 (by omega)⟩)
      have KP := hide kp
      clear kp bdl lnl h2j
      go_wp2_with (first
       | (go_at_call 198; refine (unhide KP).mono ?_; rintro e w3 ⟨v3, Q, rfl, hrow3, hpa3, hst3⟩)
       | fail)
      have hNN := unhide HNN
      have hps3 := (unhide HPS).step ((unhide HS).trans hst3)
      rw [← hNN] at hps3
      have hq3 : Q.length ≤ 1000 := by
       have h9 := congrArg List.length hpa3
       rw [List.length_map, pairUp_length, List.length_map] at h9
       have h8 := rowS_length SP j
       rw [← unhide HR, List.length_map, unhide HSPL] at h8
       omega
      have hso := sorted_ok2 (.slice (some ⟨gs, 0, none⟩) N cs) v3 S Q w3 hps3 hrow3.pes (by omega) (by omega)
      have hsy3 : ∀ p ∈ stabE (S ++ Q), SyAt w3 p ∧ G < p.g := fun p hp => by
       rcases List.mem_append.1 ((stabE_mem _ _).1 hp) with hp | hp
       ·exact ⟨(unhide HSY p hp).step ((unhide HS).trans hst3) (fun y => y), by have := unhide HLO p hp; omega⟩
       ·exact ⟨hrow3.sy p hp, by have := hrow3.lo p hp; have := (unhide HS).size; omega⟩
      have hr3 : (stabE (S ++ Q)).map Pe.pa = rowS SP (j + 1) := by
       rw [stabE_pa, List.map_append, unhide HPA, hpa3, unhide HR]; rfl
      have hw3 : w2.heap.size ≤ w3.heap.size := by have := (unhide HS).size; have := hst3.size; omega
      have HSO := hide hso
      have HSY3 := hide hsy3
      have HR3 := hide hr3
      have HST3 := hide ((unhide HS).trans hst3)
      clear hso hsy3 hr3 hrow3 hpa3 hst3 hps3 hNN hq3 HP HL HBK HR HS KP
      go_wp2_with (go_at_call 197; refine (unhide HSO).mono ?_; rintro e w4 ⟨v4, rfl, hp4, hb4, hst4⟩)
      go_roundg (k - (j + 1))
      case measure => omega
      case rel => exact ⟨j + 1, v4, stabE (S ++ Q), by go_num, rfl, by omega, rfl, hp4, (fun p hp => ⟨(unhide HSY3 p hp).1.step hst4 (fun y => y), (unhide HSY3 p hp).2⟩ : ∀ p ∈ stabE (S ++ Q), SyAt w4 p ∧ G < p.g), (fun b hb => (by have := hb4 b hb; omega) : ∀ b, v4.ownBlock = some b → G < b), unhide HR3, (unhide HST3).trans hst4⟩
     ·have hltz : ¬ (j : Int) < (k : Int) := by omega
      have hjk : j = k := by omega
      subst hjk
      have hln := congrArg List.length (unhide HR)
      rw [List.length_map] at hln
      have hfl := unhide HFL
      obtain ⟨M, hM⟩ : ∃ M, M = 2 * N - 2 := ⟨_, rfl⟩
      have hMl : M ≤ l.length := by omega
      have hlM : l.length ≤ 10000 := by
       have h8 := rowS_length SP j
       have h7 := unhide HSPL
       omega
      have hMz : 2 * (N : Int) - 2 = (M : Int) := by omega
      obtain ⟨hv, hl0⟩ | ⟨gr, cr, hv, hlc, hgr, hat⟩ := unhide HP
      ·exfalso
       subst hl0
       simp at hMl
       omega
      ·subst hv
       have hMc : (M : Int) ≤ (cr : Int) := by omega
       have hbk := unhide HBK gr rfl
       have HATR := hide hat
       have HM := hide hM
       obtain ⟨ll, hll⟩ : ∃ ll, ll = l.length := ⟨_, rfl⟩
       rw [← hll] at hMl hlc ⊢
       have HLL := hide hll
       have hM2 : 2 ≤ M := by omega
       clear hM hat hln hfl hll hlM
       have hGr : G < wr.heap.size := by have := (unhide HS).size; omega
       have hcr : CntAt wr G n (fun i => cntP ((l.map Pe.pa).take 0) i) := ((unhide HC2).step (unhide HS) (fun y => y)).congr (fun i hi => rfl)
       have HCR := hide hcr
       have hbl : BdP 1000000 (2 ^ j) (l.map Pe.pa) := by rw [unhide HR]; exact rowS_bd (unhide HBD) j
       have h2j : 2 ^ j ≤ 32768 := Nat.le_trans (Nat.pow_le_pow_right (by omega) (show j ≤ 15 by omega)) (by decide)
       have HBL := hide (And.intro hbl h2j)
       obtain ⟨w5, hw5⟩ : ∃ W, W = wr := ⟨_, rfl⟩
       rw [← hw5] at HCR HATR HP HL HS hgr hGr ⊢
       clear hw5 hcr hbl h2j
       go_wp2_with fail
       go_loopg [47] M (fun kx u47 wq => ∃ t : Nat, u47 = .int .i64 (t : Nat) ∧ t ≤ M ∧ kx = M - t ∧ Hid (CntAt wq G n (fun i => cntP ((l.map Pe.pa).take t) i)) ∧ Hid (Step (fun k => k = G) w5 wq))
       case atStart => exact ⟨0, rfl, by omega, rfl, HCR, Step.refl _ _⟩
       case round =>
        clear HCR
        obtain ⟨t, rfl, htM, hkx5, HCT, HST5⟩ := hrel
        by_cases hlt5 : t < M
        ·have hlt5z : (t : Int) < (M : Int) := by omega
         have hll := unhide HLL
         have htl : t < l.length := by omega
         obtain ⟨a0, a1, _, _⟩ := (unhide HATR).step (unhide HST5) (by omega) hgr t htl
         obtain ⟨p, hp⟩ : ∃ p, p = atE l t := ⟨_, rfl⟩
         rw [← hp] at a0 a1
         have hpm : p ∈ l := by rw [hp]; exact atE_mem htl
         have hpt : (l.map Pe.pa)[t]? = some p.pa := by
          rw [List.getElem?_map, hp]; unfold atE; rw [List.getElem?_eq_getElem htl]; rfl
         obtain ⟨y1, y2⟩ := unhide HL p hpm
         have hsp := y1.step (unhide HST5) (by omega)
         have hpv : p.v = .slice (some ⟨p.g, 0, none⟩) p.s.length p.cap := rfl
         rw [hpv] at a1
         obtain ⟨pn, hpn⟩ : ∃ c, c = p.s.length := ⟨_, rfl⟩
         obtain ⟨pg, hpg⟩ : ∃ c, c = p.g := ⟨_, rfl⟩
         obtain ⟨pk, hpk⟩ : ∃ c, c = p.cap := ⟨_, rfl⟩
         obtain ⟨pc, hpc⟩ : ∃ c : Int, c = (p.c : Int) := ⟨_, rfl⟩
         rw [← hpc] at a0
         rw [← hpn, ← hpg, ← hpk] at a1
         have hpb := ((unhide HBL).1 p.pa (List.mem_map_of_mem hpm)).2.2
         have hpb2 : pn ≤ 32768 := by have := (unhide HBL).2; rw [hpn]; exact Nat.le_trans hpb this
         have hcb : ∀ i, cntP ((l.map Pe.pa).take t) i ≤ 2000 * 32768 := fun i => by
          have h9 := cntP_bd i _ t (unhide HBL).1
          exact Nat.le_trans h9 (Nat.mul_le_mul (by omega) (unhide HBL).2)
         have hin : ∀ s x, p.s[s]? = some x → x < n := fun s x hx => unhide HIN p.pa (by rw [← unhide HR]; exact List.mem_map_of_mem hpm) x (List.mem_of_getElem? hx)
         have HPP := hide (And.intro hpt (And.intro hpn (And.intro hpg (And.intro hsp hin))))
         have HCB := hide hcb
         have e0 : ((t : Int)).toNat = t := by omega
         have p0 : (0 : Int) ≤ (t : Int) := by omega
         have hpgG : G < pg := by omega
         have hgrw : gr < wr.heap.size := by have := (unhide HST5).size; omega
         have hz5 := (unhide HST5).size
         have hsx := hsp.2.1
         rw [← hpg] at hsx
         clear hp hpm hpt y1 y2 hsp hpv hpn hpg hpk hpc hpb hcb hin hll htl
         go_wp2_with fail
         obtain ⟨w6, hw6⟩ : ∃ W, W = wr.alloc (.cells #[.int .i64 pc, .slice (some ⟨pg, 0, none⟩) pn pk] 243) := ⟨_, rfl⟩
         rw [← hw6]
         have h6 : Step (fun _ => False) wr w6 := by rw [hw6]; exact (Step.refl _ _).alloc _
         have hc6 : CntAt w6 G n (fun i => cntP ((l.map Pe.pa).take t) i + (p.s.take 0).count i) := ((unhide HCT).step h6 (fun y => y)).congr (fun i hi => by simp)
         have hs6 : Step (fun k => k = G) w5 w6 := (unhide HST5).trans (h6.mono (fun _ y => y.elim))
         obtain ⟨q1, q2, q3, q4, q5⟩ := unhide HPP
         have hq4 := q4.step h6 (fun y => y)
         have HQ4 := hide hq4
         have HC6 := hide hc6
         have HS6 := hide hs6
         have hz6 := h6.size
         clear hw6 h6 hc6 hs6 hq4 q1 q2 q3 q4 q5 HCT HST5 a0 a1
         go_loopg [54] pn (fun kx u54 wq => ∃ s : Nat, u54 = .int .i64 (s : Nat) ∧ s ≤ pn ∧ kx = pn - s ∧ Hid (CntAt wq G n (fun i => cntP ((l.map Pe.pa).take t) i + (p.s.take s).count i)) ∧ Hid (Step (fun k => k = G) w5 wq) ∧ Hid (SyAt wq p))
         case atStart => exact ⟨0, rfl, by omega, rfl, HC6, HS6, HQ4⟩
         case round =>
          clear HC6 HS6 HQ4
          obtain ⟨s, rfl, hsp, hkx6, HCT, HST5, HSP⟩ := hrel
          obtain ⟨q1, q2, q3, q4, q5⟩ := unhide HPP
          by_cases hlt6 : s < pn
          ·have hlt6z : (s : Int) < (pn : Int) := by omega
           obtain ⟨x, hx⟩ : ∃ x, p.s[s]? = some x := ⟨_, List.getElem?_eq_getElem (by omega)⟩
           have hxn := q5 s x hx
           have hcx := (unhide HSP).2.2 s x hx
           rw [← q3] at hcx
           have cG := (unhide HCT).cell x hxn
           have fG := (unhide HCT).free x
           have hcb := unhide HCB x
           have hcn : (p.s.take s).count x ≤ s := Nat.le_trans List.count_le_length (by rw [List.length_take]; omega)
           obtain ⟨c, hcd⟩ : ∃ c, c = cntP ((l.map Pe.pa).take t) x + (p.s.take s).count x := ⟨_, rfl⟩
           dsimp only at cG
           rw [← hcd] at cG
           have hcm : c ≤ 100000000 := by omega
           have ex : ((x : Int)).toNat = x := by omega
           have es : ((s : Int)).toNat = s := by omega
           have px : (0 : Int) ≤ (x : Int) := by omega
           have ps : (0 : Int) ≤ (s : Int) := by omega
           have qx : (x : Int) < (n : Int) := by omega
           have hnew : CntAt (wr.setCell ⟨G, x, none⟩ (.int .i64 ((c + 1 : Nat) : Int))) G n (fun i => cntP ((l.map Pe.pa).take t) i + (p.s.take (s + 1)).count i) := by
            refine ((unhide HCT).set x (.int .i64 ((c + 1 : Nat) : Int))).congr (fun i hi => ?_)
            dsimp only
            rw [count_take_succ hx i]
            by_cases e : i = x
            ·subst e
             simp only [if_pos]
             rw [hcd]
             congr 1
            ·simp only [if_neg e, Nat.add_zero]
           have hsnew := (unhide HST5).setCell (p := ⟨G, x, none⟩) rfl (.int .i64 ((c + 1 : Nat) : Int))
           have hpnew := (unhide HSP).step ((Step.refl (fun k => k = G) wr).setCell (p := ⟨G, x, none⟩) rfl (.int .i64 ((c + 1 : Nat) : Int))) (by omega)
           have hcz : (c : Int) + 1 = ((c + 1 : Nat) : Int) := by omega
           rw [← hcz] at hnew hsnew hpnew
           have HN1 := hide hnew
           have HN2 := hide hsnew
           have HN3 := hide hpnew
           clear q1 q2 q3 q4 q5 hx hcd hcb hcn hnew hsnew hpnew hcz HCT HST5 HSP
           go_wp2_with fail
           go_roundg (pn - (s + 1))
           case measure => omega
           case rel => exact ⟨s + 1, by go_num, by omega, rfl, HN1, HN2, HN3⟩
          ·have hlt6z : ¬ (s : Int) < (pn : Int) := by omega
           have hss : s = pn := by omega
           have hfin : CntAt wr G n (fun i => cntP ((l.map Pe.pa).take (t + 1)) i) := (unhide HCT).congr (fun i hi => by
            dsimp only
            rw [cntP_take_succ q1 i, hss, q2, List.take_length]; rfl)
           have HF := hide hfin
           clear q1 q2 q3 q4 q5 hfin hss HCT
           go_wp2_with fail
           go_roundg (M - (t + 1))
           case measure => omega
           case rel => exact ⟨t + 1, by go_num, by omega, rfl, HF, HST5⟩
        ·have hlt5z : ¬ (t : Int) < (M : Int) := by omega
         have htt : t = M := by omega
         subst htt
         go_wp2_with fail
         go_ret
         have hgw := unhide HGW
         refine ⟨G, rfl, by omega, (unhide HCT).congr (fun i hi => ?_), ((unhide HST2).trans (unhide HS)).trans' (unhide HST5) (fun i hi y => by omega)⟩
         have h9 := unhide HLEN i hi
         have h8 := unhide HSL
         rw [h9, if_neg (by omega), unhide HR, unhide HM, h8]
end Go.Proofs.YtbpahojchgpdnaaGreatDoor
