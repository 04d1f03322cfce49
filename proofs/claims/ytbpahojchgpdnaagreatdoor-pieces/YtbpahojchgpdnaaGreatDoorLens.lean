/- Proved here: what readLength and readDistance do, whatever the bits are. -/
import Derived.Test.YtbpahojchgpdnaaGreatDoorGCoding
set_option maxRecDepth 20000
set_option maxHeartbeats 4000000
namespace Go.Proofs.YtbpahojchgpdnaaGreatDoor
open Go.RowKit Go.Bel Go.Maps
theorem rLength_bits (B : List Nat) (q c b l : Nat) (h1 : 265 ≤ c) (h2 : c ≤ 284) (hb : (c - 261) / 4 = b) (hl : (4 + (c - 265) % 4) * 2 ^ b + 3 = l) :
  rLength B q c = if q + b ≤ 8 * B.length then .ok (l + numAt B q b) (q + b) else .miss := by
 unfold rLength
 rw [if_neg (by omega), if_neg (by omega), if_neg (by omega), hb, hl]
theorem readLength_any (f g off cap z q c : Nat) (B : List Nat) (w : World)
  (hF : w.heap[f]? = some (.cells #[.slice (fedA g off B.length) B.length cap, .int .i64 (q : Nat), .int .i64 (z : Nat)] 91 (0, 0))) (hS : Src w g off B) (hgf : g ≠ f) (hq : q ≤ 8 * B.length) (hc : 257 ≤ c) (hc2 : c < 100000) :
  Calls Tryz.prog 201 #[.pointer (some ⟨f, 0, none⟩), .int .i64 (c : Nat)] w fun e w' => RP (rLength B q c) nat (nat 0) f w e w' := by
 have HF := hide hF
 have HFIN := hide (Fed.refl hF)
 clear hF
 obtain ⟨res, hre⟩ : ∃ r, r = rLength B q c := ⟨_, rfl⟩
 rw [← hre]
 by_cases h1 : 285 < c
 ·have hr : res = .no 9 := by rw [hre]; unfold rLength; rw [if_pos h1]
  have HR := hide hr
  clear hre hr
  go_enter Tryz.func201, Tryz.ntmps201
  go_wp2_with fail
  go_ret2
  rw [unhide HR]
  exact ⟨rfl, _, unhide HFIN⟩
 by_cases h2 : c < 265
 ·have hr : res = .ok (c - 257 + 3) q := by rw [hre]; unfold rLength; rw [if_neg h1, if_neg (by omega), if_pos h2]
  have HR := hide hr
  clear hre hr
  have hne : ((c : Int) == 285) = false := beq_eq_false_iff_ne.2 (by omega)
  go_enter Tryz.func201, Tryz.ntmps201
  go_wp2_with fail
  go_ret2
  rw [unhide HR]
  refine ⟨?_, unhide HFIN⟩
  have e : (c : Int) - 257 + 3 = ((c - 257 + 3 : Nat) : Int) := by omega
  rw [e]
  rfl
 by_cases h3 : c = 285
 ·subst h3
  have HR := hide (show res = .ok 258 q by rw [hre]; rfl)
  clear hre
  go_enter Tryz.func201, Tryz.ntmps201
  go_wp2_with fail
  go_ret2
  rw [unhide HR]
  exact ⟨rfl, unhide HFIN⟩
 have hcs : c = 265 ∨ c = 266 ∨ c = 267 ∨ c = 268 ∨ c = 269 ∨ c = 270 ∨ c = 271 ∨ c = 272 ∨ c = 273 ∨ c = 274 ∨ c = 275 ∨ c = 276 ∨ c = 277 ∨ c = 278 ∨ c = 279 ∨ c = 280 ∨ c = 281 ∨ c = 282 ∨ c = 283 ∨ c = 284 := by omega
 obtain ⟨b, hb⟩ : ∃ b, (c - 261) / 4 = b := ⟨_, rfl⟩
 obtain ⟨l, hl9⟩ : ∃ l, (4 + (c - 265) % 4) * 2 ^ b + 3 = l := ⟨_, rfl⟩
 rw [rLength_bits B q c b l (by omega) (by omega) hb hl9] at hre
 clear h1 h2 h3 hc hc2
 have hnl := numAt_lt B q b
 by_cases hthere : q + b ≤ 8 * B.length
 ·rw [if_pos hthere] at hre
  have HR := hide hre
  clear hre
  rcases hcs with rfl | rfl | rfl | rfl | rfl | rfl | rfl | rfl | rfl | rfl | rfl | rfl | rfl | rfl | rfl | rfl | rfl | rfl | rfl | rfl
  all_goals
   simp only [Nat.reduceDiv, Nat.reduceSub] at hb
   subst hb
   simp only [Nat.reduceSub, Nat.reduceMod, Nat.reducePow, Nat.reduceMul, Nat.reduceAdd] at hl9
   subst hl9
   go_enter Tryz.func201, Tryz.ntmps201
   go_wp2_with fail
   refine (feedNum_ok f g off cap z q _ B w (unhide HF) hS hgf (by omega) hthere).mono ?_
   rintro e w1 ⟨rfl, hf1⟩
   go_wp2_with fail
   go_ret2
   rw [unhide HR]
   exact ⟨rfl, hf1⟩
 ·rw [if_neg hthere] at hre
  have HR := hide hre
  clear hre hl9 hnl
  rcases hcs with rfl | rfl | rfl | rfl | rfl | rfl | rfl | rfl | rfl | rfl | rfl | rfl | rfl | rfl | rfl | rfl | rfl | rfl | rfl | rfl
  all_goals
   simp only [Nat.reduceDiv, Nat.reduceSub] at hb
   subst hb
   go_enter Tryz.func201, Tryz.ntmps201
   go_wp2_with fail
   refine (feedNum_miss f g off cap z q _ B w (unhide HF) hS hgf (by omega) hq (Nat.lt_of_not_le hthere)).mono ?_
   rintro e w1 ⟨rfl, hf1⟩
   go_wp2_with fail
   rw [unhide HR]
   exact ⟨rfl, rfl, _, hf1⟩
end Go.Proofs.YtbpahojchgpdnaaGreatDoor
namespace Go.Proofs.YtbpahojchgpdnaaGreatDoor
open Go.RowKit Go.Bel Go.Maps
theorem rDist_bits (D : Dealt) (B : List Nat) (q s q' b l : Nat) (hs : rSym D B q = .ok s q') (h1 : 4 ≤ s) (h2 : s ≤ 29) (hb : s / 2 - 1 = b) (hl : (2 + s % 2) * 2 ^ b + 1 = l) :
  rDist D B q = if q' + b ≤ 8 * B.length then .ok (l + numAt B q' b) (q' + b) else .miss := by
 unfold rDist
 rw [hs]
 dsimp only
 rw [if_neg (by omega), if_neg (by omega), hb, hl]
def FarT (w : World) (v : Value) (D : Dealt) (f : Nat) : Prop := (v = .map none ∧ D.longest = 0) ∨ ∃ mb, v = .map (some mb) ∧ mb ≠ f ∧ TabAt w mb D.tab
theorem readFar (f g off cap z p : Nat) (x : Option Nat) (D : Dealt) (B : List Nat) (w : World)
  (hF : w.heap[f]? = some (.cells #[.slice (fedA g off B.length) B.length cap, .int .i64 (p : Nat), .int .i64 (z : Nat)] 91 (0, 0))) (hS : Src w g off B) (hgf : g ≠ f) (hT : FarT w (.map x) D f) (hl : D.longest ≤ 15) (hp : p ≤ 8 * B.length) :
  Calls Tryz.prog 191 #[.agg #[.map x, .int .i64 (D.longest : Nat)], .pointer (some ⟨f, 0, none⟩)] w
   fun e w' => RP (rSym D B p) nat (nat 0) f w e w' := by
 rcases hT with ⟨hx, h0⟩ | ⟨mb, hx, hmf, ht⟩
 ·rw [h0]
  have hr : rSym D B p = .no 9 := by unfold rSym; rw [h0]; rfl
  rw [hr]
  exact read_zero f x w _ p hF
 ·cases hx
  exact read_any f g off cap z p mb D B w hF hS hgf ht hmf hl hp
set_option maxHeartbeats 8000000 in
theorem readDistance_any (f g off cap z q : Nat) (x : Option Nat) (D : Dealt) (B : List Nat) (w : World)
  (hF : w.heap[f]? = some (.cells #[.slice (fedA g off B.length) B.length cap, .int .i64 (q : Nat), .int .i64 (z : Nat)] 91 (0, 0))) (hS : Src w g off B) (hgf : g ≠ f) (hT : FarT w (.map x) D f) (hl : D.longest ≤ 15) (hq : q ≤ 8 * B.length) (hsy : ∀ c s, D.tab c = some s → s < 100000) :
  Calls Tryz.prog 202 #[.pointer (some ⟨f, 0, none⟩), .agg #[.map x, .int .i64 (D.longest : Nat)]] w fun e w' => RP (rDist D B q) nat (nat 0) f w e w' := by
 obtain ⟨box, hbox⟩ : ∃ o, o = Obj.cells #[.map x, .int .i64 (D.longest : Nat)] 123 := ⟨_, rfl⟩
 have hFa := Fed.alloc0 hF box
 have hT1 : FarT (w.alloc box) (.map x) D f := by
  rcases hT with h | ⟨mb, h1, h2, h3⟩
  ·exact .inl h
  ·exact .inr ⟨mb, h1, h2, h3.step hFa.step h2⟩
 have hrd := readFar f g off cap z q x D B (w.alloc box) (hFa.feed _ _ _ _ hF) (hS.step hFa.step hgf) hgf hT1 hl hq
 rw [hbox] at hrd hFa
 have HRD := hide hrd
 have HFA := hide hFa
 have HF := hide hF
 have HS := hide hS
 obtain ⟨res, hre⟩ : ∃ r, r = rDist D B q := ⟨_, rfl⟩
 rw [← hre]
 clear hF hrd hFa hT1 hT hbox
 cases hs : rSym D B q with
 | no e =>
  have he := rSym_no hs
  subst he
  have HR := hide (show res = .no 9 by rw [hre]; unfold rDist; rw [hs])
  have h1 := unhide HRD
  rw [hs] at h1
  have H1 := hide h1
  clear h1 hre hs HRD
  go_enter Tryz.func202, Tryz.ntmps202
  go_wp2_with fail
  refine (unhide H1).mono ?_
  rintro e w1 ⟨rfl, q1, hf1⟩
  have HFIN := hide ((unhide HFA).trans hf1)
  clear hf1
  go_wp2_with fail
  go_ret2
  rw [unhide HR]
  exact ⟨rfl, _, unhide HFIN⟩
 | miss =>
  have HR := hide (show res = .miss by rw [hre]; unfold rDist; rw [hs])
  have h1 := unhide HRD
  rw [hs] at h1
  have H1 := hide h1
  clear h1 hre hs HRD
  go_enter Tryz.func202, Tryz.ntmps202
  go_wp2_with fail
  refine (unhide H1).mono ?_
  rintro e w1 ⟨rfl, q1, hf1⟩
  have HFIN := hide ((unhide HFA).trans hf1)
  clear hf1
  go_wp2_with fail
  rw [unhide HR]
  exact ⟨rfl, rfl, _, unhide HFIN⟩
 | ok s q1 =>
  have hso := rSym_ok hs
  have hs6 := hsy _ _ hso.2.2.2
  have hq1 : q1 ≤ 8 * B.length := hso.2.1
  have h1 := unhide HRD
  rw [hs] at h1
  have H1 := hide h1
  clear h1 HRD hso hsy
  by_cases h30 : 30 ≤ s
  ·have HR := hide (show res = .no 9 by rw [hre]; unfold rDist; rw [hs]; dsimp only; rw [if_pos h30])
   clear hre hs
   go_enter Tryz.func202, Tryz.ntmps202
   go_wp2_with fail
   refine (unhide H1).mono ?_
   rintro e w1 ⟨rfl, hf1⟩
   have HFIN := hide ((unhide HFA).trans hf1)
   clear hf1
   go_wp2_with fail
   go_ret2
   rw [unhide HR]
   exact ⟨rfl, _, unhide HFIN⟩
  by_cases h4 : s < 4
  ·have HR := hide (show res = .ok (s + 1) q1 by rw [hre]; unfold rDist; rw [hs]; dsimp only; rw [if_neg h30, if_pos h4])
   clear hre hs
   go_enter Tryz.func202, Tryz.ntmps202
   go_wp2_with fail
   refine (unhide H1).mono ?_
   rintro e w1 ⟨rfl, hf1⟩
   have HFIN := hide ((unhide HFA).trans hf1)
   clear hf1
   go_wp2_with fail
   go_ret2
   rw [unhide HR]
   exact ⟨rfl, unhide HFIN⟩
  have hcs : s = 4 ∨ s = 5 ∨ s = 6 ∨ s = 7 ∨ s = 8 ∨ s = 9 ∨ s = 10 ∨ s = 11 ∨ s = 12 ∨ s = 13 ∨ s = 14 ∨ s = 15 ∨ s = 16 ∨ s = 17 ∨ s = 18 ∨ s = 19 ∨ s = 20 ∨ s = 21 ∨ s = 22 ∨ s = 23 ∨ s = 24 ∨ s = 25 ∨ s = 26 ∨ s = 27 ∨ s = 28 ∨ s = 29 := by omega
  clear h30 h4 hs6
  obtain ⟨b, hb⟩ : ∃ b, s / 2 - 1 = b := ⟨_, rfl⟩
  obtain ⟨l, hl9⟩ : ∃ l, (2 + s % 2) * 2 ^ b + 1 = l := ⟨_, rfl⟩
  rw [rDist_bits D B q s q1 b l hs (by omega) (by omega) hb hl9] at hre
  have hnl := numAt_lt B q1 b
  by_cases hthere : q1 + b ≤ 8 * B.length
  ·rw [if_pos hthere] at hre
   have HR := hide hre
   clear hre hs
   rcases hcs with rfl | rfl | rfl | rfl | rfl | rfl | rfl | rfl | rfl | rfl | rfl | rfl | rfl | rfl | rfl | rfl | rfl | rfl | rfl | rfl | rfl | rfl | rfl | rfl | rfl | rfl
   all_goals
    simp only [Nat.reduceDiv, Nat.reduceSub] at hb
    subst hb
    simp only [Nat.reduceMod, Nat.reducePow, Nat.reduceMul, Nat.reduceAdd] at hl9
    subst hl9
    go_enter Tryz.func202, Tryz.ntmps202
    go_wp2_with fail
    refine (unhide H1).mono ?_
    rintro e w1 ⟨rfl, hf1⟩
    have hf2 := (unhide HFA).trans hf1
    have HF2 := hide hf2
    clear hf1 hf2
    go_wp2_with fail
    refine (feedNum_ok f g off cap z q1 _ B w1 ((unhide HF2).feed _ _ _ _ (unhide HF)) ((unhide HS).step (unhide HF2).step hgf) hgf (by omega) hthere).mono ?_
    rintro e w2 ⟨rfl, hf2⟩
    have HFIN := hide ((unhide HF2).trans hf2)
    clear hf2
    go_wp2_with fail
    go_ret2
    rw [unhide HR]
    exact ⟨rfl, unhide HFIN⟩
  ·rw [if_neg hthere] at hre
   have HR := hide hre
   clear hre hs hl9 hnl
   rcases hcs with rfl | rfl | rfl | rfl | rfl | rfl | rfl | rfl | rfl | rfl | rfl | rfl | rfl | rfl | rfl | rfl | rfl | rfl | rfl | rfl | rfl | rfl | rfl | rfl | rfl | rfl
   all_goals
    simp only [Nat.reduceDiv, Nat.reduceSub] at hb
    subst hb
    go_enter Tryz.func202, Tryz.ntmps202
    go_wp2_with fail
    refine (unhide H1).mono ?_
    rintro e w1 ⟨rfl, hf1⟩
    have hf2 := (unhide HFA).trans hf1
    have HF2 := hide hf2
    clear hf1 hf2
    go_wp2_with fail
    refine (feedNum_miss f g off cap z q1 _ B w1 ((unhide HF2).feed _ _ _ _ (unhide HF)) ((unhide HS).step (unhide HF2).step hgf) hgf (by omega) hq1 (Nat.lt_of_not_le hthere)).mono ?_
    rintro e w2 ⟨rfl, hf2⟩
    have HFIN := hide ((unhide HF2).trans hf2)
    clear hf2
    go_wp2_with fail
    rw [unhide HR]
    exact ⟨rfl, rfl, _, unhide HFIN⟩
end Go.Proofs.YtbpahojchgpdnaaGreatDoor
