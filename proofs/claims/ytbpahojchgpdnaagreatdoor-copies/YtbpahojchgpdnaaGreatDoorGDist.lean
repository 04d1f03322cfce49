/- Proved here: what readDistance does, whatever the bits are. -/
import Derived.Test.YtbpahojchgpdnaaGreatDoorGLen
import Derived.Test.YtbpahojchgpdnaaGreatDoorGRow
import Derived.Test.YtbpahojchgpdnaaGreatDoorGCoding
namespace Go.Proofs.YtbpahojchgpdnaaGreatDoor
open Go.RowKit Go.Bel Go.Maps

theorem rDist_bits (D : Dealt) (B : List Nat) (q s q' b l : Nat) (hs : rSym D B q = .ok s q') (h1 : 4 ≤ s) (h2 : s ≤ 29) (hb : s / 2 - 1 = b) (hl : (2 + s % 2) * 2 ^ b + 1 = l) :
    rDist D B q = if q' + b ≤ 8 * B.length then .ok (l + numAt B q' b) (q' + b) else .miss := by
  unfold rDist
  rw [hs]
  dsimp only
  rw [if_neg (by omega), if_neg (by omega), hb, hl]

/- a table of distances as a decoder holds it -/
def FarT (w : World) (v : Value) (D : Dealt) (f : Nat) : Prop := (v = .map none ∧ D.longest = 0) ∨ ∃ mb, v = .map (some mb) ∧ mb ≠ f ∧ TabAt w mb D.tab

theorem readFar (f g off cap z p : Nat) (x : Option Nat) (D : Dealt) (B : List Nat) (w : World)
    (hF : w.heap[f]? = some (.cells #[.slice (some ⟨g, off, none⟩) B.length cap, .int .i64 (p : Nat), .int .i64 (z : Nat)] 91 (0, 0))) (hS : Src w g off B) (hgf : g ≠ f) (hT : FarT w (.map x) D f) (hl : D.longest ≤ 15) (hp : p ≤ 8 * B.length) :
    Calls Tryz.prog 191 #[.agg #[.map x, .int .i64 (D.longest : Nat)], .pointer (some ⟨f, 0, none⟩)] w
      fun e w' => RP (rSym D B p) nat (nat 0) f w e w' := by
  rcases hT with ⟨hx, h0⟩ | ⟨mb, hx, hmf, ht⟩
  · rw [h0]
    have hr : rSym D B p = .no 9 := by unfold rSym; rw [h0]; rfl
    rw [hr]
    exact read_zero f x w _ p hF
  · cases hx
    exact read_any f g off cap z p mb D B w hF hS hgf ht hmf hl hp

set_option maxRecDepth 20000 in
set_option maxHeartbeats 8000000 in
theorem readDistance_any (f g off cap z q : Nat) (x : Option Nat) (D : Dealt) (B : List Nat) (w : World)
    (hF : w.heap[f]? = some (.cells #[.slice (some ⟨g, off, none⟩) B.length cap, .int .i64 (q : Nat), .int .i64 (z : Nat)] 91 (0, 0))) (hS : Src w g off B) (hgf : g ≠ f) (hT : FarT w (.map x) D f) (hl : D.longest ≤ 15) (hq : q ≤ 8 * B.length) (hsy : ∀ c s, D.tab c = some s → s < 100000) :
    Calls Tryz.prog 202 #[.pointer (some ⟨f, 0, none⟩), .agg #[.map x, .int .i64 (D.longest : Nat)]] w fun e w' => RP (rDist D B q) nat (nat 0) f w e w' := by
  obtain ⟨box, hbox⟩ : ∃ o, o = Obj.cells #[.map x, .int .i64 (D.longest : Nat)] 123 := ⟨_, rfl⟩
  have hFa := Fed.alloc0 hF box
  have hT1 : FarT (w.alloc box) (.map x) D f := by
    rcases hT with h | ⟨mb, h1, h2, h3⟩
    · exact .inl h
    · exact .inr ⟨mb, h1, h2, h3.step hFa.step h2⟩
  have hrd := readFar f g off cap z q x D B (w.alloc box) (hFa.feed _ _ _ _ hF) (hS.step hFa.step hgf) hgf hT1 hl hq
  rw [hbox] at hrd hFa
  have HRD := hide hrd
  have HFA := hide hFa
  have HF := hide hF
  have HS := hide hS
  obtain ⟨res, hre⟩ : ∃ r, r = rDist D B q := ⟨_, rfl⟩
  rw [← hre]
  clear hF hrd hFa hT1 hT hbox
  cases hs : rSym D B q with
  | no e =>
    have he := rSym_no hs
    subst he
    have HR := hide (show res = .no 9 by rw [hre]; unfold rDist; rw [hs])
    have h1 := unhide HRD
    rw [hs] at h1
    have H1 := hide h1
    clear h1 hre hs HRD
    go_enter Tryz.func202, Tryz.ntmps202
    go_wp2_with fail
    refine (unhide H1).mono ?_
    rintro e w1 ⟨rfl, q1, hf1⟩
    have HFIN := hide ((unhide HFA).trans hf1)
    clear hf1
    go_wp2_with fail
    go_ret2
    rw [unhide HR]
    exact ⟨rfl, _, unhide HFIN⟩
  | miss =>
    have HR := hide (show res = .miss by rw [hre]; unfold rDist; rw [hs])
    have h1 := unhide HRD
    rw [hs] at h1
    have H1 := hide h1
    clear h1 hre hs HRD
    go_enter Tryz.func202, Tryz.ntmps202
    go_wp2_with fail
    refine (unhide H1).mono ?_
    rintro e w1 ⟨rfl, q1, hf1⟩
    have HFIN := hide ((unhide HFA).trans hf1)
    clear hf1
    go_wp2_with fail
    rw [unhide HR]
    exact ⟨rfl, rfl, _, unhide HFIN⟩
  | ok s q1 =>
    have hso := rSym_ok hs
    have hs6 := hsy _ _ hso.2.2.2
    have hq1 : q1 ≤ 8 * B.length := hso.2.1
    have h1 := unhide HRD
    rw [hs] at h1
    have H1 := hide h1
    clear h1 HRD hso hsy
    by_cases h30 : 30 ≤ s
    · have HR := hide (show res = .no 9 by rw [hre]; unfold rDist; rw [hs]; dsimp only; rw [if_pos h30])
      clear hre hs
      go_enter Tryz.func202, Tryz.ntmps202
      go_wp2_with fail
      refine (unhide H1).mono ?_
      rintro e w1 ⟨rfl, hf1⟩
      have HFIN := hide ((unhide HFA).trans hf1)
      clear hf1
      go_wp2_with fail
      go_ret2
      rw [unhide HR]
      exact ⟨rfl, _, unhide HFIN⟩
    by_cases h4 : s < 4
    · have HR := hide (show res = .ok (s + 1) q1 by rw [hre]; unfold rDist; rw [hs]; dsimp only; rw [if_neg h30, if_pos h4])
      clear hre hs
      go_enter Tryz.func202, Tryz.ntmps202
      go_wp2_with fail
      refine (unhide H1).mono ?_
      rintro e w1 ⟨rfl, hf1⟩
      have HFIN := hide ((unhide HFA).trans hf1)
      clear hf1
      go_wp2_with fail
      go_ret2
      rw [unhide HR]
      exact ⟨rfl, unhide HFIN⟩
    have hcs : s = 4 ∨ s = 5 ∨ s = 6 ∨ s = 7 ∨ s = 8 ∨ s = 9 ∨ s = 10 ∨ s = 11 ∨ s = 12 ∨ s = 13 ∨ s = 14 ∨ s = 15 ∨ s = 16 ∨ s = 17 ∨ s = 18 ∨ s = 19 ∨ s = 20 ∨ s = 21 ∨ s = 22 ∨ s = 23 ∨ s = 24 ∨ s = 25 ∨ s = 26 ∨ s = 27 ∨ s = 28 ∨ s = 29 := by omega
    clear h30 h4 hs6
    rcases hcs with rfl | rfl | rfl | rfl | rfl | rfl | rfl | rfl | rfl | rfl | rfl | rfl | rfl | rfl | rfl | rfl | rfl | rfl | rfl | rfl | rfl | rfl | rfl | rfl | rfl | rfl
    · rw [rDist_bits D B q 4 q1 1 5 hs (by omega) (by omega) rfl rfl] at hre
      by_cases hthere : q1 + 1 ≤ 8 * B.length
      · rw [if_pos hthere] at hre
        have HR := hide hre
        have hnl := numAt_lt B q1 1
        clear hre hs
        go_enter Tryz.func202, Tryz.ntmps202
        go_wp2_with fail
        refine (unhide H1).mono ?_
        rintro e w1 ⟨rfl, hf1⟩
        have hf2 := (unhide HFA).trans hf1
        have HF2 := hide hf2
        clear hf1 hf2
        go_wp2_with fail
        refine (feedNum_ok f g off cap z q1 1 B w1 ((unhide HF2).feed _ _ _ _ (unhide HF)) ((unhide HS).step (unhide HF2).step hgf) hgf (by omega) hthere).mono ?_
        rintro e w2 ⟨rfl, hf2⟩
        have HFIN := hide ((unhide HF2).trans hf2)
        clear hf2
        go_wp2_with fail
        go_ret2
        rw [unhide HR]
        exact ⟨rfl, unhide HFIN⟩
      · rw [if_neg hthere] at hre
        have HR := hide hre
        clear hre hs
        go_enter Tryz.func202, Tryz.ntmps202
        go_wp2_with fail
        refine (unhide H1).mono ?_
        rintro e w1 ⟨rfl, hf1⟩
        have hf2 := (unhide HFA).trans hf1
        have HF2 := hide hf2
        clear hf1 hf2
        go_wp2_with fail
        refine (feedNum_miss f g off cap z q1 1 B w1 ((unhide HF2).feed _ _ _ _ (unhide HF)) ((unhide HS).step (unhide HF2).step hgf) hgf (by omega) hq1 (by omega)).mono ?_
        rintro e w2 ⟨rfl, hf2⟩
        have HFIN := hide ((unhide HF2).trans hf2)
        clear hf2
        go_wp2_with fail
        rw [unhide HR]
        exact ⟨rfl, rfl, _, unhide HFIN⟩
    · rw [rDist_bits D B q 5 q1 1 7 hs (by omega) (by omega) rfl rfl] at hre
      by_cases hthere : q1 + 1 ≤ 8 * B.length
      · rw [if_pos hthere] at hre
        have HR := hide hre
        have hnl := numAt_lt B q1 1
        clear hre hs
        go_enter Tryz.func202, Tryz.ntmps202
        go_wp2_with fail
        refine (unhide H1).mono ?_
        rintro e w1 ⟨rfl, hf1⟩
        have hf2 := (unhide HFA).trans hf1
        have HF2 := hide hf2
        clear hf1 hf2
        go_wp2_with fail
        refine (feedNum_ok f g off cap z q1 1 B w1 ((unhide HF2).feed _ _ _ _ (unhide HF)) ((unhide HS).step (unhide HF2).step hgf) hgf (by omega) hthere).mono ?_
        rintro e w2 ⟨rfl, hf2⟩
        have HFIN := hide ((unhide HF2).trans hf2)
        clear hf2
        go_wp2_with fail
        go_ret2
        rw [unhide HR]
        exact ⟨rfl, unhide HFIN⟩
      · rw [if_neg hthere] at hre
        have HR := hide hre
        clear hre hs
        go_enter Tryz.func202, Tryz.ntmps202
        go_wp2_with fail
        refine (unhide H1).mono ?_
        rintro e w1 ⟨rfl, hf1⟩
        have hf2 := (unhide HFA).trans hf1
        have HF2 := hide hf2
        clear hf1 hf2
        go_wp2_with fail
        refine (feedNum_miss f g off cap z q1 1 B w1 ((unhide HF2).feed _ _ _ _ (unhide HF)) ((unhide HS).step (unhide HF2).step hgf) hgf (by omega) hq1 (by omega)).mono ?_
        rintro e w2 ⟨rfl, hf2⟩
        have HFIN := hide ((unhide HF2).trans hf2)
        clear hf2
        go_wp2_with fail
        rw [unhide HR]
        exact ⟨rfl, rfl, _, unhide HFIN⟩
    · rw [rDist_bits D B q 6 q1 2 9 hs (by omega) (by omega) rfl rfl] at hre
      by_cases hthere : q1 + 2 ≤ 8 * B.length
      · rw [if_pos hthere] at hre
        have HR := hide hre
        have hnl := numAt_lt B q1 2
        clear hre hs
        go_enter Tryz.func202, Tryz.ntmps202
        go_wp2_with fail
        refine (unhide H1).mono ?_
        rintro e w1 ⟨rfl, hf1⟩
        have hf2 := (unhide HFA).trans hf1
        have HF2 := hide hf2
        clear hf1 hf2
        go_wp2_with fail
        refine (feedNum_ok f g off cap z q1 2 B w1 ((unhide HF2).feed _ _ _ _ (unhide HF)) ((unhide HS).step (unhide HF2).step hgf) hgf (by omega) hthere).mono ?_
        rintro e w2 ⟨rfl, hf2⟩
        have HFIN := hide ((unhide HF2).trans hf2)
        clear hf2
        go_wp2_with fail
        go_ret2
        rw [unhide HR]
        exact ⟨rfl, unhide HFIN⟩
      · rw [if_neg hthere] at hre
        have HR := hide hre
        clear hre hs
        go_enter Tryz.func202, Tryz.ntmps202
        go_wp2_with fail
        refine (unhide H1).mono ?_
        rintro e w1 ⟨rfl, hf1⟩
        have hf2 := (unhide HFA).trans hf1
        have HF2 := hide hf2
        clear hf1 hf2
        go_wp2_with fail
        refine (feedNum_miss f g off cap z q1 2 B w1 ((unhide HF2).feed _ _ _ _ (unhide HF)) ((unhide HS).step (unhide HF2).step hgf) hgf (by omega) hq1 (by omega)).mono ?_
        rintro e w2 ⟨rfl, hf2⟩
        have HFIN := hide ((unhide HF2).trans hf2)
        clear hf2
        go_wp2_with fail
        rw [unhide HR]
        exact ⟨rfl, rfl, _, unhide HFIN⟩
    · rw [rDist_bits D B q 7 q1 2 13 hs (by omega) (by omega) rfl rfl] at hre
      by_cases hthere : q1 + 2 ≤ 8 * B.length
      · rw [if_pos hthere] at hre
        have HR := hide hre
        have hnl := numAt_lt B q1 2
        clear hre hs
        go_enter Tryz.func202, Tryz.ntmps202
        go_wp2_with fail
        refine (unhide H1).mono ?_
        rintro e w1 ⟨rfl, hf1⟩
        have hf2 := (unhide HFA).trans hf1
        have HF2 := hide hf2
        clear hf1 hf2
        go_wp2_with fail
        refine (feedNum_ok f g off cap z q1 2 B w1 ((unhide HF2).feed _ _ _ _ (unhide HF)) ((unhide HS).step (unhide HF2).step hgf) hgf (by omega) hthere).mono ?_
        rintro e w2 ⟨rfl, hf2⟩
        have HFIN := hide ((unhide HF2).trans hf2)
        clear hf2
        go_wp2_with fail
        go_ret2
        rw [unhide HR]
        exact ⟨rfl, unhide HFIN⟩
      · rw [if_neg hthere] at hre
        have HR := hide hre
        clear hre hs
        go_enter Tryz.func202, Tryz.ntmps202
        go_wp2_with fail
        refine (unhide H1).mono ?_
        rintro e w1 ⟨rfl, hf1⟩
        have hf2 := (unhide HFA).trans hf1
        have HF2 := hide hf2
        clear hf1 hf2
        go_wp2_with fail
        refine (feedNum_miss f g off cap z q1 2 B w1 ((unhide HF2).feed _ _ _ _ (unhide HF)) ((unhide HS).step (unhide HF2).step hgf) hgf (by omega) hq1 (by omega)).mono ?_
        rintro e w2 ⟨rfl, hf2⟩
        have HFIN := hide ((unhide HF2).trans hf2)
        clear hf2
        go_wp2_with fail
        rw [unhide HR]
        exact ⟨rfl, rfl, _, unhide HFIN⟩
    · rw [rDist_bits D B q 8 q1 3 17 hs (by omega) (by omega) rfl rfl] at hre
      by_cases hthere : q1 + 3 ≤ 8 * B.length
      · rw [if_pos hthere] at hre
        have HR := hide hre
        have hnl := numAt_lt B q1 3
        clear hre hs
        go_enter Tryz.func202, Tryz.ntmps202
        go_wp2_with fail
        refine (unhide H1).mono ?_
        rintro e w1 ⟨rfl, hf1⟩
        have hf2 := (unhide HFA).trans hf1
        have HF2 := hide hf2
        clear hf1 hf2
        go_wp2_with fail
        refine (feedNum_ok f g off cap z q1 3 B w1 ((unhide HF2).feed _ _ _ _ (unhide HF)) ((unhide HS).step (unhide HF2).step hgf) hgf (by omega) hthere).mono ?_
        rintro e w2 ⟨rfl, hf2⟩
        have HFIN := hide ((unhide HF2).trans hf2)
        clear hf2
        go_wp2_with fail
        go_ret2
        rw [unhide HR]
        exact ⟨rfl, unhide HFIN⟩
      · rw [if_neg hthere] at hre
        have HR := hide hre
        clear hre hs
        go_enter Tryz.func202, Tryz.ntmps202
        go_wp2_with fail
        refine (unhide H1).mono ?_
        rintro e w1 ⟨rfl, hf1⟩
        have hf2 := (unhide HFA).trans hf1
        have HF2 := hide hf2
        clear hf1 hf2
        go_wp2_with fail
        refine (feedNum_miss f g off cap z q1 3 B w1 ((unhide HF2).feed _ _ _ _ (unhide HF)) ((unhide HS).step (unhide HF2).step hgf) hgf (by omega) hq1 (by omega)).mono ?_
        rintro e w2 ⟨rfl, hf2⟩
        have HFIN := hide ((unhide HF2).trans hf2)
        clear hf2
        go_wp2_with fail
        rw [unhide HR]
        exact ⟨rfl, rfl, _, unhide HFIN⟩
    · rw [rDist_bits D B q 9 q1 3 25 hs (by omega) (by omega) rfl rfl] at hre
      by_cases hthere : q1 + 3 ≤ 8 * B.length
      · rw [if_pos hthere] at hre
        have HR := hide hre
        have hnl := numAt_lt B q1 3
        clear hre hs
        go_enter Tryz.func202, Tryz.ntmps202
        go_wp2_with fail
        refine (unhide H1).mono ?_
        rintro e w1 ⟨rfl, hf1⟩
        have hf2 := (unhide HFA).trans hf1
        have HF2 := hide hf2
        clear hf1 hf2
        go_wp2_with fail
        refine (feedNum_ok f g off cap z q1 3 B w1 ((unhide HF2).feed _ _ _ _ (unhide HF)) ((unhide HS).step (unhide HF2).step hgf) hgf (by omega) hthere).mono ?_
        rintro e w2 ⟨rfl, hf2⟩
        have HFIN := hide ((unhide HF2).trans hf2)
        clear hf2
        go_wp2_with fail
        go_ret2
        rw [unhide HR]
        exact ⟨rfl, unhide HFIN⟩
      · rw [if_neg hthere] at hre
        have HR := hide hre
        clear hre hs
        go_enter Tryz.func202, Tryz.ntmps202
        go_wp2_with fail
        refine (unhide H1).mono ?_
        rintro e w1 ⟨rfl, hf1⟩
        have hf2 := (unhide HFA).trans hf1
        have HF2 := hide hf2
        clear hf1 hf2
        go_wp2_with fail
        refine (feedNum_miss f g off cap z q1 3 B w1 ((unhide HF2).feed _ _ _ _ (unhide HF)) ((unhide HS).step (unhide HF2).step hgf) hgf (by omega) hq1 (by omega)).mono ?_
        rintro e w2 ⟨rfl, hf2⟩
        have HFIN := hide ((unhide HF2).trans hf2)
        clear hf2
        go_wp2_with fail
        rw [unhide HR]
        exact ⟨rfl, rfl, _, unhide HFIN⟩
    · rw [rDist_bits D B q 10 q1 4 33 hs (by omega) (by omega) rfl rfl] at hre
      by_cases hthere : q1 + 4 ≤ 8 * B.length
      · rw [if_pos hthere] at hre
        have HR := hide hre
        have hnl := numAt_lt B q1 4
        clear hre hs
        go_enter Tryz.func202, Tryz.ntmps202
        go_wp2_with fail
        refine (unhide H1).mono ?_
        rintro e w1 ⟨rfl, hf1⟩
        have hf2 := (unhide HFA).trans hf1
        have HF2 := hide hf2
        clear hf1 hf2
        go_wp2_with fail
        refine (feedNum_ok f g off cap z q1 4 B w1 ((unhide HF2).feed _ _ _ _ (unhide HF)) ((unhide HS).step (unhide HF2).step hgf) hgf (by omega) hthere).mono ?_
        rintro e w2 ⟨rfl, hf2⟩
        have HFIN := hide ((unhide HF2).trans hf2)
        clear hf2
        go_wp2_with fail
        go_ret2
        rw [unhide HR]
        exact ⟨rfl, unhide HFIN⟩
      · rw [if_neg hthere] at hre
        have HR := hide hre
        clear hre hs
        go_enter Tryz.func202, Tryz.ntmps202
        go_wp2_with fail
        refine (unhide H1).mono ?_
        rintro e w1 ⟨rfl, hf1⟩
        have hf2 := (unhide HFA).trans hf1
        have HF2 := hide hf2
        clear hf1 hf2
        go_wp2_with fail
        refine (feedNum_miss f g off cap z q1 4 B w1 ((unhide HF2).feed _ _ _ _ (unhide HF)) ((unhide HS).step (unhide HF2).step hgf) hgf (by omega) hq1 (by omega)).mono ?_
        rintro e w2 ⟨rfl, hf2⟩
        have HFIN := hide ((unhide HF2).trans hf2)
        clear hf2
        go_wp2_with fail
        rw [unhide HR]
        exact ⟨rfl, rfl, _, unhide HFIN⟩
    · rw [rDist_bits D B q 11 q1 4 49 hs (by omega) (by omega) rfl rfl] at hre
      by_cases hthere : q1 + 4 ≤ 8 * B.length
      · rw [if_pos hthere] at hre
        have HR := hide hre
        have hnl := numAt_lt B q1 4
        clear hre hs
        go_enter Tryz.func202, Tryz.ntmps202
        go_wp2_with fail
        refine (unhide H1).mono ?_
        rintro e w1 ⟨rfl, hf1⟩
        have hf2 := (unhide HFA).trans hf1
        have HF2 := hide hf2
        clear hf1 hf2
        go_wp2_with fail
        refine (feedNum_ok f g off cap z q1 4 B w1 ((unhide HF2).feed _ _ _ _ (unhide HF)) ((unhide HS).step (unhide HF2).step hgf) hgf (by omega) hthere).mono ?_
        rintro e w2 ⟨rfl, hf2⟩
        have HFIN := hide ((unhide HF2).trans hf2)
        clear hf2
        go_wp2_with fail
        go_ret2
        rw [unhide HR]
        exact ⟨rfl, unhide HFIN⟩
      · rw [if_neg hthere] at hre
        have HR := hide hre
        clear hre hs
        go_enter Tryz.func202, Tryz.ntmps202
        go_wp2_with fail
        refine (unhide H1).mono ?_
        rintro e w1 ⟨rfl, hf1⟩
        have hf2 := (unhide HFA).trans hf1
        have HF2 := hide hf2
        clear hf1 hf2
        go_wp2_with fail
        refine (feedNum_miss f g off cap z q1 4 B w1 ((unhide HF2).feed _ _ _ _ (unhide HF)) ((unhide HS).step (unhide HF2).step hgf) hgf (by omega) hq1 (by omega)).mono ?_
        rintro e w2 ⟨rfl, hf2⟩
        have HFIN := hide ((unhide HF2).trans hf2)
        clear hf2
        go_wp2_with fail
        rw [unhide HR]
        exact ⟨rfl, rfl, _, unhide HFIN⟩
    · rw [rDist_bits D B q 12 q1 5 65 hs (by omega) (by omega) rfl rfl] at hre
      by_cases hthere : q1 + 5 ≤ 8 * B.length
      · rw [if_pos hthere] at hre
        have HR := hide hre
        have hnl := numAt_lt B q1 5
        clear hre hs
        go_enter Tryz.func202, Tryz.ntmps202
        go_wp2_with fail
        refine (unhide H1).mono ?_
        rintro e w1 ⟨rfl, hf1⟩
        have hf2 := (unhide HFA).trans hf1
        have HF2 := hide hf2
        clear hf1 hf2
        go_wp2_with fail
        refine (feedNum_ok f g off cap z q1 5 B w1 ((unhide HF2).feed _ _ _ _ (unhide HF)) ((unhide HS).step (unhide HF2).step hgf) hgf (by omega) hthere).mono ?_
        rintro e w2 ⟨rfl, hf2⟩
        have HFIN := hide ((unhide HF2).trans hf2)
        clear hf2
        go_wp2_with fail
        go_ret2
        rw [unhide HR]
        exact ⟨rfl, unhide HFIN⟩
      · rw [if_neg hthere] at hre
        have HR := hide hre
        clear hre hs
        go_enter Tryz.func202, Tryz.ntmps202
        go_wp2_with fail
        refine (unhide H1).mono ?_
        rintro e w1 ⟨rfl, hf1⟩
        have hf2 := (unhide HFA).trans hf1
        have HF2 := hide hf2
        clear hf1 hf2
        go_wp2_with fail
        refine (feedNum_miss f g off cap z q1 5 B w1 ((unhide HF2).feed _ _ _ _ (unhide HF)) ((unhide HS).step (unhide HF2).step hgf) hgf (by omega) hq1 (by omega)).mono ?_
        rintro e w2 ⟨rfl, hf2⟩
        have HFIN := hide ((unhide HF2).trans hf2)
        clear hf2
        go_wp2_with fail
        rw [unhide HR]
        exact ⟨rfl, rfl, _, unhide HFIN⟩
    · rw [rDist_bits D B q 13 q1 5 97 hs (by omega) (by omega) rfl rfl] at hre
      by_cases hthere : q1 + 5 ≤ 8 * B.length
      · rw [if_pos hthere] at hre
        have HR := hide hre
        have hnl := numAt_lt B q1 5
        clear hre hs
        go_enter Tryz.func202, Tryz.ntmps202
        go_wp2_with fail
        refine (unhide H1).mono ?_
        rintro e w1 ⟨rfl, hf1⟩
        have hf2 := (unhide HFA).trans hf1
        have HF2 := hide hf2
        clear hf1 hf2
        go_wp2_with fail
        refine (feedNum_ok f g off cap z q1 5 B w1 ((unhide HF2).feed _ _ _ _ (unhide HF)) ((unhide HS).step (unhide HF2).step hgf) hgf (by omega) hthere).mono ?_
        rintro e w2 ⟨rfl, hf2⟩
        have HFIN := hide ((unhide HF2).trans hf2)
        clear hf2
        go_wp2_with fail
        go_ret2
        rw [unhide HR]
        exact ⟨rfl, unhide HFIN⟩
      · rw [if_neg hthere] at hre
        have HR := hide hre
        clear hre hs
        go_enter Tryz.func202, Tryz.ntmps202
        go_wp2_with fail
        refine (unhide H1).mono ?_
        rintro e w1 ⟨rfl, hf1⟩
        have hf2 := (unhide HFA).trans hf1
        have HF2 := hide hf2
        clear hf1 hf2
        go_wp2_with fail
        refine (feedNum_miss f g off cap z q1 5 B w1 ((unhide HF2).feed _ _ _ _ (unhide HF)) ((unhide HS).step (unhide HF2).step hgf) hgf (by omega) hq1 (by omega)).mono ?_
        rintro e w2 ⟨rfl, hf2⟩
        have HFIN := hide ((unhide HF2).trans hf2)
        clear hf2
        go_wp2_with fail
        rw [unhide HR]
        exact ⟨rfl, rfl, _, unhide HFIN⟩
    · rw [rDist_bits D B q 14 q1 6 129 hs (by omega) (by omega) rfl rfl] at hre
      by_cases hthere : q1 + 6 ≤ 8 * B.length
      · rw [if_pos hthere] at hre
        have HR := hide hre
        have hnl := numAt_lt B q1 6
        clear hre hs
        go_enter Tryz.func202, Tryz.ntmps202
        go_wp2_with fail
        refine (unhide H1).mono ?_
        rintro e w1 ⟨rfl, hf1⟩
        have hf2 := (unhide HFA).trans hf1
        have HF2 := hide hf2
        clear hf1 hf2
        go_wp2_with fail
        refine (feedNum_ok f g off cap z q1 6 B w1 ((unhide HF2).feed _ _ _ _ (unhide HF)) ((unhide HS).step (unhide HF2).step hgf) hgf (by omega) hthere).mono ?_
        rintro e w2 ⟨rfl, hf2⟩
        have HFIN := hide ((unhide HF2).trans hf2)
        clear hf2
        go_wp2_with fail
        go_ret2
        rw [unhide HR]
        exact ⟨rfl, unhide HFIN⟩
      · rw [if_neg hthere] at hre
        have HR := hide hre
        clear hre hs
        go_enter Tryz.func202, Tryz.ntmps202
        go_wp2_with fail
        refine (unhide H1).mono ?_
        rintro e w1 ⟨rfl, hf1⟩
        have hf2 := (unhide HFA).trans hf1
        have HF2 := hide hf2
        clear hf1 hf2
        go_wp2_with fail
        refine (feedNum_miss f g off cap z q1 6 B w1 ((unhide HF2).feed _ _ _ _ (unhide HF)) ((unhide HS).step (unhide HF2).step hgf) hgf (by omega) hq1 (by omega)).mono ?_
        rintro e w2 ⟨rfl, hf2⟩
        have HFIN := hide ((unhide HF2).trans hf2)
        clear hf2
        go_wp2_with fail
        rw [unhide HR]
        exact ⟨rfl, rfl, _, unhide HFIN⟩
    · rw [rDist_bits D B q 15 q1 6 193 hs (by omega) (by omega) rfl rfl] at hre
      by_cases hthere : q1 + 6 ≤ 8 * B.length
      · rw [if_pos hthere] at hre
        have HR := hide hre
        have hnl := numAt_lt B q1 6
        clear hre hs
        go_enter Tryz.func202, Tryz.ntmps202
        go_wp2_with fail
        refine (unhide H1).mono ?_
        rintro e w1 ⟨rfl, hf1⟩
        have hf2 := (unhide HFA).trans hf1
        have HF2 := hide hf2
        clear hf1 hf2
        go_wp2_with fail
        refine (feedNum_ok f g off cap z q1 6 B w1 ((unhide HF2).feed _ _ _ _ (unhide HF)) ((unhide HS).step (unhide HF2).step hgf) hgf (by omega) hthere).mono ?_
        rintro e w2 ⟨rfl, hf2⟩
        have HFIN := hide ((unhide HF2).trans hf2)
        clear hf2
        go_wp2_with fail
        go_ret2
        rw [unhide HR]
        exact ⟨rfl, unhide HFIN⟩
      · rw [if_neg hthere] at hre
        have HR := hide hre
        clear hre hs
        go_enter Tryz.func202, Tryz.ntmps202
        go_wp2_with fail
        refine (unhide H1).mono ?_
        rintro e w1 ⟨rfl, hf1⟩
        have hf2 := (unhide HFA).trans hf1
        have HF2 := hide hf2
        clear hf1 hf2
        go_wp2_with fail
        refine (feedNum_miss f g off cap z q1 6 B w1 ((unhide HF2).feed _ _ _ _ (unhide HF)) ((unhide HS).step (unhide HF2).step hgf) hgf (by omega) hq1 (by omega)).mono ?_
        rintro e w2 ⟨rfl, hf2⟩
        have HFIN := hide ((unhide HF2).trans hf2)
        clear hf2
        go_wp2_with fail
        rw [unhide HR]
        exact ⟨rfl, rfl, _, unhide HFIN⟩
    · rw [rDist_bits D B q 16 q1 7 257 hs (by omega) (by omega) rfl rfl] at hre
      by_cases hthere : q1 + 7 ≤ 8 * B.length
      · rw [if_pos hthere] at hre
        have HR := hide hre
        have hnl := numAt_lt B q1 7
        clear hre hs
        go_enter Tryz.func202, Tryz.ntmps202
        go_wp2_with fail
        refine (unhide H1).mono ?_
        rintro e w1 ⟨rfl, hf1⟩
        have hf2 := (unhide HFA).trans hf1
        have HF2 := hide hf2
        clear hf1 hf2
        go_wp2_with fail
        refine (feedNum_ok f g off cap z q1 7 B w1 ((unhide HF2).feed _ _ _ _ (unhide HF)) ((unhide HS).step (unhide HF2).step hgf) hgf (by omega) hthere).mono ?_
        rintro e w2 ⟨rfl, hf2⟩
        have HFIN := hide ((unhide HF2).trans hf2)
        clear hf2
        go_wp2_with fail
        go_ret2
        rw [unhide HR]
        exact ⟨rfl, unhide HFIN⟩
      · rw [if_neg hthere] at hre
        have HR := hide hre
        clear hre hs
        go_enter Tryz.func202, Tryz.ntmps202
        go_wp2_with fail
        refine (unhide H1).mono ?_
        rintro e w1 ⟨rfl, hf1⟩
        have hf2 := (unhide HFA).trans hf1
        have HF2 := hide hf2
        clear hf1 hf2
        go_wp2_with fail
        refine (feedNum_miss f g off cap z q1 7 B w1 ((unhide HF2).feed _ _ _ _ (unhide HF)) ((unhide HS).step (unhide HF2).step hgf) hgf (by omega) hq1 (by omega)).mono ?_
        rintro e w2 ⟨rfl, hf2⟩
        have HFIN := hide ((unhide HF2).trans hf2)
        clear hf2
        go_wp2_with fail
        rw [unhide HR]
        exact ⟨rfl, rfl, _, unhide HFIN⟩
    · rw [rDist_bits D B q 17 q1 7 385 hs (by omega) (by omega) rfl rfl] at hre
      by_cases hthere : q1 + 7 ≤ 8 * B.length
      · rw [if_pos hthere] at hre
        have HR := hide hre
        have hnl := numAt_lt B q1 7
        clear hre hs
        go_enter Tryz.func202, Tryz.ntmps202
        go_wp2_with fail
        refine (unhide H1).mono ?_
        rintro e w1 ⟨rfl, hf1⟩
        have hf2 := (unhide HFA).trans hf1
        have HF2 := hide hf2
        clear hf1 hf2
        go_wp2_with fail
        refine (feedNum_ok f g off cap z q1 7 B w1 ((unhide HF2).feed _ _ _ _ (unhide HF)) ((unhide HS).step (unhide HF2).step hgf) hgf (by omega) hthere).mono ?_
        rintro e w2 ⟨rfl, hf2⟩
        have HFIN := hide ((unhide HF2).trans hf2)
        clear hf2
        go_wp2_with fail
        go_ret2
        rw [unhide HR]
        exact ⟨rfl, unhide HFIN⟩
      · rw [if_neg hthere] at hre
        have HR := hide hre
        clear hre hs
        go_enter Tryz.func202, Tryz.ntmps202
        go_wp2_with fail
        refine (unhide H1).mono ?_
        rintro e w1 ⟨rfl, hf1⟩
        have hf2 := (unhide HFA).trans hf1
        have HF2 := hide hf2
        clear hf1 hf2
        go_wp2_with fail
        refine (feedNum_miss f g off cap z q1 7 B w1 ((unhide HF2).feed _ _ _ _ (unhide HF)) ((unhide HS).step (unhide HF2).step hgf) hgf (by omega) hq1 (by omega)).mono ?_
        rintro e w2 ⟨rfl, hf2⟩
        have HFIN := hide ((unhide HF2).trans hf2)
        clear hf2
        go_wp2_with fail
        rw [unhide HR]
        exact ⟨rfl, rfl, _, unhide HFIN⟩
    · rw [rDist_bits D B q 18 q1 8 513 hs (by omega) (by omega) rfl rfl] at hre
      by_cases hthere : q1 + 8 ≤ 8 * B.length
      · rw [if_pos hthere] at hre
        have HR := hide hre
        have hnl := numAt_lt B q1 8
        clear hre hs
        go_enter Tryz.func202, Tryz.ntmps202
        go_wp2_with fail
        refine (unhide H1).mono ?_
        rintro e w1 ⟨rfl, hf1⟩
        have hf2 := (unhide HFA).trans hf1
        have HF2 := hide hf2
        clear hf1 hf2
        go_wp2_with fail
        refine (feedNum_ok f g off cap z q1 8 B w1 ((unhide HF2).feed _ _ _ _ (unhide HF)) ((unhide HS).step (unhide HF2).step hgf) hgf (by omega) hthere).mono ?_
        rintro e w2 ⟨rfl, hf2⟩
        have HFIN := hide ((unhide HF2).trans hf2)
        clear hf2
        go_wp2_with fail
        go_ret2
        rw [unhide HR]
        exact ⟨rfl, unhide HFIN⟩
      · rw [if_neg hthere] at hre
        have HR := hide hre
        clear hre hs
        go_enter Tryz.func202, Tryz.ntmps202
        go_wp2_with fail
        refine (unhide H1).mono ?_
        rintro e w1 ⟨rfl, hf1⟩
        have hf2 := (unhide HFA).trans hf1
        have HF2 := hide hf2
        clear hf1 hf2
        go_wp2_with fail
        refine (feedNum_miss f g off cap z q1 8 B w1 ((unhide HF2).feed _ _ _ _ (unhide HF)) ((unhide HS).step (unhide HF2).step hgf) hgf (by omega) hq1 (by omega)).mono ?_
        rintro e w2 ⟨rfl, hf2⟩
        have HFIN := hide ((unhide HF2).trans hf2)
        clear hf2
        go_wp2_with fail
        rw [unhide HR]
        exact ⟨rfl, rfl, _, unhide HFIN⟩
    · rw [rDist_bits D B q 19 q1 8 769 hs (by omega) (by omega) rfl rfl] at hre
      by_cases hthere : q1 + 8 ≤ 8 * B.length
      · rw [if_pos hthere] at hre
        have HR := hide hre
        have hnl := numAt_lt B q1 8
        clear hre hs
        go_enter Tryz.func202, Tryz.ntmps202
        go_wp2_with fail
        refine (unhide H1).mono ?_
        rintro e w1 ⟨rfl, hf1⟩
        have hf2 := (unhide HFA).trans hf1
        have HF2 := hide hf2
        clear hf1 hf2
        go_wp2_with fail
        refine (feedNum_ok f g off cap z q1 8 B w1 ((unhide HF2).feed _ _ _ _ (unhide HF)) ((unhide HS).step (unhide HF2).step hgf) hgf (by omega) hthere).mono ?_
        rintro e w2 ⟨rfl, hf2⟩
        have HFIN := hide ((unhide HF2).trans hf2)
        clear hf2
        go_wp2_with fail
        go_ret2
        rw [unhide HR]
        exact ⟨rfl, unhide HFIN⟩
      · rw [if_neg hthere] at hre
        have HR := hide hre
        clear hre hs
        go_enter Tryz.func202, Tryz.ntmps202
        go_wp2_with fail
        refine (unhide H1).mono ?_
        rintro e w1 ⟨rfl, hf1⟩
        have hf2 := (unhide HFA).trans hf1
        have HF2 := hide hf2
        clear hf1 hf2
        go_wp2_with fail
        refine (feedNum_miss f g off cap z q1 8 B w1 ((unhide HF2).feed _ _ _ _ (unhide HF)) ((unhide HS).step (unhide HF2).step hgf) hgf (by omega) hq1 (by omega)).mono ?_
        rintro e w2 ⟨rfl, hf2⟩
        have HFIN := hide ((unhide HF2).trans hf2)
        clear hf2
        go_wp2_with fail
        rw [unhide HR]
        exact ⟨rfl, rfl, _, unhide HFIN⟩
    · rw [rDist_bits D B q 20 q1 9 1025 hs (by omega) (by omega) rfl rfl] at hre
      by_cases hthere : q1 + 9 ≤ 8 * B.length
      · rw [if_pos hthere] at hre
        have HR := hide hre
        have hnl := numAt_lt B q1 9
        clear hre hs
        go_enter Tryz.func202, Tryz.ntmps202
        go_wp2_with fail
        refine (unhide H1).mono ?_
        rintro e w1 ⟨rfl, hf1⟩
        have hf2 := (unhide HFA).trans hf1
        have HF2 := hide hf2
        clear hf1 hf2
        go_wp2_with fail
        refine (feedNum_ok f g off cap z q1 9 B w1 ((unhide HF2).feed _ _ _ _ (unhide HF)) ((unhide HS).step (unhide HF2).step hgf) hgf (by omega) hthere).mono ?_
        rintro e w2 ⟨rfl, hf2⟩
        have HFIN := hide ((unhide HF2).trans hf2)
        clear hf2
        go_wp2_with fail
        go_ret2
        rw [unhide HR]
        exact ⟨rfl, unhide HFIN⟩
      · rw [if_neg hthere] at hre
        have HR := hide hre
        clear hre hs
        go_enter Tryz.func202, Tryz.ntmps202
        go_wp2_with fail
        refine (unhide H1).mono ?_
        rintro e w1 ⟨rfl, hf1⟩
        have hf2 := (unhide HFA).trans hf1
        have HF2 := hide hf2
        clear hf1 hf2
        go_wp2_with fail
        refine (feedNum_miss f g off cap z q1 9 B w1 ((unhide HF2).feed _ _ _ _ (unhide HF)) ((unhide HS).step (unhide HF2).step hgf) hgf (by omega) hq1 (by omega)).mono ?_
        rintro e w2 ⟨rfl, hf2⟩
        have HFIN := hide ((unhide HF2).trans hf2)
        clear hf2
        go_wp2_with fail
        rw [unhide HR]
        exact ⟨rfl, rfl, _, unhide HFIN⟩
    · rw [rDist_bits D B q 21 q1 9 1537 hs (by omega) (by omega) rfl rfl] at hre
      by_cases hthere : q1 + 9 ≤ 8 * B.length
      · rw [if_pos hthere] at hre
        have HR := hide hre
        have hnl := numAt_lt B q1 9
        clear hre hs
        go_enter Tryz.func202, Tryz.ntmps202
        go_wp2_with fail
        refine (unhide H1).mono ?_
        rintro e w1 ⟨rfl, hf1⟩
        have hf2 := (unhide HFA).trans hf1
        have HF2 := hide hf2
        clear hf1 hf2
        go_wp2_with fail
        refine (feedNum_ok f g off cap z q1 9 B w1 ((unhide HF2).feed _ _ _ _ (unhide HF)) ((unhide HS).step (unhide HF2).step hgf) hgf (by omega) hthere).mono ?_
        rintro e w2 ⟨rfl, hf2⟩
        have HFIN := hide ((unhide HF2).trans hf2)
        clear hf2
        go_wp2_with fail
        go_ret2
        rw [unhide HR]
        exact ⟨rfl, unhide HFIN⟩
      · rw [if_neg hthere] at hre
        have HR := hide hre
        clear hre hs
        go_enter Tryz.func202, Tryz.ntmps202
        go_wp2_with fail
        refine (unhide H1).mono ?_
        rintro e w1 ⟨rfl, hf1⟩
        have hf2 := (unhide HFA).trans hf1
        have HF2 := hide hf2
        clear hf1 hf2
        go_wp2_with fail
        refine (feedNum_miss f g off cap z q1 9 B w1 ((unhide HF2).feed _ _ _ _ (unhide HF)) ((unhide HS).step (unhide HF2).step hgf) hgf (by omega) hq1 (by omega)).mono ?_
        rintro e w2 ⟨rfl, hf2⟩
        have HFIN := hide ((unhide HF2).trans hf2)
        clear hf2
        go_wp2_with fail
        rw [unhide HR]
        exact ⟨rfl, rfl, _, unhide HFIN⟩
    · rw [rDist_bits D B q 22 q1 10 2049 hs (by omega) (by omega) rfl rfl] at hre
      by_cases hthere : q1 + 10 ≤ 8 * B.length
      · rw [if_pos hthere] at hre
        have HR := hide hre
        have hnl := numAt_lt B q1 10
        clear hre hs
        go_enter Tryz.func202, Tryz.ntmps202
        go_wp2_with fail
        refine (unhide H1).mono ?_
        rintro e w1 ⟨rfl, hf1⟩
        have hf2 := (unhide HFA).trans hf1
        have HF2 := hide hf2
        clear hf1 hf2
        go_wp2_with fail
        refine (feedNum_ok f g off cap z q1 10 B w1 ((unhide HF2).feed _ _ _ _ (unhide HF)) ((unhide HS).step (unhide HF2).step hgf) hgf (by omega) hthere).mono ?_
        rintro e w2 ⟨rfl, hf2⟩
        have HFIN := hide ((unhide HF2).trans hf2)
        clear hf2
        go_wp2_with fail
        go_ret2
        rw [unhide HR]
        exact ⟨rfl, unhide HFIN⟩
      · rw [if_neg hthere] at hre
        have HR := hide hre
        clear hre hs
        go_enter Tryz.func202, Tryz.ntmps202
        go_wp2_with fail
        refine (unhide H1).mono ?_
        rintro e w1 ⟨rfl, hf1⟩
        have hf2 := (unhide HFA).trans hf1
        have HF2 := hide hf2
        clear hf1 hf2
        go_wp2_with fail
        refine (feedNum_miss f g off cap z q1 10 B w1 ((unhide HF2).feed _ _ _ _ (unhide HF)) ((unhide HS).step (unhide HF2).step hgf) hgf (by omega) hq1 (by omega)).mono ?_
        rintro e w2 ⟨rfl, hf2⟩
        have HFIN := hide ((unhide HF2).trans hf2)
        clear hf2
        go_wp2_with fail
        rw [unhide HR]
        exact ⟨rfl, rfl, _, unhide HFIN⟩
    · rw [rDist_bits D B q 23 q1 10 3073 hs (by omega) (by omega) rfl rfl] at hre
      by_cases hthere : q1 + 10 ≤ 8 * B.length
      · rw [if_pos hthere] at hre
        have HR := hide hre
        have hnl := numAt_lt B q1 10
        clear hre hs
        go_enter Tryz.func202, Tryz.ntmps202
        go_wp2_with fail
        refine (unhide H1).mono ?_
        rintro e w1 ⟨rfl, hf1⟩
        have hf2 := (unhide HFA).trans hf1
        have HF2 := hide hf2
        clear hf1 hf2
        go_wp2_with fail
        refine (feedNum_ok f g off cap z q1 10 B w1 ((unhide HF2).feed _ _ _ _ (unhide HF)) ((unhide HS).step (unhide HF2).step hgf) hgf (by omega) hthere).mono ?_
        rintro e w2 ⟨rfl, hf2⟩
        have HFIN := hide ((unhide HF2).trans hf2)
        clear hf2
        go_wp2_with fail
        go_ret2
        rw [unhide HR]
        exact ⟨rfl, unhide HFIN⟩
      · rw [if_neg hthere] at hre
        have HR := hide hre
        clear hre hs
        go_enter Tryz.func202, Tryz.ntmps202
        go_wp2_with fail
        refine (unhide H1).mono ?_
        rintro e w1 ⟨rfl, hf1⟩
        have hf2 := (unhide HFA).trans hf1
        have HF2 := hide hf2
        clear hf1 hf2
        go_wp2_with fail
        refine (feedNum_miss f g off cap z q1 10 B w1 ((unhide HF2).feed _ _ _ _ (unhide HF)) ((unhide HS).step (unhide HF2).step hgf) hgf (by omega) hq1 (by omega)).mono ?_
        rintro e w2 ⟨rfl, hf2⟩
        have HFIN := hide ((unhide HF2).trans hf2)
        clear hf2
        go_wp2_with fail
        rw [unhide HR]
        exact ⟨rfl, rfl, _, unhide HFIN⟩
    · rw [rDist_bits D B q 24 q1 11 4097 hs (by omega) (by omega) rfl rfl] at hre
      by_cases hthere : q1 + 11 ≤ 8 * B.length
      · rw [if_pos hthere] at hre
        have HR := hide hre
        have hnl := numAt_lt B q1 11
        clear hre hs
        go_enter Tryz.func202, Tryz.ntmps202
        go_wp2_with fail
        refine (unhide H1).mono ?_
        rintro e w1 ⟨rfl, hf1⟩
        have hf2 := (unhide HFA).trans hf1
        have HF2 := hide hf2
        clear hf1 hf2
        go_wp2_with fail
        refine (feedNum_ok f g off cap z q1 11 B w1 ((unhide HF2).feed _ _ _ _ (unhide HF)) ((unhide HS).step (unhide HF2).step hgf) hgf (by omega) hthere).mono ?_
        rintro e w2 ⟨rfl, hf2⟩
        have HFIN := hide ((unhide HF2).trans hf2)
        clear hf2
        go_wp2_with fail
        go_ret2
        rw [unhide HR]
        exact ⟨rfl, unhide HFIN⟩
      · rw [if_neg hthere] at hre
        have HR := hide hre
        clear hre hs
        go_enter Tryz.func202, Tryz.ntmps202
        go_wp2_with fail
        refine (unhide H1).mono ?_
        rintro e w1 ⟨rfl, hf1⟩
        have hf2 := (unhide HFA).trans hf1
        have HF2 := hide hf2
        clear hf1 hf2
        go_wp2_with fail
        refine (feedNum_miss f g off cap z q1 11 B w1 ((unhide HF2).feed _ _ _ _ (unhide HF)) ((unhide HS).step (unhide HF2).step hgf) hgf (by omega) hq1 (by omega)).mono ?_
        rintro e w2 ⟨rfl, hf2⟩
        have HFIN := hide ((unhide HF2).trans hf2)
        clear hf2
        go_wp2_with fail
        rw [unhide HR]
        exact ⟨rfl, rfl, _, unhide HFIN⟩
    · rw [rDist_bits D B q 25 q1 11 6145 hs (by omega) (by omega) rfl rfl] at hre
      by_cases hthere : q1 + 11 ≤ 8 * B.length
      · rw [if_pos hthere] at hre
        have HR := hide hre
        have hnl := numAt_lt B q1 11
        clear hre hs
        go_enter Tryz.func202, Tryz.ntmps202
        go_wp2_with fail
        refine (unhide H1).mono ?_
        rintro e w1 ⟨rfl, hf1⟩
        have hf2 := (unhide HFA).trans hf1
        have HF2 := hide hf2
        clear hf1 hf2
        go_wp2_with fail
        refine (feedNum_ok f g off cap z q1 11 B w1 ((unhide HF2).feed _ _ _ _ (unhide HF)) ((unhide HS).step (unhide HF2).step hgf) hgf (by omega) hthere).mono ?_
        rintro e w2 ⟨rfl, hf2⟩
        have HFIN := hide ((unhide HF2).trans hf2)
        clear hf2
        go_wp2_with fail
        go_ret2
        rw [unhide HR]
        exact ⟨rfl, unhide HFIN⟩
      · rw [if_neg hthere] at hre
        have HR := hide hre
        clear hre hs
        go_enter Tryz.func202, Tryz.ntmps202
        go_wp2_with fail
        refine (unhide H1).mono ?_
        rintro e w1 ⟨rfl, hf1⟩
        have hf2 := (unhide HFA).trans hf1
        have HF2 := hide hf2
        clear hf1 hf2
        go_wp2_with fail
        refine (feedNum_miss f g off cap z q1 11 B w1 ((unhide HF2).feed _ _ _ _ (unhide HF)) ((unhide HS).step (unhide HF2).step hgf) hgf (by omega) hq1 (by omega)).mono ?_
        rintro e w2 ⟨rfl, hf2⟩
        have HFIN := hide ((unhide HF2).trans hf2)
        clear hf2
        go_wp2_with fail
        rw [unhide HR]
        exact ⟨rfl, rfl, _, unhide HFIN⟩
    · rw [rDist_bits D B q 26 q1 12 8193 hs (by omega) (by omega) rfl rfl] at hre
      by_cases hthere : q1 + 12 ≤ 8 * B.length
      · rw [if_pos hthere] at hre
        have HR := hide hre
        have hnl := numAt_lt B q1 12
        clear hre hs
        go_enter Tryz.func202, Tryz.ntmps202
        go_wp2_with fail
        refine (unhide H1).mono ?_
        rintro e w1 ⟨rfl, hf1⟩
        have hf2 := (unhide HFA).trans hf1
        have HF2 := hide hf2
        clear hf1 hf2
        go_wp2_with fail
        refine (feedNum_ok f g off cap z q1 12 B w1 ((unhide HF2).feed _ _ _ _ (unhide HF)) ((unhide HS).step (unhide HF2).step hgf) hgf (by omega) hthere).mono ?_
        rintro e w2 ⟨rfl, hf2⟩
        have HFIN := hide ((unhide HF2).trans hf2)
        clear hf2
        go_wp2_with fail
        go_ret2
        rw [unhide HR]
        exact ⟨rfl, unhide HFIN⟩
      · rw [if_neg hthere] at hre
        have HR := hide hre
        clear hre hs
        go_enter Tryz.func202, Tryz.ntmps202
        go_wp2_with fail
        refine (unhide H1).mono ?_
        rintro e w1 ⟨rfl, hf1⟩
        have hf2 := (unhide HFA).trans hf1
        have HF2 := hide hf2
        clear hf1 hf2
        go_wp2_with fail
        refine (feedNum_miss f g off cap z q1 12 B w1 ((unhide HF2).feed _ _ _ _ (unhide HF)) ((unhide HS).step (unhide HF2).step hgf) hgf (by omega) hq1 (by omega)).mono ?_
        rintro e w2 ⟨rfl, hf2⟩
        have HFIN := hide ((unhide HF2).trans hf2)
        clear hf2
        go_wp2_with fail
        rw [unhide HR]
        exact ⟨rfl, rfl, _, unhide HFIN⟩
    · rw [rDist_bits D B q 27 q1 12 12289 hs (by omega) (by omega) rfl rfl] at hre
      by_cases hthere : q1 + 12 ≤ 8 * B.length
      · rw [if_pos hthere] at hre
        have HR := hide hre
        have hnl := numAt_lt B q1 12
        clear hre hs
        go_enter Tryz.func202, Tryz.ntmps202
        go_wp2_with fail
        refine (unhide H1).mono ?_
        rintro e w1 ⟨rfl, hf1⟩
        have hf2 := (unhide HFA).trans hf1
        have HF2 := hide hf2
        clear hf1 hf2
        go_wp2_with fail
        refine (feedNum_ok f g off cap z q1 12 B w1 ((unhide HF2).feed _ _ _ _ (unhide HF)) ((unhide HS).step (unhide HF2).step hgf) hgf (by omega) hthere).mono ?_
        rintro e w2 ⟨rfl, hf2⟩
        have HFIN := hide ((unhide HF2).trans hf2)
        clear hf2
        go_wp2_with fail
        go_ret2
        rw [unhide HR]
        exact ⟨rfl, unhide HFIN⟩
      · rw [if_neg hthere] at hre
        have HR := hide hre
        clear hre hs
        go_enter Tryz.func202, Tryz.ntmps202
        go_wp2_with fail
        refine (unhide H1).mono ?_
        rintro e w1 ⟨rfl, hf1⟩
        have hf2 := (unhide HFA).trans hf1
        have HF2 := hide hf2
        clear hf1 hf2
        go_wp2_with fail
        refine (feedNum_miss f g off cap z q1 12 B w1 ((unhide HF2).feed _ _ _ _ (unhide HF)) ((unhide HS).step (unhide HF2).step hgf) hgf (by omega) hq1 (by omega)).mono ?_
        rintro e w2 ⟨rfl, hf2⟩
        have HFIN := hide ((unhide HF2).trans hf2)
        clear hf2
        go_wp2_with fail
        rw [unhide HR]
        exact ⟨rfl, rfl, _, unhide HFIN⟩
    · rw [rDist_bits D B q 28 q1 13 16385 hs (by omega) (by omega) rfl rfl] at hre
      by_cases hthere : q1 + 13 ≤ 8 * B.length
      · rw [if_pos hthere] at hre
        have HR := hide hre
        have hnl := numAt_lt B q1 13
        clear hre hs
        go_enter Tryz.func202, Tryz.ntmps202
        go_wp2_with fail
        refine (unhide H1).mono ?_
        rintro e w1 ⟨rfl, hf1⟩
        have hf2 := (unhide HFA).trans hf1
        have HF2 := hide hf2
        clear hf1 hf2
        go_wp2_with fail
        refine (feedNum_ok f g off cap z q1 13 B w1 ((unhide HF2).feed _ _ _ _ (unhide HF)) ((unhide HS).step (unhide HF2).step hgf) hgf (by omega) hthere).mono ?_
        rintro e w2 ⟨rfl, hf2⟩
        have HFIN := hide ((unhide HF2).trans hf2)
        clear hf2
        go_wp2_with fail
        go_ret2
        rw [unhide HR]
        exact ⟨rfl, unhide HFIN⟩
      · rw [if_neg hthere] at hre
        have HR := hide hre
        clear hre hs
        go_enter Tryz.func202, Tryz.ntmps202
        go_wp2_with fail
        refine (unhide H1).mono ?_
        rintro e w1 ⟨rfl, hf1⟩
        have hf2 := (unhide HFA).trans hf1
        have HF2 := hide hf2
        clear hf1 hf2
        go_wp2_with fail
        refine (feedNum_miss f g off cap z q1 13 B w1 ((unhide HF2).feed _ _ _ _ (unhide HF)) ((unhide HS).step (unhide HF2).step hgf) hgf (by omega) hq1 (by omega)).mono ?_
        rintro e w2 ⟨rfl, hf2⟩
        have HFIN := hide ((unhide HF2).trans hf2)
        clear hf2
        go_wp2_with fail
        rw [unhide HR]
        exact ⟨rfl, rfl, _, unhide HFIN⟩
    · rw [rDist_bits D B q 29 q1 13 24577 hs (by omega) (by omega) rfl rfl] at hre
      by_cases hthere : q1 + 13 ≤ 8 * B.length
      · rw [if_pos hthere] at hre
        have HR := hide hre
        have hnl := numAt_lt B q1 13
        clear hre hs
        go_enter Tryz.func202, Tryz.ntmps202
        go_wp2_with fail
        refine (unhide H1).mono ?_
        rintro e w1 ⟨rfl, hf1⟩
        have hf2 := (unhide HFA).trans hf1
        have HF2 := hide hf2
        clear hf1 hf2
        go_wp2_with fail
        refine (feedNum_ok f g off cap z q1 13 B w1 ((unhide HF2).feed _ _ _ _ (unhide HF)) ((unhide HS).step (unhide HF2).step hgf) hgf (by omega) hthere).mono ?_
        rintro e w2 ⟨rfl, hf2⟩
        have HFIN := hide ((unhide HF2).trans hf2)
        clear hf2
        go_wp2_with fail
        go_ret2
        rw [unhide HR]
        exact ⟨rfl, unhide HFIN⟩
      · rw [if_neg hthere] at hre
        have HR := hide hre
        clear hre hs
        go_enter Tryz.func202, Tryz.ntmps202
        go_wp2_with fail
        refine (unhide H1).mono ?_
        rintro e w1 ⟨rfl, hf1⟩
        have hf2 := (unhide HFA).trans hf1
        have HF2 := hide hf2
        clear hf1 hf2
        go_wp2_with fail
        refine (feedNum_miss f g off cap z q1 13 B w1 ((unhide HF2).feed _ _ _ _ (unhide HF)) ((unhide HS).step (unhide HF2).step hgf) hgf (by omega) hq1 (by omega)).mono ?_
        rintro e w2 ⟨rfl, hf2⟩
        have HFIN := hide ((unhide HF2).trans hf2)
        clear hf2
        go_wp2_with fail
        rw [unhide HR]
        exact ⟨rfl, rfl, _, unhide HFIN⟩
end Go.Proofs.YtbpahojchgpdnaaGreatDoor
