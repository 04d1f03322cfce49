/- Proved here: what copyBack does, whatever the bits are. -/
import Derived.Test.YtbpahojchgpdnaaGreatDoorLens
import Derived.Test.YtbpahojchgpdnaaGreatDoorGStretch
import Derived.Test.YtbpahojchgpdnaaGreatDoorGSym
import Derived.Test.YtbpahojchgpdnaaGreatDoorGHead
import Derived.Defers
import Derived.Recover
import Derived.Deep.LoopGhost
set_option maxRecDepth 20000
set_option maxHeartbeats 4000000
namespace Go.Proofs.YtbpahojchgpdnaaGreatDoor
open Go.RowKit Go.Bel Go.Maps
def CopyP (r : G) (d f base g off cap z : Nat) (B : List Nat) (s : GS) (st : DSt) (w : World) (e : Ending) (w' : World) : Prop :=
 match r with
 | .go s' => e = .returned (.int .i64 0) ∧ ∃ v' xs, s' = { s with out := s.out ++ xs, p := s'.p } ∧ (s.out ++ xs).length ≤ s.most ∧ s'.p ≤ 8 * B.length ∧ OnD w' d f base g off cap z B (st.add v' xs) s'.p ∧ Dst d f w st.v w' v'
 | .no x out => e = .returned (.int .i64 (x : Nat)) ∧ x ≠ 0 ∧ ∃ st' q, Outs st' s.taken out ∧ OnD w' d f base g off cap z B st' q ∧ Dst d f w st.v w' st'.v
 | .miss => e = lost ∧ ∃ q, OnD w' d f base g off cap z B st q ∧ Dst d f w st.v w' st.v
theorem FarD.farT {w w' : World} {d f : Nat} {v x : Value} {D : Dealt} (h : FarD w d f v x D) (hs : Dst d f w v w' v) : FarT w' x D f := by
 rcases h with h | ⟨mb, h1, h2, h3⟩
 ·exact .inl h
 ·exact .inr ⟨mb, h1, h3.f, h2.step hs.step h3.not⟩
theorem rLength_le {B : List Nat} {q c n q' : Nat} (h : rLength B q c = .ok n q') (hc : 257 ≤ c) : 3 ≤ n ∧ n ≤ 258 := by
 unfold rLength at h
 split at h
 ·simp at h
 ·split at h
  ·simp only [R.ok.injEq] at h; obtain ⟨rfl, _⟩ := h; omega
  ·split at h
   ·simp only [R.ok.injEq] at h; obtain ⟨rfl, _⟩ := h; omega
   ·split at h
    ·simp only [R.ok.injEq] at h
     obtain ⟨rfl, _⟩ := h
     have hc2 : c ≤ 284 := by omega
     have hb : (c - 261) / 4 = 1 ∨ (c - 261) / 4 = 2 ∨ (c - 261) / 4 = 3 ∨ (c - 261) / 4 = 4 ∨ (c - 261) / 4 = 5 := by omega
     have hm : (c - 265) % 4 < 4 := Nat.mod_lt _ (by omega)
     have hn := numAt_lt B q ((c - 261) / 4)
     rcases hb with hb | hb | hb | hb | hb <;> rw [hb] at hn ⊢ <;> omega
    ·simp at h
theorem rLength_no {B : List Nat} {q c e : Nat} (h : rLength B q c = .no e) : e = 9 := by
 unfold rLength at h
 split at h
 ·simp only [R.no.injEq] at h; exact h.symm
 ·split at h
  ·simp at h
  ·split at h
   ·simp at h
   ·split at h <;> simp at h
theorem rDist_no {D : Dealt} {B : List Nat} {q e : Nat} (h : rDist D B q = .no e) : e = 9 := by
 unfold rDist at h
 split at h
 ·rename_i e1 hs; simp only [R.no.injEq] at h; subst h; exact rSym_no hs
 ·simp at h
 ·split at h
  ·simp only [R.no.injEq] at h; exact h.symm
  ·split at h
   ·simp at h
   ·split at h <;> simp at h
theorem rDist_le {D : Dealt} {B : List Nat} {q n q' : Nat} (h : rDist D B q = .ok n q') : 1 ≤ n ∧ n ≤ 32768 := by
 unfold rDist at h
 split at h
 ·simp at h
 ·simp at h
 ·rename_i s q1 hs
  split at h
  ·simp at h
  ·split at h
   ·simp only [R.ok.injEq] at h; obtain ⟨rfl, _⟩ := h; omega
   ·split at h
    ·simp only [R.ok.injEq] at h
     obtain ⟨rfl, _⟩ := h
     have hn := numAt_lt B q1 (s / 2 - 1)
     have hm : s % 2 < 2 := Nat.mod_lt _ (by omega)
     have hb : s / 2 - 1 ≤ 13 := by omega
     have hp : 2 ^ (s / 2 - 1) ≤ 2 ^ 13 := Nat.pow_le_pow_right (by omega) hb
     have h2 : (2 + s % 2) * 2 ^ (s / 2 - 1) ≤ 3 * 2 ^ (s / 2 - 1) := Nat.mul_le_mul_right _ (by omega)
     omega
    ·simp at h
theorem copied_round (out : List Nat) (dist len : Nat) (hd : dist ≤ out.length) : copied out dist len = round (out.drop (out.length - dist)) len := by
 unfold copied round
 have e : (out.drop (out.length - dist)).length = dist := by rw [List.length_drop]; omega
 rw [e]
 apply List.map_congr_left
 intro i _
 rw [List.getElem?_drop]
theorem copied_length (out : List Nat) (dist len : Nat) : (copied out dist len).length = len := by simp [copied]
theorem copyBack_any (d f base g off cap z q c : Nat) (B : List Nat) (s : GS) (st : DSt) (w : World) (hon : OnD w d f base g off cap z B st q) (hq : q ≤ 8 * B.length) (hc : 257 ≤ c) (hc2 : c < 100000) (e1 : Outs st s.taken s.out) (e2 : st.room + s.out.length = s.most) (hm : s.most ≤ 1048576) (hr : s.out.length ≤ s.most) (ht : Tabs w d f st.v st s.ls s.ld) :
  Calls Tryz.prog 192 #[.pointer (some ⟨d, 0, none⟩), .int .i64 (c : Nat)] w fun e w' => CopyP (gCopy B s c q) d f base g off cap z B s st w e w' := by
 obtain ⟨c0, _⟩ := hon.dec.cell
 obtain ⟨res, hre⟩ : ∃ r, r = gCopy B s c q := ⟨_, rfl⟩
 rw [← hre]
 unfold gCopy at hre
 have hsmall := e1.small e2 hm
 have E2 := hide e2
 clear e2
 have hlen := readLength_any f g off cap z q c B w hon.feed hon.src hon.goff.f hq hc hc2
 have HON := hide hon
 have HT := hide ht
 clear hon ht
 go_enter Tryz.func192, Tryz.ntmps192
 go_wp2_with fail
 cases hL : rLength B q c with
 | no x =>
  have hx := rLength_no hL
  subst hx
  rw [hL] at hlen hre
  have HRE := hide hre
  clear hre
  refine hlen.mono ?_
  rintro e w1 ⟨rfl, q1, hf1⟩
  have H1 := hide ((unhide HON).fed hf1)
  have H2 := hide (Dst.fed (d := d) (v := st.v) hf1)
  clear hf1 hlen
  go_wp2_with fail
  go_ret
  rw [unhide HRE]
  exact ⟨rfl, by omega, st, _, e1, unhide H1, unhide H2⟩
 | miss =>
  rw [hL] at hlen hre
  have HRE := hide hre
  clear hre
  refine hlen.mono ?_
  rintro e w1 ⟨rfl, q1, hf1⟩
  have H1 := hide ((unhide HON).fed hf1)
  have H2 := hide (Dst.fed (d := d) (v := st.v) hf1)
  clear hf1 hlen
  go_wp2_with fail
  rw [unhide HRE]
  exact ⟨rfl, rfl, _, unhide H1, unhide H2⟩
 | ok n q1 =>
  have hn := rLength_le hL hc
  have hq1 := (rLength_ok hL hq).2
  rw [hL] at hlen hre
  refine hlen.mono ?_
  rintro e w1 ⟨rfl, hf1⟩
  have hon1 := (unhide HON).fed hf1
  have hd1 : Dst d f w st.v w1 st.v := Dst.fed hf1
  obtain ⟨x, hx1, hx2⟩ := (unhide HT).dm
  have hdl := (unhide HT).dl
  obtain ⟨k0, _, _, _, _, _, _, _, k8, k9, _⟩ := hon1.dec.cell
  rw [hx1] at k8
  rw [hdl] at k9
  have hrd := readDistance_any f g off cap z q1 x (dealAll s.ld) B w1.drew hon1.feed (hon1.src.step ((Step.refl (fun _ => False) w1).drew) (fun x => x)) hon1.goff.f (hx2.farT (hd1.trans (Dst.step0 ((Step.refl (fun _ => False) w1).drew)))) (longest_le _) hq1 (tab_lt (unhide HT).dn)
  have HON1 := hide hon1
  have HD1 := hide hd1
  have HRD := hide hrd
  have HRE := hide hre
  have HLEN := hide hn
  clear hf1 hlen hon1 hd1 hrd hre hn hx1 hx2 hdl HON
  go_wp2_with fail
  cases hD : rDist (dealAll s.ld) B q1 with
  | no y =>
   have hy := rDist_no hD
   subst hy
   have hrd := unhide HRD
   have hre := unhide HRE
   rw [hD] at hrd hre
   have HRD := hide hrd
   have HRE := hide hre
   clear hrd hre
   go_region_held3 (fun w' => w'.cell? ⟨d, 0, none⟩ = some (.pointer (some ⟨f, 0, none⟩)) ∧ w'.cell? ⟨d, 9, none⟩ = some (.map x) ∧ w'.cell? ⟨d, 10, none⟩ = some (.int .i64 ((dealAll s.ld).longest : Nat))) (go_keep)
    (first | (go_at_call 202; refine (unhide HRD).mono ?_; rintro e w2 ⟨rfl, q2, hf2⟩; have j0 := hf2.step.cell (p := ⟨d, 0, none⟩) k0 (unhide HON1).dec.ne; have j8 := hf2.step.cell (p := ⟨d, 9, none⟩) k8 (unhide HON1).dec.ne; have j9 := hf2.step.cell (p := ⟨d, 10, none⟩) k9 (unhide HON1).dec.ne))
   have H1 := hide (((unhide HON1).step0 ((Step.refl (fun _ => False) w1).drew)).fed hf2)
   have H2 := hide ((unhide HD1).trans ((Dst.step0 ((Step.refl (fun _ => False) w1).drew)).trans (Dst.fed (d := d) (v := st.v) hf2)))
   clear hf2 j0 j8 j9
   go_wp2_with fail
   go_ret
   rw [unhide HRE]
   exact ⟨rfl, by omega, st, _, e1, unhide H1, unhide H2⟩
  | miss =>
   have hrd := unhide HRD
   have hre := unhide HRE
   rw [hD] at hrd hre
   have HRD := hide hrd
   have HRE := hide hre
   clear hrd hre
   go_region_dies
   all_goals
    refine (unhide HRD).mono ?_
    rintro e w2 ⟨rfl, q2, hf2⟩
    refine ⟨rfl, ?_⟩
    rw [unhide HRE]
    exact ⟨rfl, _, ((unhide HON1).step0 ((Step.refl (fun _ => False) w1).drew)).fed hf2, (unhide HD1).trans ((Dst.step0 ((Step.refl (fun _ => False) w1).drew)).trans (Dst.fed (d := d) (v := st.v) hf2))⟩
  | ok dist q2 =>
   have hdi := rDist_le hD
   have hq2 := (rDist_ok hD).2
   have hrd := unhide HRD
   have hre := unhide HRE
   rw [hD] at hrd hre
   replace hre : res = if s.out.length < dist then G.no 10 s.out else gPut s (copied s.out dist n) q2 := hre
   have HRD := hide hrd
   have HRE := hide hre
   clear hrd hre
   go_region_held3 (fun w' => w'.cell? ⟨d, 0, none⟩ = some (.pointer (some ⟨f, 0, none⟩)) ∧ w'.cell? ⟨d, 9, none⟩ = some (.map x) ∧ w'.cell? ⟨d, 10, none⟩ = some (.int .i64 ((dealAll s.ld).longest : Nat))) (go_keep)
    (first | (go_at_call 202; refine (unhide HRD).mono ?_; rintro e w2 ⟨rfl, hf2⟩; have j0 := hf2.step.cell (p := ⟨d, 0, none⟩) k0 (unhide HON1).dec.ne; have j8 := hf2.step.cell (p := ⟨d, 9, none⟩) k8 (unhide HON1).dec.ne; have j9 := hf2.step.cell (p := ⟨d, 10, none⟩) k9 (unhide HON1).dec.ne))
   have hon2 := ((unhide HON1).step0 ((Step.refl (fun _ => False) w1).drew)).fed hf2
   have hd2 := (unhide HD1).trans ((Dst.step0 ((Step.refl (fun _ => False) w1).drew)).trans (Dst.fed (d := d) (v := st.v) hf2))
   obtain ⟨m0, _⟩ := hon2.dec.cell
   have HON2 := hide hon2
   have HD2 := hide hd2
   clear hf2 j0 j8 j9 hon2 hd2 HON1 HD1 HRD hD hL k0 k8 k9 c0
   go_wp2_with fail
   refine (window_any d f base st w2 (unhide HON2).dec hsmall.out).mono ?_
   rintro e w3 ⟨rfl, a, rfl, hwin⟩
   obtain ⟨ol, hol⟩ : ∃ ol, ol = st.out.length := ⟨_, rfl⟩
   rw [← hol] at hwin ⊢
   obtain ⟨old, hold, hor⟩ := e1.old
   have hsl : s.out.length = old.length + ol := by rw [hold, List.length_append, hol]
   have hfi : s.out.length < dist ↔ ol < dist := by
    rcases hor with hor | hor
    ·rw [hor, List.length_nil] at hsl; omega
    ·omega
   have holm : ol ≤ 1048576 := by have := hsmall.out; omega
   have hdrop : s.out.drop (s.out.length - dist) = st.out.drop (ol - dist) ∨ ol < dist := by
    by_cases hx : ol < dist
    ·exact .inr hx
    ·refine .inl ?_
     rw [hsl, show old.length + ol - dist = old.length + (ol - dist) by omega, hold, List.drop_append]
     simp
   have HDR := hide hdrop
   have HFI := hide hfi
   have HSL := hide hsl
   have HOL := hide hol
   clear hold hor hdrop hfi hsl
   by_cases hfar : ol < dist
   ·have hre := unhide HRE
    rw [if_pos ((unhide HFI).2 hfar)] at hre
    have HRE := hide hre
    have hmin : min ol 32768 = ol := by omega
    rw [hmin] at hwin ⊢
    clear hre hwin hol
    go_wp2_with fail
    go_ret
    rw [unhide HRE]
    exact ⟨rfl, by omega, st, _, e1, unhide HON2, unhide HD2⟩
   ·have hre := unhide HRE
    rw [if_neg (fun hx => hfar ((unhide HFI).1 hx))] at hre
    obtain ⟨wb, ha, hlies⟩ := hwin (by omega)
    subst ha
    have HRE := hide hre
    have HLI := hide hlies
    clear hre hlies hwin
    obtain ⟨wl, hwl⟩ : ∃ wl, wl = min ol 32768 := ⟨_, rfl⟩
    rw [← hwl]
    have hw1 : dist ≤ wl := by omega
    have hw2 : wl ≤ ol := by omega
    have hw3 : wl ≤ 32768 := by omega
    have hwl1 : 1 ≤ wl := by omega
    obtain ⟨u, hu⟩ : ∃ u, wl = u + dist := ⟨wl - dist, by omega⟩
    have hsubi : IntKind.i64.wrap ((wl : Int) - (dist : Int)) = (u : Int) := by rw [IntKind.wrap_i64]; omega
    have hu0 : (0 : Int) ≤ (u : Int) := by omega
    have hui : (u : Int) ≤ (wl : Int) := by omega
    have hune : ¬ (wl = u) := by omega
    have husub : wl - u = dist := by omega
    have hPlen : (st.out.drop (ol - dist)).length = dist := by rw [List.length_drop, ← unhide HOL]; omega
    have hPlies : Lies w3.drew wb (ol - wl + u) (st.out.drop (ol - dist)) := fun i hi => by
     rw [hPlen] at hi
     have h9 := unhide HLI (ol - dist + i) (by rw [← unhide HOL]; omega)
     rw [Nat.zero_add] at h9
     have e9 : ol - wl + u + i = ol - dist + i := by omega
     rw [e9, List.getElem?_drop]
     exact h9
    have hlen := unhide HLEN
    have hstr := stretched_any wb (ol - wl + u) dist n (st.out.drop (ol - dist)) w3.drew hPlies hPlen (by omega) (by omega) (by omega) (by omega)
    have hcr : round (st.out.drop (ol - dist)) n = copied s.out dist n := by
     have h9 := copied_round s.out dist n (by rw [unhide HSL]; omega)
     rw [h9]
     rcases unhide HDR with hx | hx
     ·rw [hx]
     ·exact absurd hx hfar
    rw [hcr] at hstr
    have HSTR := hide hstr
    have HU := hide hu
    clear hwl hol hPlies hstr hPlen hcr hu
    have hcl := copied_length s.out dist n
    obtain ⟨xs, hxs⟩ : ∃ xs, xs = copied s.out dist n := ⟨_, rfl⟩
    rw [← hxs] at hcl
    have hre := unhide HRE
    rw [← hxs] at hre HSTR
    unfold gPut at hre
    have HXL := hide hcl
    clear hxs hcl
    by_cases hro : s.out.length + xs.length ≤ s.most
    ·rw [if_pos hro] at hre
     have HRE2 := hide hre
     clear hre HRE
     rw [unhide HXL] at hro
     have hrm : n ≤ st.room := by have := unhide E2; omega
     go_wp2_with fail
     go_region_held3 (fun _ => True) (exact trivial)
      (first | (go_at_call 203; refine (unhide HSTR).mono ?_; rintro e w4 ⟨k', off', cap', rfl, hcap', hlies', hs4⟩) | (go_at_call 190; refine (put_room d f base cap' k' off' n xs st w4 ((unhide HON2).step0 ((Step.refl (fun _ => False) w3).drew.trans hs4)).dec hlies' (unhide HXL) (by omega) (by omega) hcap' hrm hsmall).mono ?_; rintro e w5 ⟨rfl, v', h5, hw5⟩))
     have hs34 : Step (fun _ => False) w3 w4 := (Step.refl (fun _ => False) w3).drew.trans hs4
     have H5 := hide ((((unhide HON2).step0 hs34)).put h5 hw5)
     have HD5 := hide (((unhide HD2).trans (Dst.step0 hs34)).trans (Dst.of_wrt hw5))
     clear h5 hw5 hs34 hs4 hlies'
     go_wp2_with fail
     go_ret
     rw [unhide HRE2]
     refine ⟨rfl, v', xs, rfl, ?_, hq2, unhide H5, unhide HD5⟩
     rw [List.length_append, unhide HXL]; exact hro
    ·rw [if_neg hro] at hre
     have HRE2 := hide hre
     clear hre HRE
     rw [unhide HXL] at hro
     have hrm : s.most - s.out.length = st.room := by have := unhide E2; omega
     have hrl : st.room < n := by have := unhide E2; omega
     have HRM := hide hrm
     clear hrm
     by_cases hfull : st.room = 0
     ·go_wp2_with fail
      go_region_held3 (fun _ => True) (exact trivial)
      (first | (go_at_call 203; refine (unhide HSTR).mono ?_; rintro e w4 ⟨k', off', cap', rfl, hcap', hlies', hs4⟩) | (go_at_call 190; refine (put_full d f base cap' k' off' n st w4 ((unhide HON2).step0 ((Step.refl (fun _ => False) w3).drew.trans hs4)).dec (by omega) (by omega) hcap' hfull hsmall).mono ?_; rintro e w5 ⟨rfl, h5, hw5⟩))
      have hs34 : Step (fun _ => False) w3 w4 := (Step.refl (fun _ => False) w3).drew.trans hs4
      have H5 := hide ((((unhide HON2).step0 hs34)).put h5 hw5)
      have HD5 := hide (((unhide HD2).trans (Dst.step0 hs34)).trans (Dst.of_wrt hw5))
      clear h5 hw5 hs34 hs4 hlies'
      go_wp2_with fail
      go_ret
      rw [unhide HRE2]
      refine ⟨rfl, by omega, st, q2, ?_, unhide H5, unhide HD5⟩
      rw [unhide HRM, hfull, List.take_zero, List.append_nil]
      exact e1
     ·go_wp2_with fail
      go_region_held3 (fun _ => True) (exact trivial)
      (first | (go_at_call 203; refine (unhide HSTR).mono ?_; rintro e w4 ⟨k', off', cap', rfl, hcap', hlies', hs4⟩) | (go_at_call 190; refine (put_part d f base cap' k' off' n xs st w4 ((unhide HON2).step0 ((Step.refl (fun _ => False) w3).drew.trans hs4)).dec hlies' (unhide HXL) (by omega) hcap' (by omega) hrl hsmall).mono ?_; rintro e w5 ⟨rfl, v', h5, hw5⟩))
      have hs34 : Step (fun _ => False) w3 w4 := (Step.refl (fun _ => False) w3).drew.trans hs4
      have H5 := hide ((((unhide HON2).step0 hs34)).put h5 hw5)
      have HD5 := hide (((unhide HD2).trans (Dst.step0 hs34)).trans (Dst.of_wrt hw5))
      clear h5 hw5 hs34 hs4 hlies'
      go_wp2_with fail
      go_ret
      rw [unhide HRE2, unhide HRM]
      exact ⟨rfl, by omega, st.add v' (xs.take st.room), q2, e1.add v' _, unhide H5, unhide HD5⟩
end Go.Proofs.YtbpahojchgpdnaaGreatDoor
namespace Go.Proofs.YtbpahojchgpdnaaGreatDoor
open Go.RowKit Go.Bel Go.Maps
theorem symbol_any (d f base g off cap z : Nat) (B : List Nat) (s : GS) (v : Value) (w : World) (hH : HoldsG w d f base g off cap z B s v) (h2 : s.place = 2) :
  Calls Tryz.prog 174 #[.pointer (some ⟨d, 0, none⟩)] w fun e w' => StepP (gSym B s) d f base g off cap z B s w v e w' := by
 obtain ⟨st, rfl, hon, e1, e2, e3, e4, e5, e6, e7, e8, e9⟩ := hH.ex
 have ht := e9 h2
 obtain ⟨mb, m1, m2, m3⟩ := ht.sm
 have hmu := hon.src.much
 have hsmall := e1.small e2 hH.most
 have hbits := hH.bits
 have hroom := hH.room
 unfold gSym
 cases hr : rSym (dealAll s.ls) B s.p with
 | no x =>
  have hx := rSym_no hr
  subst hx
  refine (symbol_no d f base g off cap z s.p mb (dealAll s.ls) B st w hon m1 ht.sl m2 m3.f (longest_le _) hbits hr).mono ?_
  rintro e w' ⟨rfl, q, h3, h4⟩
  exact ⟨rfl, by omega, st, q, e1, h3, h4⟩
 | miss =>
  refine (symbol_miss d f base g off cap z s.p mb (dealAll s.ls) B st w hon m1 ht.sl m2 m3.f (longest_le _) hbits hr).mono ?_
  rintro e w' ⟨rfl, q, h3, h4⟩
  exact ⟨rfl, s.last, q, fun _ => rfl, ⟨st, rfl, h3, e1, e2, e3, e4, e5, e6, e7, e8.step h4, fun _ => ht.step h4 rfl rfl rfl rfl⟩, h4⟩
 | ok c q =>
  have hcode := rSym_code hr
  have hq : q ≤ 8 * B.length := hcode.there
  have hlt := hcode.lt
  have hc1 := hcode.code1 (w := w) (f := f) (mb := mb) m2 m3.f (longest_le _)
  rw [← ht.sl] at hc1
  have hc6 := tab_lt ht.sn _ _ hcode.is
  dsimp only
  by_cases h256 : c < 256
  ·rw [if_pos h256]
   unfold gPut
   by_cases hro : s.out.length + [c].length ≤ s.most
   ·rw [if_pos hro]
    simp only [List.length_singleton] at hro
    refine (symbol_room d f base g off cap z s.p (q - s.p) mb c (dealAll s.ls).tab B st w hon m1 hc1 (by omega) hsmall (by omega) h256).mono ?_
    rintro e w' ⟨rfl, v', h3, h4⟩
    rw [show s.p + (q - s.p) = q by omega] at h3
    exact ⟨rfl, v', hH.after h3 h4 rfl (e1.add v' _) (by simp only [DSt.add, List.length_append, List.length_singleton]; omega) e3 e4 e5 e6 e7 (e8.step h4) (fun _ => ht.step h4 rfl rfl rfl rfl) rfl (by simp; omega) hH.left hq, h4⟩
   ·rw [if_neg hro]
    simp only [List.length_singleton] at hro
    refine (symbol_full d f base g off cap z s.p (q - s.p) mb c (dealAll s.ls).tab B st w hon m1 hc1 (by omega) hsmall (by omega) h256).mono ?_
    rintro e w' ⟨rfl, h3, h4⟩
    refine ⟨rfl, by omega, st, _, ?_, h3, h4⟩
    have : s.most - s.out.length = 0 := by omega
    rw [this, List.take_zero, List.append_nil]
    exact e1
  ·rw [if_neg h256]
   by_cases h6 : c = 256
   ·rw [if_pos h6]
    refine (symbol_end d f base g off cap z s.p (q - s.p) mb c (dealAll s.ls).tab B st w hon m1 hc1 (by omega) h6).mono ?_
    rintro e w' ⟨rfl, h3, h4⟩
    rw [show s.p + (q - s.p) = q by omega] at h3
    exact ⟨rfl, st.v, ended_after hH rfl h3 h4 hq e1 e2 e4 e5 e6 e7 e8, h4⟩
   ·rw [if_neg h6]
    refine symbol_copy d f base g off cap z s.p mb c q (dealAll s.ls) B st w _ hon m1 ht.sl m2 m3.f (longest_le _) hbits hr (by omega) hc6 ?_
    intro w1 hon1 hd1
    refine (copyBack_any d f base g off cap z q c B s st w1 hon1 hq (by omega) hc6 e1 e2 hH.most hroom (ht.step hd1 rfl rfl rfl rfl)).mono ?_
    intro e w' hp
    cases hg : gCopy B s c q with
    | go s' =>
     rw [hg] at hp
     obtain ⟨rfl, v', xs, hs, ho, hb, h3, h4⟩ := hp
     have h5 := hd1.trans h4
     refine ⟨.inl ⟨0, rfl⟩, rfl, v', ?_, h5⟩
     rw [hs]
     exact hH.after h3 h5 rfl (e1.add v' xs) (by rw [List.length_append] at ho ⊢; simp only [DSt.add]; omega) e3 e4 e5 e6 e7 (e8.step h5) (fun _ => ht.step h5 rfl rfl rfl rfl) rfl ho hH.left hb
    | no x out =>
     rw [hg] at hp
     obtain ⟨rfl, hx, st', q', h3, h4, h5⟩ := hp
     exact ⟨.inl ⟨x, rfl⟩, rfl, hx, st', q', h3, h4, hd1.trans h5⟩
    | miss =>
     rw [hg] at hp
     obtain ⟨rfl, q', h3, h4⟩ := hp
     have h5 := hd1.trans h4
     exact ⟨.inr rfl, rfl, s.last, q', fun _ => rfl, ⟨st, rfl, h3, e1, e2, e3, e4, e5, e6, e7, e8.step h5, fun _ => ht.step h5 rfl rfl rfl rfl⟩, h5⟩
end Go.Proofs.YtbpahojchgpdnaaGreatDoor
namespace Go.Proofs.YtbpahojchgpdnaaGreatDoor
open Go.RowKit Go.Bel Go.Maps
def Ends (e : Ending) : Prop := (∃ x : Nat, e = .returned (.int .i64 (x : Nat))) ∨ e = lost
theorem head_miss1 (d f base g off cap z p : Nat) (B : List Nat) (st : DSt) (w : World) (h : OnD w d f base g off cap z B st p) (hp : p ≤ 8 * B.length) (hp1 : 8 * B.length < p + 1) :
  Calls Tryz.prog 175 #[.pointer (some ⟨d, 0, none⟩)] w
   fun e w' => e = lost ∧ ∃ q, OnD w' d f base g off cap z B st q ∧ Dst d f w st.v w' st.v := by
 obtain ⟨c0, _⟩ := h.dec.cell
 have hmu := h.src.much
 have HH := hide h
 clear h
 go_enter Tryz.func175, Tryz.ntmps175
 go_wp2_with fail
 refine (feedBit_miss f B.length cap p _ w (unhide HH).feed hmu (by omega) (by omega)).mono ?_
 rintro e w1 ⟨rfl, m, rfl⟩
 have hs : Step (fun _ => False) w (w.drewN m) := (Step.refl _ _).drewN m
 have H1 := hide ((unhide HH).step0 hs)
 have H2 := hide (Dst.step0 (d := d) (f := f) (v := st.v) hs)
 clear hs
 go_wp2_with fail
 exact ⟨rfl, rfl, _, unhide H1, unhide H2⟩
theorem head_miss2 (d f base g off cap z p : Nat) (B : List Nat) (st : DSt) (w : World) (h : OnD w d f base g off cap z B st p) (hp : p < 8 * B.length) (hp1 : 8 * B.length < p + 3) :
  Calls Tryz.prog 175 #[.pointer (some ⟨d, 0, none⟩)] w
   fun e w' => e = lost ∧ ∃ q l, OnD w' d f base g off cap z B { st with last := l } q ∧ Dst d f w st.v w' st.v := by
 obtain ⟨c0, _⟩ := h.dec.cell
 have HH := hide h
 clear h
 go_enter Tryz.func175, Tryz.ntmps175
 go_wp2_with fail
 refine (feedBit_ok f g off cap z p B w (unhide HH).feed (unhide HH).src (by omega)).mono ?_
 rintro e w1 ⟨rfl, hf1⟩
 have h1 := (unhide HH).fed hf1
 obtain ⟨_, _, _, _, k4, _⟩ := h1.dec.cell
 have kf4 := h1.dec.free 5
 have HF1 := hide hf1
 have H1 := hide h1
 clear h1 hf1
 go_wp2_with fail
 obtain ⟨last, hl⟩ : ∃ last, last = ((bitAt B p : Int) == 1) := ⟨_, rfl⟩
 rw [← hl]
 have h2 : OnD (w1.setCell ⟨d, 5, none⟩ (.bool last)) d f base g off cap z B { st with last := last } (p + 1) := onSetLast (unhide H1)
 have hd2 : Dst d f w st.v (w1.setCell ⟨d, 5, none⟩ (.bool last)) st.v := (Dst.fed (unhide HF1)).trans (Dst.setCell d f w1 st.v 5 _)
 generalize w1.setCell ⟨d, 5, none⟩ (.bool last) = w2 at *
 refine (feedNum_miss f g off cap z (p + 1) 2 B w2 h2.feed h2.src h2.goff.f (by omega) (by omega) (by omega)).mono ?_
 rintro e w3 ⟨rfl, hf3⟩
 have H3 := hide (h2.fed hf3)
 have HD3 := hide (hd2.trans (Dst.fed hf3))
 clear h2 hd2 hf3 hl
 go_wp2_with fail
 exact ⟨rfl, rfl, _, _, unhide H3, unhide HD3⟩
theorem head_on (d f base g off cap z p : Nat) (B : List Nat) (st : DSt) (w : World) (h : OnD w d f base g off cap z B st p) (hth : p + 3 ≤ 8 * B.length) (Q : Ending → World → Prop)
  (h0 : numAt B (p + 1) 2 = 0 → ∀ w3, OnD w3 d f base g off cap z B { st with last := bitAt B p == 1 } (p + 1 + 2) → Dst d f w st.v w3 st.v → Calls Tryz.prog 193 #[.pointer (some ⟨d, 0, none⟩)] w3 fun e w' => Ends e ∧ Q e w')
  (h1 : numAt B (p + 1) 2 = 1 → ∀ w3, OnD w3 d f base g off cap z B { st with last := bitAt B p == 1 } (p + 1 + 2) → Dst d f w st.v w3 st.v → Calls Tryz.prog 194 #[.pointer (some ⟨d, 0, none⟩)] w3 fun e w' => Ends e ∧ Q e w')
  (h2 : numAt B (p + 1) 2 = 2 → ∀ w3, OnD w3 d f base g off cap z B { st with last := bitAt B p == 1 } (p + 1 + 2) → Dst d f w st.v w3 st.v → Calls Tryz.prog 195 #[.pointer (some ⟨d, 0, none⟩)] w3 fun e w' => Ends e ∧ Q e w')
  (h3 : numAt B (p + 1) 2 = 3 → ∀ w3, OnD w3 d f base g off cap z B { st with last := bitAt B p == 1 } (p + 1 + 2) → Dst d f w st.v w3 st.v → Q (.returned (.int .i64 5)) w3) :
  Calls Tryz.prog 175 #[.pointer (some ⟨d, 0, none⟩)] w fun e w' => Q e w' := by
 have K0 := hide h0
 have K1 := hide h1
 have K2 := hide h2
 have K3 := hide h3
 clear h0 h1 h2 h3
 obtain ⟨c0, _⟩ := h.dec.cell
 have HH := hide h
 clear h
 go_enter Tryz.func175, Tryz.ntmps175
 go_wp2_with fail
 refine (feedBit_ok f g off cap z p B w (unhide HH).feed (unhide HH).src (by omega)).mono ?_
 rintro e w1 ⟨rfl, hf1⟩
 have h1 := (unhide HH).fed hf1
 obtain ⟨_, _, _, _, k4, _⟩ := h1.dec.cell
 have kf4 := h1.dec.free 5
 have HF1 := hide hf1
 have H1 := hide h1
 clear h1 hf1
 have hbt : ((bitAt B p : Int) == 1) = (bitAt B p == 1) := by
  have := bitAt_lt B p
  have hx : bitAt B p = 0 ∨ bitAt B p = 1 := by omega
  rcases hx with hx | hx <;> rw [hx] <;> rfl
 obtain ⟨last, hl⟩ : ∃ last, last = (bitAt B p == 1) := ⟨_, rfl⟩
 rw [← hl] at hbt K0 K1 K2 K3
 clear hl
 go_wp2_with fail
 have h2 : OnD (w1.setCell ⟨d, 5, none⟩ (.bool last)) d f base g off cap z B { st with last := last } (p + 1) := onSetLast (unhide H1)
 have hd2 : Dst d f w st.v (w1.setCell ⟨d, 5, none⟩ (.bool last)) st.v := (Dst.fed (unhide HF1)).trans (Dst.setCell d f w1 st.v 5 _)
 generalize w1.setCell ⟨d, 5, none⟩ (.bool last) = w2 at *
 refine (feedNum_ok f g off cap z (p + 1) 2 B w2 h2.feed h2.src h2.goff.f (by omega) (by omega)).mono ?_
 rintro e w3 ⟨rfl, hf3⟩
 have h3 := h2.fed hf3
 have hd3 := hd2.trans (Dst.fed hf3)
 have HX3 := hide (show OnD w3 d f base g off cap z B { st with last := last } (p + 1 + 2) ∧ Dst d f w st.v w3 st.v from ⟨h3, hd3⟩)
 obtain ⟨kd, hkd⟩ : ∃ kd, kd = numAt B (p + 1) 2 := ⟨_, rfl⟩
 have hk4 : kd < 4 := by rw [hkd]; exact numAt_lt B (p + 1) 2
 rw [← hkd] at K0 K1 K2 K3 ⊢
 clear h2 hd2 h3 hd3 hf3 hbt hkd
 have hcs : kd = 0 ∨ kd = 1 ∨ kd = 2 ∨ kd = 3 := by omega
 rcases hcs with rfl | rfl | rfl | rfl
 ·have HC := hide (unhide K0 rfl w3 (unhide HX3).1 (unhide HX3).2)
  clear K0 K1 K2 K3 HX3
  go_wp2_with fail
  refine (unhide HC).mono ?_
  rintro e w4 ⟨⟨x, rfl⟩ | rfl, hq⟩
  ·have HQ := hide hq
   clear hq
   go_wp2_with fail
   exact unhide HQ
  ·have HQ := hide hq
   clear hq
   go_wp2_with fail
   exact ⟨rfl, unhide HQ⟩
 ·have HC := hide (unhide K1 rfl w3 (unhide HX3).1 (unhide HX3).2)
  clear K0 K1 K2 K3 HX3
  go_wp2_with fail
  refine (unhide HC).mono ?_
  rintro e w4 ⟨⟨x, rfl⟩ | rfl, hq⟩
  ·have HQ := hide hq
   clear hq
   go_wp2_with fail
   exact unhide HQ
  ·have HQ := hide hq
   clear hq
   go_wp2_with fail
   exact ⟨rfl, unhide HQ⟩
 ·have HC := hide (unhide K2 rfl w3 (unhide HX3).1 (unhide HX3).2)
  clear K0 K1 K2 K3 HX3
  go_wp2_with fail
  refine (unhide HC).mono ?_
  rintro e w4 ⟨⟨x, rfl⟩ | rfl, hq⟩
  ·have HQ := hide hq
   clear hq
   go_wp2_with fail
   exact unhide HQ
  ·have HQ := hide hq
   clear hq
   go_wp2_with fail
   exact ⟨rfl, unhide HQ⟩
 ·have HQ := hide (unhide K3 rfl w3 (unhide HX3).1 (unhide HX3).2)
  clear K0 K1 K2 K3 HX3
  go_wp2_with fail
  exact unhide HQ
theorem rRowF_len (D : Dealt) (B : List Nat) (n : Nat) : ∀ k p row r q, row.length ≤ n → rRowF D B n k p row = .ok r q → r.length ≤ n := by
 intro k
 induction k with
 | zero => intro p row r q hl h; simp only [rRowF, R.ok.injEq] at h; obtain ⟨rfl, _⟩ := h; exact hl
 | succ k ih =>
  intro p row r q hl h
  rw [rRowF] at h
  split at h
  ·simp only [R.ok.injEq] at h; obtain ⟨rfl, _⟩ := h; exact hl
  ·split at h
   ·simp at h
   ·simp at h
   ·split at h
    ·simp at h
    ·split at h
     ·simp at h
     ·simp at h
     ·split at h
      ·simp at h
      ·exact ih _ _ _ _ (by rw [List.length_append, List.length_replicate]; omega) h
theorem rCoding_len {B : List Nat} {p : Nat} {ab : List Nat × List Nat} {q : Nat} (h : rCoding B p = .ok ab q) : ab.1.length ≤ 1000 ∧ ab.2.length ≤ 1000 := by
 unfold rCoding at h
 split at h
 ·dsimp only at h
  split at h
  ·simp at h
  ·split at h
   ·split at h
    ·split at h
     ·rename_i row q1 hr
      have h1 := rRowF_len _ _ _ _ _ _ _ _ (by simp) hr
      unfold rDealt at h
      split at h
      ·simp only [R.ok.injEq] at h; obtain ⟨rfl, _⟩ := h; simp only [List.length_take, List.length_drop]; omega
      ·simp at h
     ·simp at h
     ·simp at h
    ·simp at h
   ·simp at h
 ·simp at h
theorem head_any (d f base g off cap z : Nat) (B : List Nat) (s : GS) (v : Value) (w : World) (hH : HoldsG w d f base g off cap z B s v) (hp1 : s.place ≠ 1) (hp2 : s.place ≠ 2) :
  Calls Tryz.prog 175 #[.pointer (some ⟨d, 0, none⟩)] w fun e w' => StepP (gHead B s) d f base g off cap z B s w v e w' := by
 obtain ⟨st, rfl, hon, e1, e2, e3, e4, e5, e6, e7, e8, e9⟩ := hH.ex
 have hbits := hH.bits
 unfold gHead
 by_cases h3 : s.p + 3 ≤ 8 * B.length
 case neg =>
  rw [if_neg h3]
  by_cases h1 : s.p + 1 ≤ 8 * B.length
  ·refine (head_miss2 d f base g off cap z s.p B st w hon (by omega) (by omega)).mono ?_
   rintro e w' ⟨rfl, q, l, h4, h5⟩
   exact ⟨rfl, l, q, fun h => by omega, ⟨{ st with last := l }, rfl, h4, e1.same rfl rfl, e2, e3, rfl, e5, e6, e7, e8.step h5, fun h => absurd h hp2⟩, h5⟩
  ·refine (head_miss1 d f base g off cap z s.p B st w hon hbits (by omega)).mono ?_
   rintro e w' ⟨rfl, q, h4, h5⟩
   exact ⟨rfl, s.last, q, fun h => by omega, ⟨_, rfl, h4, e1, e2, e3, e4, e5, e6, e7, e8.step h5, fun h => absurd h hp2⟩, h5⟩
 rw [if_pos h3]
 refine head_on d f base g off cap z s.p B st w hon h3 _ ?_ ?_ ?_ ?_
 ·intro hk w3 h4 hd4
  rw [if_pos hk]
  by_cases hth : (s.p + 3 + 7) / 8 * 8 + 32 ≤ 8 * B.length
  ·rw [if_pos hth]
   have hn16 := numAt_lt B ((s.p + 3 + 7) / 8 * 8) 16
   by_cases hm : numAt B ((s.p + 3 + 7) / 8 * 8 + 16) 16 = 65535 - numAt B ((s.p + 3 + 7) / 8 * 8) 16
   ·rw [if_pos hm]
    refine (storedHead_ok d f base g off cap z (s.p + 1 + 2) ((s.p + 3 + 7) / 8 * 8) _ B _ w3 h4 rfl hth rfl hm (by omega)).mono ?_
    rintro e w' ⟨rfl, h5, hd5⟩
    have h6 := hd4.trans hd5
    exact ⟨.inl ⟨0, rfl⟩, rfl, st.v, hH.after h5 h6 rfl (e1.same rfl rfl) e2 rfl rfl rfl e6 e7 (e8.step h6) (fun h => by simp at h) rfl hH.room (by dsimp only; omega) hth, h6⟩
   ·rw [if_neg hm]
    refine (storedHead_no d f base g off cap z (s.p + 1 + 2) ((s.p + 3 + 7) / 8 * 8) _ _ B _ w3 h4 rfl hth rfl rfl hm (by omega)).mono ?_
    rintro e w' ⟨rfl, q, h5, hd5⟩
    exact ⟨.inl ⟨6, rfl⟩, rfl, by omega, { st with last := bitAt B s.p == 1 }, q, e1.same rfl rfl, h5, hd4.trans hd5⟩
  ·rw [if_neg hth]
   refine (storedHead_miss d f base g off cap z (s.p + 1 + 2) ((s.p + 3 + 7) / 8 * 8) B _ w3 h4 rfl (by omega) (by omega)).mono ?_
   rintro e w' ⟨rfl, q, h5, hd5⟩
   have h6 := hd4.trans hd5
   exact ⟨.inr rfl, rfl, (bitAt B s.p == 1), q, fun h => by omega, ⟨{ st with last := bitAt B s.p == 1 }, rfl, h5, e1.same rfl rfl, e2, e3, rfl, e5, e6, e7, e8.step h6, fun h => absurd h hp2⟩, h6⟩
 ·intro hk w3 h4 hd4
  rw [if_neg (by omega), if_pos hk]
  refine (fixedHead_any d f base g off cap z (s.p + 1 + 2) B _ w3 h4 (e8.step hd4) e6 e7).mono ?_
  rintro e w' ⟨rfl, st', a1, a2, a3, a4, a5, a6, h5, ht, hf, hd5⟩
  have h6 := hd4.trans hd5
  refine ⟨.inl ⟨0, rfl⟩, rfl, st.v, hH.after (st := st') h5 h6 a1 (e1.same a2.1 a2.2) (by rw [a3]; exact e2) a4 a5 (a6.trans e5) ?_ ?_ hf (fun _ => ht) rfl hH.room hH.left (by dsimp only; omega), h6⟩
  ·obtain ⟨mb, m1, _⟩ := ht.sm; exact ⟨_, m1⟩
  ·obtain ⟨x, m1, _⟩ := ht.dm; exact ⟨_, m1⟩
 ·intro hk w3 h4 hd4
  rw [if_neg (by omega), if_neg (by omega), if_pos hk]
  refine (toldHead_any d f base g off cap z (s.p + 1 + 2) B _ w3 h4 (by omega) (hH.order.step hd4.step hH.znot) hH.zero.2 e6 e7).mono ?_
  rw [show s.p + 1 + 2 = s.p + 3 from rfl]
  intro e w' hp
  cases hr : rCoding B (s.p + 3) with
  | ok ab q =>
   rw [hr] at hp
   obtain ⟨rfl, st', a1, a2, a3, a4, a5, a6, a7, h5, ht, hd5⟩ := hp
   have h6 := hd4.trans hd5
   have hq := rCoding_ok hr
   have hl := rCoding_len hr
   have ht2 := ht hl.1 hl.2
   refine ⟨.inl ⟨0, rfl⟩, rfl, st.v, hH.after (st := st') h5 h6 a1 (e1.same a2.1 a2.2) (by rw [a3]; exact e2) a4 a5 (a6.trans e5) ?_ ?_ (by rw [a7]; exact e8.step h6) (fun _ => ht2) rfl hH.room hH.left hq.2, h6⟩
   ·obtain ⟨mb, m1, _⟩ := ht2.sm; exact ⟨_, m1⟩
   ·obtain ⟨x, m1, _⟩ := ht2.dm; exact ⟨_, m1⟩
  | no x =>
   rw [hr] at hp
   obtain ⟨rfl, q, h5, hd5⟩ := hp
   exact ⟨.inl ⟨x, rfl⟩, rfl, rCoding_no hr, { st with last := bitAt B s.p == 1 }, q, e1.same rfl rfl, h5, hd4.trans hd5⟩
  | miss =>
   rw [hr] at hp
   obtain ⟨rfl, q, h5, hd5⟩ := hp
   have h6 := hd4.trans hd5
   exact ⟨.inr rfl, rfl, (bitAt B s.p == 1), q, fun h => by omega, ⟨{ st with last := bitAt B s.p == 1 }, rfl, h5, e1.same rfl rfl, e2, e3, rfl, e5, e6, e7, e8.step h6, fun h => absurd h hp2⟩, h6⟩
 ·intro hk w3 h4 hd4
  rw [if_neg (by omega), if_neg (by omega), if_neg (by omega)]
  exact ⟨rfl, by omega, { st with last := bitAt B s.p == 1 }, _, e1.same rfl rfl, h4, hd4⟩
theorem step_one (d : Nat) (place : Nat) (w : World) (Q : Ending → World → Prop) (hc : w.cell? ⟨d, 4, none⟩ = some (.int .i64 (place : Nat)))
  (h1 : place = 1 → Calls Tryz.prog 173 #[.pointer (some ⟨d, 0, none⟩)] w fun e w' => Ends e ∧ Q e w')
  (h2 : place = 2 → Calls Tryz.prog 174 #[.pointer (some ⟨d, 0, none⟩)] w fun e w' => Ends e ∧ Q e w')
  (h0 : place ≠ 1 → place ≠ 2 → Calls Tryz.prog 175 #[.pointer (some ⟨d, 0, none⟩)] w fun e w' => Ends e ∧ Q e w') :
  Calls Tryz.prog 151 #[.pointer (some ⟨d, 0, none⟩)] w fun e w' => Q e w' := by
 by_cases e1 : place = 1
 ·have HC := hide (h1 e1)
  subst e1
  clear h1 h2 h0
  go_enter Tryz.func151, Tryz.ntmps151
  go_wp2_with fail
  refine (unhide HC).mono ?_
  rintro e w4 ⟨⟨x, rfl⟩ | rfl, hq⟩
  ·have HQ := hide hq
   clear hq
   go_wp2_with fail
   exact unhide HQ
  ·have HQ := hide hq
   clear hq
   go_wp2_with fail
   exact ⟨rfl, unhide HQ⟩
 by_cases e2 : place = 2
 ·have HC := hide (h2 e2)
  subst e2
  clear h1 h2 h0
  go_enter Tryz.func151, Tryz.ntmps151
  go_wp2_with fail
  refine (unhide HC).mono ?_
  rintro e w4 ⟨⟨x, rfl⟩ | rfl, hq⟩
  ·have HQ := hide hq
   clear hq
   go_wp2_with fail
   exact unhide HQ
  ·have HQ := hide hq
   clear hq
   go_wp2_with fail
   exact ⟨rfl, unhide HQ⟩
 ·have HC := hide (h0 e1 e2)
  have b1 : ((place : Int) == 1) = false := beq_eq_false_iff_ne.2 (by omega)
  have b2 : ((place : Int) == 2) = false := beq_eq_false_iff_ne.2 (by omega)
  clear h1 h2 h0
  go_enter Tryz.func151, Tryz.ntmps151
  go_wp2_with fail
  refine (unhide HC).mono ?_
  rintro e w4 ⟨⟨x, rfl⟩ | rfl, hq⟩
  ·have HQ := hide hq
   clear hq
   go_wp2_with fail
   exact unhide HQ
  ·have HQ := hide hq
   clear hq
   go_wp2_with fail
   exact ⟨rfl, unhide HQ⟩
theorem StepP.ends {r : G} {d f base g off cap z : Nat} {B : List Nat} {s : GS} {w : World} {v : Value} {e : Ending} {w' : World} (h : StepP r d f base g off cap z B s w v e w') : Ends e := by
 cases r with
 | go s' => obtain ⟨rfl, _⟩ := h; exact .inl ⟨0, rfl⟩
 | no x out => obtain ⟨rfl, _⟩ := h; exact .inl ⟨x, rfl⟩
 | miss => obtain ⟨rfl, _⟩ := h; exact .inr rfl
theorem step_any (d f base g off cap z : Nat) (B : List Nat) (s : GS) (v : Value) (w : World) (hH : HoldsG w d f base g off cap z B s v) :
  Calls Tryz.prog 151 #[.pointer (some ⟨d, 0, none⟩)] w fun e w' => StepP (gStep B s) d f base g off cap z B s w v e w' := by
 obtain ⟨st, hv, hon, e1, e2, e3, _⟩ := hH.ex
 have hc3 := hon.dec.cell.2.2.2.1
 rw [e3] at hc3
 refine step_one d s.place w _ hc3 ?_ ?_ ?_
 ·intro h1
  have hg : gStep B s = gByte B s := by unfold gStep; rw [if_pos h1]
  rw [hg]
  exact (storedByte_any d f base g off cap z B s v w hH h1).mono fun e w' h => ⟨h.ends, h⟩
 ·intro h2
  have hg : gStep B s = gSym B s := by unfold gStep; rw [if_neg (by omega), if_pos h2]
  rw [hg]
  exact (symbol_any d f base g off cap z B s v w hH h2).mono fun e w' h => ⟨h.ends, h⟩
 ·intro h1 h2
  have hg : gStep B s = gHead B s := by unfold gStep; rw [if_neg h1, if_neg h2]
  rw [hg]
  exact (head_any d f base g off cap z B s v w hH h1 h2).mono fun e w' h => ⟨h.ends, h⟩
end Go.Proofs.YtbpahojchgpdnaaGreatDoor
namespace Go.Proofs.YtbpahojchgpdnaaGreatDoor
open Go.RowKit Go.Bel Go.Maps
theorem whole1_idle (a b c : Value) (w : World) :
  CallsD Tryz.prog 154 #[a, b, c] .returning w fun e u' w' => e = .returned (.tuple #[]) ∧ u' = .returning ∧ w' = w := by
 refine callsD_of_wpS Tryz.func154 rfl fun c₀ cs hu => ?_
 apply wpS_seq
 apply wpS_region
 simp [wpOpsS, go_sem, recoverD, hu, Tryz.ntmps154, Exit.thenS]
 refine wpS_of_wp ?_
 go_wp2
 cases c₀
 simp_all [bodyPostS, results, Tryz.results154]
end Go.Proofs.YtbpahojchgpdnaaGreatDoor
namespace Go.Proofs.YtbpahojchgpdnaaGreatDoor
open Go.RowKit Go.Bel Go.Maps
theorem isMissing (w : World) : (Instr.typeAssert (.iface 197 (.agg #[])) 20 197 true).run Tryz.prog w = .ok (.tuple #[.agg #[], .bool true]) w := by kernel_rfl
theorem whole1_lost {z : Nat} (R f p q : Nat) (s : Value) (x : Int) (w : World) (h0 : w.cell? ⟨R, 0, none⟩ = some (.pointer (some ⟨f, 0, none⟩))) (h2 : w.cell? ⟨R + 1 + 1, 0, none⟩ = some (.int .i64 (p : Nat)))
  (hF : w.heap[f]? = some (.cells #[s, .int .i64 (q : Nat), .int .i64 (z : Nat)] 91 (0, 0))) (h1 : w.heap[R + 1]? = some (.cells #[.int .i64 x] 43 (0, 0))) (hne : ¬ f = R + 1) :
  CallsD Tryz.prog 154 #[.pointer (some ⟨R + 1 + 1, 0, none⟩), .pointer (some ⟨R, 0, none⟩), .pointer (some ⟨R + 1, 0, none⟩)] (.panicking [{ v := missing, recovered := false }]) w
   fun e u' w' => e = .returned (.tuple #[]) ∧ u' = .panicking [{ v := missing, recovered := true }] ∧ Step (fun k => k = f ∨ k = R + 1) w w' ∧ w'.heap[f]? = some (.cells #[s, .int .i64 (p : Nat), .int .i64 (z : Nat)] 91 (0, 0)) ∧ w'.heap[R + 1]? = some (.cells #[.int .i64 3] 43 (0, 0)) := by
 have hs : ∀ o, Step (fun _ => False) w (w.alloc o) := fun o => (Step.refl _ _).alloc o
 have g0 : ∀ o, (w.alloc o).cell? ⟨R, 0, none⟩ = some (.pointer (some ⟨f, 0, none⟩)) := fun o => (hs o).cell h0 (fun x => x)
 have g2 : ∀ o, (w.alloc o).cell? ⟨R + 1 + 1, 0, none⟩ = some (.int .i64 (p : Nat)) := fun o => (hs o).cell h2 (fun x => x)
 have c1 : ∀ o, (w.alloc o).cell? ⟨f, 1, none⟩ = some (.int .i64 (q : Nat)) := fun o => (blk_three ((hs o).at_ hF (fun x => x))).2.1
 have fr1 : ∀ o, (w.alloc o).frozen? ⟨f, 1, none⟩ = false := fun o => (blk_three ((hs o).at_ hF (fun x => x))).2.2.2.1
 have r0 : ∀ o, (w.alloc o).cell? ⟨R + 1, 0, none⟩ = some (.int .i64 x) := fun o => cell_of_one ((hs o).at_ h1 (fun x => x))
 have rf : ∀ o, (w.alloc o).frozen? ⟨R + 1, 0, none⟩ = false := fun o => free_of_one ((hs o).at_ h1 (fun x => x))
 have hfl := lt_of_block hF
 have hrl := lt_of_block h1
 have d1 := (blk_three hF).2.1
 have d2 := (blk_three hF).2.2.2.1
 have d3 := cell_of_one h1
 have d4 := free_of_one h1
 have HF := hide hF
 have H1 := hide h1
 clear hs hF h1
 refine callsD_of_wpS Tryz.func154 rfl fun c₀ cs hu => ?_
 apply wpS_seq
 apply wpS_region
 simp [wpOpsS, go_sem, recoverD, hu, Tryz.ntmps154, Exit.thenS]
 refine wpS_of_wp ?_
 unfold missing
 have hta := isMissing
 go_wp2_with fail
 have hf1 := blk_set (unhide HF) 1 (.int .i64 (p : Nat))
 have hr1 := (show (w.setCell ⟨f, 1, none⟩ (.int .i64 (p : Nat))).heap[R + 1]? = w.heap[R + 1]? from Below.heap_setCell _ _ _ _ (fun x => hne x.symm)).trans (unhide H1)
 refine ⟨rfl, _, rfl, .tuple #[], by simp [results, Tryz.results154], rfl, rfl, ?_, ?_, ?_⟩
 ·exact (((Step.refl (fun k => k = f ∨ k = R + 1) w).setCell (p := ⟨f, 1, none⟩) (.inl rfl) _).setCell (p := ⟨R + 1, 0, none⟩) (.inr rfl) _).alloc _
 ·have h9 := (show ((w.setCell ⟨f, 1, none⟩ (.int .i64 (p : Nat))).setCell ⟨R + 1, 0, none⟩ (.int .i64 3)).heap[f]? = (w.setCell ⟨f, 1, none⟩ (.int .i64 (p : Nat))).heap[f]? from Below.heap_setCell _ _ _ _ hne).trans hf1
  refine (Below.heap_alloc _ _ _ (lt_of_block h9)).trans (h9.trans ?_)
  simp
 ·have h9 := blk_set hr1 0 (.int .i64 3)
  refine (Below.heap_alloc _ _ _ (lt_of_block h9)).trans (h9.trans ?_)
  simp
structure WholeP (f p z : Nat) (s : Value) (w : World) (Post : World → Ending → World → Prop) (e : Ending) (w'' : World) : Prop where
  ex : ∃ w1 e1 w', Step (fun _ => False) w w1 ∧ w1.heap.size = w.heap.size + 3 ∧ Post w1 e1 w' ∧
    ((∃ x : Nat, e1 = .returned (.int .i64 (x : Nat)) ∧ e = .returned (.int .i64 (x : Nat)) ∧ w'' = w'.setCell ⟨w.heap.size + 1, 0, none⟩ (.int .i64 (x : Nat))) ∨
     (e1 = lost ∧ e = .returned (.int .i64 3) ∧ Step (fun k => k = f ∨ k = w.heap.size + 1) w' w'' ∧ w''.heap[f]? = some (.cells #[s, .int .i64 (p : Nat), .int .i64 (z : Nat)] 91 (0, 0))))
theorem whole_bare {z : Nat} (f d p : Nat) (s : Value) (w : World) (Post : World → Ending → World → Prop)
  (hF : w.heap[f]? = some (.cells #[s, .int .i64 (p : Nat), .int .i64 (z : Nat)] 91 (0, 0)))
  (hcall : ∀ w1, Step (fun _ => False) w w1 → w1.heap.size = w.heap.size + 3 → w1.heap[w.heap.size + 1]? = some (.cells #[.int .i64 0] 43 (0, 0)) → Calls Tryz.prog 151 #[.pointer (some ⟨d, 0, none⟩)] w1 fun e w' => Ends e ∧ Post w1 e w')
  (hkeep : ∀ w1 e w', Step (fun _ => False) w w1 → w1.heap.size = w.heap.size + 3 → Post w1 e w' → w'.heap[w.heap.size]? = w1.heap[w.heap.size]? ∧ w'.heap[w.heap.size + 1]? = w1.heap[w.heap.size + 1]? ∧ w'.heap[w.heap.size + 1 + 1]? = w1.heap[w.heap.size + 1 + 1]? ∧ ∃ q : Nat, w'.heap[f]? = some (.cells #[s, .int .i64 (q : Nat), .int .i64 (z : Nat)] 91 (0, 0))) :
  Calls Tryz.prog 125 #[.pointer (some ⟨f, 0, none⟩), .func (.func 151) #[.pointer (some ⟨d, 0, none⟩)] #[]] w
   fun e w'' => WholeP f p z s w Post e w'' := by
 obtain ⟨_, c1, _, _, _⟩ := blk_three hF
 have hflt := lt_of_block hF
 have HF := hide hF
 have HC := hide hcall
 have HK := hide hkeep
 clear hF hcall hkeep
 have hmf : ∀ (fn : Fn) (first cap : Array Value) (w : World), (Instr.makeFunc fn first cap).run Tryz.prog w = .ok (.func fn first cap) w := fun _ _ _ _ => rfl
 go_enter_defers Tryz.func125, Tryz.ntmps125
 go_wp2_with fail
 have hst : Step (fun _ => False) w (((w.alloc (.cells #[.pointer (some ⟨f, 0, none⟩)] 72)).alloc (.cells #[.int .i64 0] 43)).alloc (.cells #[.int .i64 (p : Nat)] 3)) := (((Step.refl _ _).alloc _).alloc _).alloc _
 have hsz : (((w.alloc (.cells #[.pointer (some ⟨f, 0, none⟩)] 72)).alloc (.cells #[.int .i64 0] 43)).alloc (.cells #[.int .i64 (p : Nat)] 3)).heap.size = w.heap.size + 3 := by simp
 have hr : (((w.alloc (.cells #[.pointer (some ⟨f, 0, none⟩)] 72)).alloc (.cells #[.int .i64 0] 43)).alloc (.cells #[.int .i64 (p : Nat)] 3)).heap[w.heap.size + 1]? = some (.cells #[.int .i64 0] 43 (0, 0)) := (Below.heap_alloc _ _ _ (by simp)).trans (heap_alloc2_new _ _ _)
 have hr0 : (((w.alloc (.cells #[.pointer (some ⟨f, 0, none⟩)] 72)).alloc (.cells #[.int .i64 0] 43)).alloc (.cells #[.int .i64 (p : Nat)] 3)).heap[w.heap.size]? = some (.cells #[.pointer (some ⟨f, 0, none⟩)] 72 (0, 0)) := (Below.heap_alloc _ _ _ (by simp; omega)).trans ((Below.heap_alloc _ _ _ (by simp)).trans (heap_alloc_new _ _))
 have hr2 : (((w.alloc (.cells #[.pointer (some ⟨f, 0, none⟩)] 72)).alloc (.cells #[.int .i64 0] 43)).alloc (.cells #[.int .i64 (p : Nat)] 3)).heap[w.heap.size + 1 + 1]? = some (.cells #[.int .i64 (p : Nat)] 3 (0, 0)) := by
  have h9 := heap_alloc_new ((w.alloc (.cells #[.pointer (some ⟨f, 0, none⟩)] 72)).alloc (.cells #[.int .i64 0] 43)) (.cells #[.int .i64 (p : Nat)] 3)
  simpa using h9
 generalize (((w.alloc (.cells #[.pointer (some ⟨f, 0, none⟩)] 72)).alloc (.cells #[.int .i64 0] 43)).alloc (.cells #[.int .i64 (p : Nat)] 3)) = w1 at *
 refine (unhide HC w1 hst hsz hr).mono ?_
 rintro e w2 ⟨⟨x, rfl⟩ | rfl, hpost⟩
 ·have hb := (unhide HK w1 _ w2 hst hsz hpost).2.1.trans hr
  have r0 := cell_of_one hb
  have rf := free_of_one hb
  have HP := hide hpost
  clear hb hr hpost hr0 hr2
  go_wp2_with fail
  refine leaves_cons (f := 154) (args := #[.pointer (some ⟨w.heap.size + 1 + 1, 0, none⟩), .pointer (some ⟨w.heap.size, 0, none⟩), .pointer (some ⟨w.heap.size + 1, 0, none⟩)]) (by simp) (by simp [go_sem]) ?_
  refine (whole1_idle _ _ _ _).mono ?_
  rintro e u' w'' ⟨rfl, rfl, rfl⟩
  have hfin : WholeP f p z s w Post (.returned (.int .i64 (x : Nat))) (w2.setCell ⟨w.heap.size + 1, 0, none⟩ (.int .i64 (x : Nat))) := ⟨⟨w1, _, w2, hst, hsz, unhide HP, .inl ⟨x, rfl, rfl, rfl⟩⟩⟩
  refine ⟨.int .i64 (x : Nat), ?_, hfin⟩
  simp [results, Tryz.results125, go_sem, r0]
 ·obtain ⟨b0, b1, b2, q, hq⟩ := unhide HK w1 _ w2 hst hsz hpost
  have r0 := cell_of_one (b0.trans hr0)
  have r2 := cell_of_one (b2.trans hr2)
  have h1 := b1.trans hr
  have HP := hide hpost
  clear hr hpost hr0 hr2 b0 b1 b2
  go_wp2_with fail
  refine leaves_cons (f := 154) (args := #[.pointer (some ⟨w.heap.size + 1 + 1, 0, none⟩), .pointer (some ⟨w.heap.size, 0, none⟩), .pointer (some ⟨w.heap.size + 1, 0, none⟩)]) (by simp) (by simp [go_sem]) ?_
  refine (whole1_lost w.heap.size f p q s 0 w2 r0 r2 hq h1 (by omega)).mono ?_
  rintro e u' w'' ⟨rfl, rfl, h3, h4, h5⟩
  have r5 := cell_of_one h5
  have hfin : WholeP f p z s w Post (.returned (.int .i64 3)) w'' := ⟨⟨w1, _, w2, hst, hsz, unhide HP, .inr ⟨rfl, rfl, h3, h4⟩⟩⟩
  refine ⟨.int .i64 3, ?_, hfin⟩
  simp [results, Tryz.results125, go_sem, r5]
theorem whole_wrap {z : Nat} (f d p : Nat) (s : Value) (w : World) (Post : World → Ending → World → Prop)
  (hF : w.heap[f]? = some (.cells #[s, .int .i64 (p : Nat), .int .i64 (z : Nat)] 91 (0, 0)))
  (hcall : ∀ w1, Step (fun _ => False) w w1 → w1.heap.size = w.heap.size + 3 → w1.heap[w.heap.size + 1]? = some (.cells #[.int .i64 0] 43 (0, 0)) → Calls Tryz.prog 124 #[.pointer (some ⟨d, 0, none⟩)] w1 fun e w' => Ends e ∧ Post w1 e w')
  (hkeep : ∀ w1 e w', Step (fun _ => False) w w1 → w1.heap.size = w.heap.size + 3 → Post w1 e w' → w'.heap[w.heap.size]? = w1.heap[w.heap.size]? ∧ w'.heap[w.heap.size + 1]? = w1.heap[w.heap.size + 1]? ∧ w'.heap[w.heap.size + 1 + 1]? = w1.heap[w.heap.size + 1 + 1]? ∧ ∃ q : Nat, w'.heap[f]? = some (.cells #[s, .int .i64 (q : Nat), .int .i64 (z : Nat)] 91 (0, 0))) :
  Calls Tryz.prog 125 #[.pointer (some ⟨f, 0, none⟩), .func (.func 124) #[.pointer (some ⟨d, 0, none⟩)] #[]] w
   fun e w'' => WholeP f p z s w Post e w'' := by
 obtain ⟨_, c1, _, _, _⟩ := blk_three hF
 have hflt := lt_of_block hF
 have HF := hide hF
 have HC := hide hcall
 have HK := hide hkeep
 clear hF hcall hkeep
 have hmf : ∀ (fn : Fn) (first cap : Array Value) (w : World), (Instr.makeFunc fn first cap).run Tryz.prog w = .ok (.func fn first cap) w := fun _ _ _ _ => rfl
 go_enter_defers Tryz.func125, Tryz.ntmps125
 go_wp2_with fail
 have hst : Step (fun _ => False) w (((w.alloc (.cells #[.pointer (some ⟨f, 0, none⟩)] 72)).alloc (.cells #[.int .i64 0] 43)).alloc (.cells #[.int .i64 (p : Nat)] 3)) := (((Step.refl _ _).alloc _).alloc _).alloc _
 have hsz : (((w.alloc (.cells #[.pointer (some ⟨f, 0, none⟩)] 72)).alloc (.cells #[.int .i64 0] 43)).alloc (.cells #[.int .i64 (p : Nat)] 3)).heap.size = w.heap.size + 3 := by simp
 have hr : (((w.alloc (.cells #[.pointer (some ⟨f, 0, none⟩)] 72)).alloc (.cells #[.int .i64 0] 43)).alloc (.cells #[.int .i64 (p : Nat)] 3)).heap[w.heap.size + 1]? = some (.cells #[.int .i64 0] 43 (0, 0)) := (Below.heap_alloc _ _ _ (by simp)).trans (heap_alloc2_new _ _ _)
 have hr0 : (((w.alloc (.cells #[.pointer (some ⟨f, 0, none⟩)] 72)).alloc (.cells #[.int .i64 0] 43)).alloc (.cells #[.int .i64 (p : Nat)] 3)).heap[w.heap.size]? = some (.cells #[.pointer (some ⟨f, 0, none⟩)] 72 (0, 0)) := (Below.heap_alloc _ _ _ (by simp; omega)).trans ((Below.heap_alloc _ _ _ (by simp)).trans (heap_alloc_new _ _))
 have hr2 : (((w.alloc (.cells #[.pointer (some ⟨f, 0, none⟩)] 72)).alloc (.cells #[.int .i64 0] 43)).alloc (.cells #[.int .i64 (p : Nat)] 3)).heap[w.heap.size + 1 + 1]? = some (.cells #[.int .i64 (p : Nat)] 3 (0, 0)) := by
  have h9 := heap_alloc_new ((w.alloc (.cells #[.pointer (some ⟨f, 0, none⟩)] 72)).alloc (.cells #[.int .i64 0] 43)) (.cells #[.int .i64 (p : Nat)] 3)
  simpa using h9
 generalize (((w.alloc (.cells #[.pointer (some ⟨f, 0, none⟩)] 72)).alloc (.cells #[.int .i64 0] 43)).alloc (.cells #[.int .i64 (p : Nat)] 3)) = w1 at *
 refine (unhide HC w1 hst hsz hr).mono ?_
 rintro e w2 ⟨⟨x, rfl⟩ | rfl, hpost⟩
 ·have hb := (unhide HK w1 _ w2 hst hsz hpost).2.1.trans hr
  have r0 := cell_of_one hb
  have rf := free_of_one hb
  have HP := hide hpost
  clear hb hr hpost hr0 hr2
  go_wp2_with fail
  refine leaves_cons (f := 154) (args := #[.pointer (some ⟨w.heap.size + 1 + 1, 0, none⟩), .pointer (some ⟨w.heap.size, 0, none⟩), .pointer (some ⟨w.heap.size + 1, 0, none⟩)]) (by simp) (by simp [go_sem]) ?_
  refine (whole1_idle _ _ _ _).mono ?_
  rintro e u' w'' ⟨rfl, rfl, rfl⟩
  have hfin : WholeP f p z s w Post (.returned (.int .i64 (x : Nat))) (w2.setCell ⟨w.heap.size + 1, 0, none⟩ (.int .i64 (x : Nat))) := ⟨⟨w1, _, w2, hst, hsz, unhide HP, .inl ⟨x, rfl, rfl, rfl⟩⟩⟩
  refine ⟨.int .i64 (x : Nat), ?_, hfin⟩
  simp [results, Tryz.results125, go_sem, r0]
 ·obtain ⟨b0, b1, b2, q, hq⟩ := unhide HK w1 _ w2 hst hsz hpost
  have r0 := cell_of_one (b0.trans hr0)
  have r2 := cell_of_one (b2.trans hr2)
  have h1 := b1.trans hr
  have HP := hide hpost
  clear hr hpost hr0 hr2 b0 b1 b2
  go_wp2_with fail
  refine leaves_cons (f := 154) (args := #[.pointer (some ⟨w.heap.size + 1 + 1, 0, none⟩), .pointer (some ⟨w.heap.size, 0, none⟩), .pointer (some ⟨w.heap.size + 1, 0, none⟩)]) (by simp) (by simp [go_sem]) ?_
  refine (whole1_lost w.heap.size f p q s 0 w2 r0 r2 hq h1 (by omega)).mono ?_
  rintro e u' w'' ⟨rfl, rfl, h3, h4, h5⟩
  have r5 := cell_of_one h5
  have hfin : WholeP f p z s w Post (.returned (.int .i64 3)) w'' := ⟨⟨w1, _, w2, hst, hsz, unhide HP, .inr ⟨rfl, rfl, h3, h4⟩⟩⟩
  refine ⟨.int .i64 3, ?_, hfin⟩
  simp [results, Tryz.results125, go_sem, r5]
end Go.Proofs.YtbpahojchgpdnaaGreatDoor
namespace Go.Proofs.YtbpahojchgpdnaaGreatDoor
open Go.RowKit Go.Bel Go.Maps
theorem errno_ne {w : World} {d f base g off cap z b1 q : Nat} {A : Array Value} {B : List Nat} {st : DSt} (hon : OnD w d f base g off cap z B st q) (hb : w.heap[b1]? = some (.cells A 43 (0, 0))) : d ≠ b1 ∧ f ≠ b1 ∧ (∀ k, st.v.ownBlock = some k → k ≠ b1) ∧ (∀ mb M, TabAt w mb M → mb ≠ b1) ∧ (∀ cb A', w.heap[cb]? = some (.cells A' 125 (0, 0)) → cb ≠ b1) := by
 refine ⟨fun x => by have := hon.dec.blk; rw [x, hb] at this; simp at this, fun x => by have := hon.feed; rw [x, hb] at this; simp at this, fun k hk x => ?_, fun mb M hm x => ?_, fun cb A' hm x => by rw [x, hb] at hm; simp at hm⟩
 ·obtain ⟨_, ⟨hv, _⟩ | ⟨g', _, _, hv, _, hh, _⟩⟩ := hon.dec.own
  ·rw [hv] at hk; simp [Value.ownBlock] at hk
  ·rw [hv] at hk; simp only [Value.ownBlock, Option.some.injEq] at hk; rw [hk, x, hb] at hh; simp at hh
 ·obtain ⟨_, _, _, ⟨es, ck, hh, _⟩, _⟩ := hm
  rw [x, hb] at hh; simp at hh
theorem onD_reset {w w' : World} {d f base g off cap z b1 q p : Nat} {A : Array Value} {B : List Nat} {st : DSt} (hon : OnD w d f base g off cap z B st q) (hs : Step (fun k => k = f ∨ k = b1) w w') (hb : w.heap[b1]? = some (.cells A 43 (0, 0))) (hg : g ≠ b1)
  (hF : w'.heap[f]? = some (.cells #[.slice (fedA g off B.length) B.length cap, .int .i64 (p : Nat), .int .i64 (z : Nat)] 91 (0, 0))) : OnD w' d f base g off cap z B st p := by
 obtain ⟨n1, n2, n3, n4, n5⟩ := errno_ne hon hb
 exact ⟨hon.dec.other (hs.block d (lt_of_block hon.dec.blk) (fun x => x.elim hon.dec.ne n1)) (fun k hk => hs.block k (hon.dec.own.lt k hk).2 (fun x => x.elim (fun y => hon.dec.row_ne.2 (y ▸ hk)) (n3 k hk))) hs.size, hF, hon.src.step hs (fun x => x.elim hon.goff.f hg), hon.goff, Nat.lt_of_lt_of_le hon.glt hs.size⟩
theorem HoldsQ.reset {w w' : World} {d f base g off cap z b1 q : Nat} {A : Array Value} {B : List Nat} {s : GS} {v : Value} (h : HoldsQ w d f base g off cap z B s v q) (hs : Step (fun k => k = f ∨ k = b1) w w') (hb : w.heap[b1]? = some (.cells A 43 (0, 0))) (hg : g ≠ b1)
  (hF : w'.heap[f]? = some (.cells #[.slice (fedA g off B.length) B.length cap, .int .i64 (s.p : Nat), .int .i64 (z : Nat)] 91 (0, 0))) (hO : OrderAt w) (hz : 4 ≤ d ∧ 4 ≤ f) (hz2 : 4 ≤ b1) (hz3 : 4 ≤ w.heap.size) (hm : s.most ≤ 1048576) (hr : s.out.length ≤ s.most) (hl : s.left ≤ 65535) (hp : s.p ≤ 8 * B.length) :
  HoldsG w' d f base g off cap z B s v := by
 obtain ⟨st, rfl, hon, e1, e2, e3, e4, e5, e6, e7, e8, e9⟩ := h
 obtain ⟨n1, n2, n3, n4, n5⟩ := errno_ne hon hb
 have off : ∀ k, DOff d f st.v k → k ≠ b1 → ¬ (k = f ∨ k = b1) := fun k hk hn x => x.elim hk.f hn
 refine ⟨⟨st, rfl, onD_reset hon hs hb hg hF, e1, e2, e3, e4, e5, e6, e7, ?_, fun h2 => ?_⟩, hO.step hs (fun k hk x => by rcases x with x | x <;> omega), hz, Nat.le_trans hz3 hs.size, hm, hr, hl, hp⟩
 ·rcases e8 with e8 | ⟨cb, m1, m2, h1, h2, h3, h4, h5, h6, h7⟩
  ·exact .inl e8
  ·exact .inr ⟨cb, m1, m2, h1, hs.at_ h2 (off cb h5 (n5 cb _ h2)), h3.step hs (off m1 h6 (n4 _ _ h3)), h4.step hs (off m2 h7 (n4 _ _ h4)), h5, h6, h7⟩
 ·have ht := e9 h2
  obtain ⟨mb, a1, a2, a3⟩ := ht.sm
  obtain ⟨x, b1', b2⟩ := ht.dm
  refine ⟨⟨mb, a1, a2.step hs (off mb a3 (n4 _ _ a2)), a3⟩, ht.sl, ⟨x, b1', ?_⟩, ht.dl, ht.sn, ht.dn⟩
  rcases b2 with b2 | ⟨m2, c1, c2, c3⟩
  ·exact .inl b2
  ·exact .inr ⟨m2, c1, c2.step hs (off m2 c3 (n4 _ _ c2)), c3⟩
theorem HoldsG.toQ {w : World} {d f base g off cap z : Nat} {B : List Nat} {s : GS} {v : Value} (h : HoldsG w d f base g off cap z B s v) : HoldsQ w d f base g off cap z B s v s.p := h.ex
theorem HoldsG.place {w : World} {d f base g off cap z : Nat} {B : List Nat} {s : GS} {v : Value} (h : HoldsG w d f base g off cap z B s v) :
  w.cell? ⟨d, 0, none⟩ = some (.pointer (some ⟨f, 0, none⟩)) ∧ w.cell? ⟨d, 4, none⟩ = some (.int .i64 (s.place : Nat)) ∧ w.heap[f]? = some (.cells #[.slice (fedA g off B.length) B.length cap, .int .i64 (s.p : Nat), .int .i64 (z : Nat)] 91 (0, 0)) ∧ d < w.heap.size ∧ f < w.heap.size ∧ g < w.heap.size ∧ (∀ k, v.ownBlock = some k → k < w.heap.size) := by
 obtain ⟨st, rfl, hon, e1, e2, e3, e4, e5, e6, e7, e8, e9⟩ := h.ex
 obtain ⟨c0, _, _, c3, _⟩ := hon.dec.cell
 rw [e3] at c3
 exact ⟨c0, c3, hon.feed, lt_of_block hon.dec.blk, lt_of_block hon.feed, hon.glt, fun k hk => (hon.dec.own.lt k hk).2⟩
theorem HoldsG.step0 {w w' : World} {d f base g off cap z : Nat} {B : List Nat} {s : GS} {v : Value} (h : HoldsG w d f base g off cap z B s v) (hs : Step (fun _ => False) w w') : HoldsG w' d f base g off cap z B s v := by
 obtain ⟨st, rfl, hon, e1, e2, e3, e4, e5, e6, e7, e8, e9⟩ := h.ex
 have hd : Dst d f w st.v w' st.v := Dst.step0 hs
 exact h.after (hon.step0 hs) hd rfl e1 e2 e3 e4 e5 e6 e7 (e8.step hd) (fun hp => (e9 hp).step hd rfl rfl rfl rfl) rfl h.room h.left h.bits
def OneP (r : G) (d f base g off cap z : Nat) (B : List Nat) (s : GS) (w : World) (v : Value) (e : Ending) (w' : World) : Prop :=
 match r with
 | .go s' => e = .returned (.int .i64 0) ∧ ∃ v', HoldsG w' d f base g off cap z B s' v' ∧ Dst d f w v w' v'
 | .no x out => e = .returned (.int .i64 (x : Nat)) ∧ x ≠ 0 ∧ ∃ st q, Outs st s.taken out ∧ OnD w' d f base g off cap z B st q ∧ Dst d f w v w' st.v
 | .miss => e = .returned (.int .i64 3) ∧ ∃ l, (s.place = 1 ∨ s.place = 2 → l = s.last) ∧ HoldsG w' d f base g off cap z B { s with last := l } v ∧ Dst d f w v w' v
theorem StepP.facts {r : G} {d f base g off cap z : Nat} {B : List Nat} {s : GS} {w : World} {v : Value} {e : Ending} {w' : World} (h : StepP r d f base g off cap z B s w v e w') : ∃ v' q st, Dst d f w v w' v' ∧ OnD w' d f base g off cap z B st q := by
 cases r with
 | go s' => obtain ⟨_, v', h1, h2⟩ := h; obtain ⟨st, _, hon, _⟩ := h1.ex; exact ⟨v', _, st, h2, hon⟩
 | no x out => obtain ⟨_, _, st, q, _, h1, h2⟩ := h; exact ⟨_, q, st, h2, h1⟩
 | miss => obtain ⟨_, l, q, _, ⟨st, _, hon, _⟩, h2⟩ := h; exact ⟨_, q, st, h2, hon⟩
theorem one_any (d f base g off cap z : Nat) (B : List Nat) (s : GS) (v : Value) (w : World) (hH : HoldsG w d f base g off cap z B s v) :
  Calls Tryz.prog 125 #[.pointer (some ⟨f, 0, none⟩), .func (.func 151) #[.pointer (some ⟨d, 0, none⟩)] #[]] w
   fun e w' => OneP (gStep B s) d f base g off cap z B s w v e w' := by
 obtain ⟨_, _, hF, hdl, hfl, hgl, hol⟩ := hH.place
 have h0l := hH.zlt
 have hnot : ∀ k, w.heap.size ≤ k → ¬ (k = d ∨ k = f ∨ v.ownBlock = some k) := fun k hk hx => by
  rcases hx with hx | hx | hx
  ·omega
  ·omega
  ·have := hol k hx; omega
 refine (whole_bare f d s.p _ w (fun w1 e w' => StepP (gStep B s) d f base g off cap z B s w1 v e w' ∧ ∃ A, w'.heap[w.heap.size + 1]? = some (.cells A 43 (0, 0))) hF ?_ ?_).mono ?_
 ·intro w1 hs hsz hr
  refine (step_any d f base g off cap z B s v w1 (hH.step0 hs)).mono ?_
  intro e w' hp
  obtain ⟨v', q, st, hd, hon⟩ := hp.facts
  exact ⟨hp.ends, hp, _, hd.step.at_ hr (hnot _ (by omega))⟩
 ·rintro w1 e w' hs hsz ⟨hp, _⟩
  obtain ⟨v', q, st, hd, hon⟩ := hp.facts
  exact ⟨hd.step.block _ (by omega) (hnot _ (by omega)), hd.step.block _ (by omega) (hnot _ (by omega)), hd.step.block _ (by omega) (hnot _ (by omega)), q, hon.feed⟩
 ·rintro e w'' ⟨w1, e1, w', hs, hsz, ⟨hp, A, hA⟩, hend⟩
  have dst : ∀ v', Dst d f w1 v w' v' → Dst d f w v w' v' := fun v' h2 => ⟨(hs.mono (fun _ x => x.elim)).trans h2.step, fun k hk => (h2.own k hk).imp id (fun hx => by omega)⟩
  cases hg : gStep B s with
  | go s' =>
   rw [hg] at hp
   obtain ⟨rfl, v', h1, h2⟩ := hp
   rcases hend with ⟨x, hx, rfl, rfl⟩ | ⟨hx, _⟩
   ·cases hx
    have hs2 : Step (fun k => k = f ∨ k = w.heap.size + 1) w' (w'.setCell ⟨w.heap.size + 1, 0, none⟩ (.int .i64 0)) := (Step.refl _ w').setCell (p := ⟨w.heap.size + 1, 0, none⟩) (.inr rfl) _
    have hs3 : Step (· = w.heap.size + 1) w' (w'.setCell ⟨w.heap.size + 1, 0, none⟩ (.int .i64 0)) := (Step.refl (· = w.heap.size + 1) w').setCell (p := ⟨w.heap.size + 1, 0, none⟩) rfl _
    have hF' := h1.place.2.2.1
    refine ⟨rfl, v', h1.toQ.reset hs2 hA (by omega) (hs3.at_ hF' (by omega)) h1.order h1.zero (by omega) h1.zlt h1.most h1.room h1.left h1.bits, ?_⟩
    have h3 := dst v' h2
    exact ⟨h3.step.setNew (by simp) _, h3.own⟩
   ·cases hx
  | no x out =>
   rw [hg] at hp
   obtain ⟨rfl, hx0, st, q, h1, h2, h3⟩ := hp
   rcases hend with ⟨y, hy, rfl, rfl⟩ | ⟨hy, _⟩
   ·have hyx : y = x := by
     have := hy
     simp only [Ending.returned.injEq, Value.int.injEq, true_and] at this
     omega
    subst hyx
    have hs2 : Step (fun k => k = f ∨ k = w.heap.size + 1) w' (w'.setCell ⟨w.heap.size + 1, 0, none⟩ (.int .i64 (y : Nat))) := (Step.refl _ w').setCell (p := ⟨w.heap.size + 1, 0, none⟩) (.inr rfl) _
    have hs3 : Step (· = w.heap.size + 1) w' (w'.setCell ⟨w.heap.size + 1, 0, none⟩ (.int .i64 (y : Nat))) := (Step.refl (· = w.heap.size + 1) w').setCell (p := ⟨w.heap.size + 1, 0, none⟩) rfl _
    refine ⟨rfl, hx0, st, q, h1, onD_reset h2 hs2 hA (by omega) (hs3.at_ h2.feed (by omega)), ?_⟩
    have h4 := dst _ h3
    exact ⟨h4.step.setNew (by simp) _, h4.own⟩
   ·cases hy
  | miss =>
   rw [hg] at hp
   obtain ⟨rfl, l, q, h1, h2, h3⟩ := hp
   rcases hend with ⟨y, hy, _⟩ | ⟨_, rfl, h4, h5⟩
   ·cases hy
   ·have h6 := dst _ h3
    have hzz := h3.step.size
    refine ⟨rfl, l, h1, HoldsQ.reset (s := { s with last := l }) h2 h4 hA (by omega) h5 ((hH.order.step hs (fun _ _ x => x)).step h3.step hH.znot) hH.zero (by omega) (by omega) hH.most hH.room hH.left hH.bits, ?_⟩
    refine ⟨⟨h4.os.trans h6.step.os, h4.tape.trans h6.step.tape, h4.output.trans h6.step.output, Nat.le_trans h6.step.size h4.size, fun k hk hn => ?_⟩, fun k hk => .inl hk⟩
    exact (h4.block k (by have := h6.step.size; omega) (fun x => x.elim (fun y => hn (.inr (.inl y))) (fun y => by omega))).trans (h6.step.block k hk hn)
theorem gPut_taken {s s' : GS} {xs : List Nat} {p : Nat} (h : gPut s xs p = .go s') : s'.taken = s.taken := by
 rw [(gPut_go h).1]
theorem gStep_taken {B : List Nat} {s s' : GS} (h : gStep B s = .go s') : s'.taken = s.taken := by
 unfold gStep at h
 split at h
 ·unfold gByte at h
  split at h
  ·simp only [G.go.injEq] at h; rw [← h]; rfl
  ·split at h
   ·exact gPut_taken (s := { s with left := s.left - 1 }) h
   ·simp at h
 ·split at h
  ·unfold gSym at h
   split at h
   ·simp at h
   ·simp at h
   ·split at h
    ·exact gPut_taken h
    ·split at h
     ·simp only [G.go.injEq] at h; rw [← h]; rfl
     ·unfold gCopy at h
      split at h
      ·simp at h
      ·simp at h
      ·split at h
       ·simp at h
       ·simp at h
       ·split at h
        ·simp at h
        ·exact gPut_taken h
  ·unfold gHead at h
   split at h
   ·split at h
    ·split at h
     ·split at h
      ·simp only [G.go.injEq] at h; rw [← h]
      ·simp at h
     ·simp at h
    ·split at h
     ·simp only [G.go.injEq] at h; rw [← h]
     ·split at h
      ·split at h
       ·simp only [G.go.injEq] at h; rw [← h]
       ·simp at h
       ·simp at h
      ·simp at h
   ·simp at h
theorem runG_any (d f base g off cap z n e : Nat) (B : List Nat) (s : GS) (out : List Nat) (q : Nat) (v : Value) (w : World) (hH : HoldsG w d f base g off cap z B s v) (hr : GRun B n s e out q) :
  Calls Tryz.prog 117 #[.pointer (some ⟨d, 0, none⟩)] w fun r w' => r = .returned (.int .i64 (e : Nat)) ∧ ∃ st q', Outs st s.taken out ∧ (e = 0 → q' = q ∧ q ≤ 8 * B.length) ∧ OnD w' d f base g off cap z B st q' ∧ Dst d f w v w' st.v := by
 have hmf : ∀ (fn : Fn) (first cap : Array Value) (w : World), (Instr.makeFunc fn first cap).run Tryz.prog w = .ok (.func fn first cap) w := fun _ _ _ _ => rfl
 have HH := hide hH
 have HR := hide hr
 clear hH hr
 go_enter Tryz.func117, Tryz.ntmps117
 go_wp2_with fail
 go_loopg [4] n (fun k u wr => ∃ s1 v1, HoldsG wr d f base g off cap z B s1 v1 ∧ GRun B k s1 e out q ∧ Dst d f w v wr v1 ∧ s1.taken = s.taken)
 case atStart => exact ⟨s, v, unhide HH, unhide HR, Dst.refl _ _ _ _, rfl⟩
 case round =>
  obtain ⟨s1, v1, h1, h2, h3, htk⟩ := hrel
  have HTK := hide htk
  clear htk
  obtain ⟨c0, c3, _⟩ := h1.place
  have H1 := hide h1
  have H3 := hide h3
  have hone := one_any d f base g off cap z B s1 v1 wr h1
  clear h1 h3
  rcases h2.inv with ⟨hp, he, ho, hq⟩ | ⟨hp, hg, hq⟩ | ⟨hp, hg, he, ho, hq⟩ | ⟨m, s2, hk, hp, hg, k2⟩
  ·rw [hp] at c3
   have HE := hide he
   have HO := hide ho
   have HQ := hide hq
   clear hp h2 he ho hq hone
   go_wp2_with fail
   go_ret
   obtain ⟨st, hv, hon, e1, _⟩ := (unhide H1).ex
   refine ⟨by rw [unhide HE]; rfl, st, s1.p, by rw [unhide HO, ← unhide HTK]; exact e1, fun _ => ⟨(unhide HQ).symm, by rw [unhide HQ]; exact (unhide H1).bits⟩, hon, by rw [hv]; exact unhide H3⟩
  ·have hne : ((s1.place : Int) != 3) = true := by rw [bne_iff_ne]; omega
   rw [hg] at hone
   have HON := hide hone
   clear hp h2 hq hg hone
   go_wp2_with fail
   refine (unhide HON).mono ?_
   rintro r w2 ⟨rfl, hx, st, q', h4, h5, h6⟩
   have hxb : ((e : Int) != 0) = true := by rw [bne_iff_ne]; omega
   have H4 := hide h4
   have H5 := hide h5
   have H6 := hide ((unhide H3).trans h6)
   clear h4 h5 h6
   go_wp2_with fail
   go_ret
   exact ⟨rfl, st, q', by rw [← unhide HTK]; exact unhide H4, fun h => absurd h hx, unhide H5, unhide H6⟩
  ·have hne : ((s1.place : Int) != 3) = true := by rw [bne_iff_ne]; omega
   rw [hg] at hone
   have HON := hide hone
   subst he
   have HO := hide ho
   clear hp h2 hq hg hone ho
   go_wp2_with fail
   refine (unhide HON).mono ?_
   rintro r w2 ⟨rfl, l, h4, h5, h6⟩
   have H5 := hide h5
   have H6 := hide ((unhide H3).trans h6)
   clear h4 h5 h6
   go_wp2_with fail
   go_ret
   obtain ⟨st, hv, hon, e1, _⟩ := (unhide H5).ex
   refine ⟨rfl, st, _, by rw [unhide HO, ← unhide HTK]; exact e1, fun h => by omega, hon, by rw [hv]; exact unhide H6⟩
  ·have hne : ((s1.place : Int) != 3) = true := by rw [bne_iff_ne]; omega
   rw [hg] at hone
   have HON := hide hone
   have HK := hide k2
   have HT2 := hide ((gStep_taken hg).trans (unhide HTK))
   have hkm : m < gk := by omega
   clear hp k2 h2 hk hg hone
   go_wp2_with fail
   refine (unhide HON).mono ?_
   rintro r w2 ⟨rfl, v2, h4, h5⟩
   have H4 := hide h4
   have H5 := hide ((unhide H3).trans h5)
   clear h4 h5
   go_wp2_with fail
   go_roundg m
   case measure => omega
   case rel => exact ⟨_, v2, unhide H4, unhide HK, unhide H5, unhide HT2⟩
end Go.Proofs.YtbpahojchgpdnaaGreatDoor
