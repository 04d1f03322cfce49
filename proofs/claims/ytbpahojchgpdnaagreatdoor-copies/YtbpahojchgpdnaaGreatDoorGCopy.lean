/- Proved here: what copyBack does, whatever the bits are. -/
import Derived.Test.YtbpahojchgpdnaaGreatDoorGDist
import Derived.Test.YtbpahojchgpdnaaGreatDoorGStretch
import Derived.Test.YtbpahojchgpdnaaGreatDoorKept
namespace Go.Proofs.YtbpahojchgpdnaaGreatDoor
open Go.RowKit Go.Bel Go.Maps

/- what copyBack comes to -/
def CopyP (r : G) (d f base g off cap z : Nat) (B : List Nat) (s : GS) (st : DSt) (w : World) (e : Ending) (w' : World) : Prop :=
  match r with
  | .go s' => e = .returned (.int .i64 0) ∧ ∃ v' xs, s' = { s with out := s.out ++ xs, p := s'.p } ∧ (s.out ++ xs).length ≤ s.most ∧ s'.p ≤ 8 * B.length ∧ OnD w' d f base g off cap z B (st.add v' xs) s'.p ∧ Dst d f w st.v w' v'
  | .no x out => e = .returned (.int .i64 (x : Nat)) ∧ x ≠ 0 ∧ ∃ st' q, Outs st' s.taken out ∧ OnD w' d f base g off cap z B st' q ∧ Dst d f w st.v w' st'.v
  | .miss => e = lost ∧ ∃ q, OnD w' d f base g off cap z B st q ∧ Dst d f w st.v w' st.v

theorem FarD.farT {w w' : World} {d f : Nat} {v x : Value} {D : Dealt} (h : FarD w d f v x D) (hs : Dst d f w v w' v) : FarT w' x D f := by
  rcases h with h | ⟨mb, h1, h2, h3⟩
  · exact .inl h
  · exact .inr ⟨mb, h1, h3.f, h2.step hs.step h3.not⟩

theorem rLength_le {B : List Nat} {q c n q' : Nat} (h : rLength B q c = .ok n q') (hc : 257 ≤ c) : 3 ≤ n ∧ n ≤ 258 := by
  unfold rLength at h
  split at h
  · simp at h
  · split at h
    · simp only [R.ok.injEq] at h; obtain ⟨rfl, _⟩ := h; omega
    · split at h
      · simp only [R.ok.injEq] at h; obtain ⟨rfl, _⟩ := h; omega
      · split at h
        · simp only [R.ok.injEq] at h
          obtain ⟨rfl, _⟩ := h
          have hc2 : c ≤ 284 := by omega
          have hb : (c - 261) / 4 = 1 ∨ (c - 261) / 4 = 2 ∨ (c - 261) / 4 = 3 ∨ (c - 261) / 4 = 4 ∨ (c - 261) / 4 = 5 := by omega
          have hm : (c - 265) % 4 < 4 := Nat.mod_lt _ (by omega)
          have hn := numAt_lt B q ((c - 261) / 4)
          rcases hb with hb | hb | hb | hb | hb <;> rw [hb] at hn ⊢ <;> omega
        · simp at h
theorem rLength_no {B : List Nat} {q c e : Nat} (h : rLength B q c = .no e) : e = 9 := by
  unfold rLength at h
  split at h
  · simp only [R.no.injEq] at h; exact h.symm
  · split at h
    · simp at h
    · split at h
      · simp at h
      · split at h <;> simp at h
theorem rDist_no {D : Dealt} {B : List Nat} {q e : Nat} (h : rDist D B q = .no e) : e = 9 := by
  unfold rDist at h
  split at h
  · rename_i e1 hs; simp only [R.no.injEq] at h; subst h; exact rSym_no hs
  · simp at h
  · split at h
    · simp only [R.no.injEq] at h; exact h.symm
    · split at h
      · simp at h
      · split at h <;> simp at h
theorem rDist_le {D : Dealt} {B : List Nat} {q n q' : Nat} (h : rDist D B q = .ok n q') : 1 ≤ n ∧ n ≤ 32768 := by
  unfold rDist at h
  split at h
  · simp at h
  · simp at h
  · rename_i s q1 hs
    split at h
    · simp at h
    · split at h
      · simp only [R.ok.injEq] at h; obtain ⟨rfl, _⟩ := h; omega
      · split at h
        · simp only [R.ok.injEq] at h
          obtain ⟨rfl, _⟩ := h
          have hn := numAt_lt B q1 (s / 2 - 1)
          have hm : s % 2 < 2 := Nat.mod_lt _ (by omega)
          have hb : s / 2 - 1 ≤ 13 := by omega
          have hp : 2 ^ (s / 2 - 1) ≤ 2 ^ 13 := Nat.pow_le_pow_right (by omega) hb
          have h2 : (2 + s % 2) * 2 ^ (s / 2 - 1) ≤ 3 * 2 ^ (s / 2 - 1) := Nat.mul_le_mul_right _ (by omega)
          omega
        · simp at h

theorem copied_round (out : List Nat) (dist len : Nat) (hd : dist ≤ out.length) : copied out dist len = round (out.drop (out.length - dist)) len := by
  unfold copied round
  have e : (out.drop (out.length - dist)).length = dist := by rw [List.length_drop]; omega
  rw [e]
  apply List.map_congr_left
  intro i _
  rw [List.getElem?_drop]
theorem copied_length (out : List Nat) (dist len : Nat) : (copied out dist len).length = len := by simp [copied]

set_option maxRecDepth 20000 in
set_option maxHeartbeats 4000000 in
theorem copyBack_any (d f base g off cap z q c : Nat) (B : List Nat) (s : GS) (st : DSt) (w : World) (hon : OnD w d f base g off cap z B st q) (hq : q ≤ 8 * B.length) (hc : 257 ≤ c) (hc2 : c < 100000) (e1 : Outs st s.taken s.out) (e2 : st.room + s.out.length = s.most) (hm : s.most ≤ 1048576) (hr : s.out.length ≤ s.most) (ht : Tabs w d f st.v st s.ls s.ld) :
    Calls Tryz.prog 192 #[.pointer (some ⟨d, 0, none⟩), .int .i64 (c : Nat)] w fun e w' => CopyP (gCopy B s c q) d f base g off cap z B s st w e w' := by
  obtain ⟨c0, _⟩ := hon.dec.cell
  obtain ⟨res, hre⟩ : ∃ r, r = gCopy B s c q := ⟨_, rfl⟩
  rw [← hre]
  unfold gCopy at hre
  have hsmall := e1.small e2 hm
  have E2 := hide e2
  clear e2
  have hlen := readLength_any f g off cap z q c B w hon.feed hon.src hon.goff.f hq hc hc2
  have HON := hide hon
  have HT := hide ht
  clear hon ht
  go_enter Tryz.func192, Tryz.ntmps192
  go_wp2_with fail
  cases hL : rLength B q c with
  | no x =>
    have hx := rLength_no hL
    subst hx
    rw [hL] at hlen hre
    have HRE := hide hre
    clear hre
    refine hlen.mono ?_
    rintro e w1 ⟨rfl, q1, hf1⟩
    have H1 := hide ((unhide HON).fed hf1)
    have H2 := hide (Dst.fed (d := d) (v := st.v) hf1)
    clear hf1 hlen
    go_wp2_with fail
    go_ret
    rw [unhide HRE]
    exact ⟨rfl, by omega, st, _, e1, unhide H1, unhide H2⟩
  | miss =>
    rw [hL] at hlen hre
    have HRE := hide hre
    clear hre
    refine hlen.mono ?_
    rintro e w1 ⟨rfl, q1, hf1⟩
    have H1 := hide ((unhide HON).fed hf1)
    have H2 := hide (Dst.fed (d := d) (v := st.v) hf1)
    clear hf1 hlen
    go_wp2_with fail
    rw [unhide HRE]
    exact ⟨rfl, rfl, _, unhide H1, unhide H2⟩
  | ok n q1 =>
    have hn := rLength_le hL hc
    have hq1 := (rLength_ok hL hq).2
    rw [hL] at hlen hre
    refine hlen.mono ?_
    rintro e w1 ⟨rfl, hf1⟩
    have hon1 := (unhide HON).fed hf1
    have hd1 : Dst d f w st.v w1 st.v := Dst.fed hf1
    obtain ⟨x, hx1, hx2⟩ := (unhide HT).dm
    have hdl := (unhide HT).dl
    obtain ⟨k0, _, _, _, _, _, _, _, k8, k9, _⟩ := hon1.dec.cell
    rw [hx1] at k8
    rw [hdl] at k9
    have hrd := readDistance_any f g off cap z q1 x (dealAll s.ld) B w1.drew hon1.feed (hon1.src.step ((Step.refl (fun _ => False) w1).drew) (fun x => x)) hon1.goff.f (hx2.farT (hd1.trans (Dst.step0 ((Step.refl (fun _ => False) w1).drew)))) (longest_le _) hq1 (tab_lt (unhide HT).dn)
    have HON1 := hide hon1
    have HD1 := hide hd1
    have HRD := hide hrd
    have HRE := hide hre
    have HLEN := hide hn
    clear hf1 hlen hon1 hd1 hrd hre hn hx1 hx2 hdl HON
    go_wp2_with fail
    cases hD : rDist (dealAll s.ld) B q1 with
    | no y =>
      have hy := rDist_no hD
      subst hy
      have hrd := unhide HRD
      have hre := unhide HRE
      rw [hD] at hrd hre
      have HRD := hide hrd
      have HRE := hide hre
      clear hrd hre
      go_region_held3 (fun w' => w'.cell? ⟨d, 0, none⟩ = some (.pointer (some ⟨f, 0, none⟩)) ∧ w'.cell? ⟨d, 9, none⟩ = some (.map x) ∧ w'.cell? ⟨d, 10, none⟩ = some (.int .i64 ((dealAll s.ld).longest : Nat))) (go_keep)
        (first | (go_at_call 202; refine (unhide HRD).mono ?_; rintro e w2 ⟨rfl, q2, hf2⟩; have j0 := hf2.step.cell (p := ⟨d, 0, none⟩) k0 (unhide HON1).dec.ne; have j8 := hf2.step.cell (p := ⟨d, 9, none⟩) k8 (unhide HON1).dec.ne; have j9 := hf2.step.cell (p := ⟨d, 10, none⟩) k9 (unhide HON1).dec.ne))
      have H1 := hide (((unhide HON1).step0 ((Step.refl (fun _ => False) w1).drew)).fed hf2)
      have H2 := hide ((unhide HD1).trans ((Dst.step0 ((Step.refl (fun _ => False) w1).drew)).trans (Dst.fed (d := d) (v := st.v) hf2)))
      clear hf2 j0 j8 j9
      go_wp2_with fail
      go_ret
      rw [unhide HRE]
      exact ⟨rfl, by omega, st, _, e1, unhide H1, unhide H2⟩
    | miss =>
      have hrd := unhide HRD
      have hre := unhide HRE
      rw [hD] at hrd hre
      have HRD := hide hrd
      have HRE := hide hre
      clear hrd hre
      go_region_dies
      all_goals
        refine (unhide HRD).mono ?_
        rintro e w2 ⟨rfl, q2, hf2⟩
        refine ⟨rfl, ?_⟩
        rw [unhide HRE]
        exact ⟨rfl, _, ((unhide HON1).step0 ((Step.refl (fun _ => False) w1).drew)).fed hf2, (unhide HD1).trans ((Dst.step0 ((Step.refl (fun _ => False) w1).drew)).trans (Dst.fed (d := d) (v := st.v) hf2))⟩
    | ok dist q2 =>
      have hdi := rDist_le hD
      have hq2 := (rDist_ok hD).2
      have hrd := unhide HRD
      have hre := unhide HRE
      rw [hD] at hrd hre
      replace hre : res = if s.out.length < dist then G.no 10 s.out else gPut s (copied s.out dist n) q2 := hre
      have HRD := hide hrd
      have HRE := hide hre
      clear hrd hre
      go_region_held3 (fun w' => w'.cell? ⟨d, 0, none⟩ = some (.pointer (some ⟨f, 0, none⟩)) ∧ w'.cell? ⟨d, 9, none⟩ = some (.map x) ∧ w'.cell? ⟨d, 10, none⟩ = some (.int .i64 ((dealAll s.ld).longest : Nat))) (go_keep)
        (first | (go_at_call 202; refine (unhide HRD).mono ?_; rintro e w2 ⟨rfl, hf2⟩; have j0 := hf2.step.cell (p := ⟨d, 0, none⟩) k0 (unhide HON1).dec.ne; have j8 := hf2.step.cell (p := ⟨d, 9, none⟩) k8 (unhide HON1).dec.ne; have j9 := hf2.step.cell (p := ⟨d, 10, none⟩) k9 (unhide HON1).dec.ne))
      have hon2 := ((unhide HON1).step0 ((Step.refl (fun _ => False) w1).drew)).fed hf2
      have hd2 := (unhide HD1).trans ((Dst.step0 ((Step.refl (fun _ => False) w1).drew)).trans (Dst.fed (d := d) (v := st.v) hf2))
      obtain ⟨m0, _⟩ := hon2.dec.cell
      have HON2 := hide hon2
      have HD2 := hide hd2
      clear hf2 j0 j8 j9 hon2 hd2 HON1 HD1 HRD hD hL k0 k8 k9 c0
      go_wp2_with fail
      refine (window_any d f base st w2 (unhide HON2).dec hsmall.out).mono ?_
      rintro e w3 ⟨rfl, a, rfl, hwin⟩
      obtain ⟨ol, hol⟩ : ∃ ol, ol = st.out.length := ⟨_, rfl⟩
      rw [← hol] at hwin ⊢
      obtain ⟨old, hold, hor⟩ := e1.old
      have hsl : s.out.length = old.length + ol := by rw [hold, List.length_append, hol]
      have hfi : s.out.length < dist ↔ ol < dist := by
        rcases hor with hor | hor
        · rw [hor, List.length_nil] at hsl; omega
        · omega
      have holm : ol ≤ 1048576 := by have := hsmall.out; omega
      have hdrop : s.out.drop (s.out.length - dist) = st.out.drop (ol - dist) ∨ ol < dist := by
        by_cases hx : ol < dist
        · exact .inr hx
        · refine .inl ?_
          rw [hsl, show old.length + ol - dist = old.length + (ol - dist) by omega, hold, List.drop_append]
          simp
      have HDR := hide hdrop
      have HFI := hide hfi
      have HSL := hide hsl
      have HOL := hide hol
      clear hold hor hdrop hfi hsl
      by_cases hfar : ol < dist
      · have hre := unhide HRE
        rw [if_pos ((unhide HFI).2 hfar)] at hre
        have HRE := hide hre
        have hmin : min ol 32768 = ol := by omega
        rw [hmin] at hwin ⊢
        clear hre hwin hol
        go_wp2_with fail
        go_ret
        rw [unhide HRE]
        exact ⟨rfl, by omega, st, _, e1, unhide HON2, unhide HD2⟩
      · have hre := unhide HRE
        rw [if_neg (fun hx => hfar ((unhide HFI).1 hx))] at hre
        obtain ⟨wb, ha, hlies⟩ := hwin (by omega)
        subst ha
        have HRE := hide hre
        have HLI := hide hlies
        clear hre hlies hwin
        obtain ⟨wl, hwl⟩ : ∃ wl, wl = min ol 32768 := ⟨_, rfl⟩
        rw [← hwl]
        have hw1 : dist ≤ wl := by omega
        have hw2 : wl ≤ ol := by omega
        have hw3 : wl ≤ 32768 := by omega
        have hwl1 : 1 ≤ wl := by omega
        obtain ⟨u, hu⟩ : ∃ u, wl = u + dist := ⟨wl - dist, by omega⟩
        have hsubi : IntKind.i64.wrap ((wl : Int) - (dist : Int)) = (u : Int) := by rw [IntKind.wrap_i64]; omega
        have hu0 : (0 : Int) ≤ (u : Int) := by omega
        have hui : (u : Int) ≤ (wl : Int) := by omega
        have hune : ¬ (wl = u) := by omega
        have husub : wl - u = dist := by omega
        have hPlen : (st.out.drop (ol - dist)).length = dist := by rw [List.length_drop, ← unhide HOL]; omega
        have hPlies : Lies w3.drew wb (ol - wl + u) (st.out.drop (ol - dist)) := fun i hi => by
          rw [hPlen] at hi
          have h9 := unhide HLI (ol - dist + i) (by rw [← unhide HOL]; omega)
          rw [Nat.zero_add] at h9
          have e9 : ol - wl + u + i = ol - dist + i := by omega
          rw [e9, List.getElem?_drop]
          exact h9
        have hlen := unhide HLEN
        have hstr := stretched_any wb (ol - wl + u) dist n (st.out.drop (ol - dist)) w3.drew hPlies hPlen (by omega) (by omega) (by omega) (by omega)
        have hcr : round (st.out.drop (ol - dist)) n = copied s.out dist n := by
          have h9 := copied_round s.out dist n (by rw [unhide HSL]; omega)
          rw [h9]
          rcases unhide HDR with hx | hx
          · rw [hx]
          · exact absurd hx hfar
        rw [hcr] at hstr
        have HSTR := hide hstr
        have HU := hide hu
        clear hwl hol hPlies hstr hPlen hcr hu
        have hcl := copied_length s.out dist n
        obtain ⟨xs, hxs⟩ : ∃ xs, xs = copied s.out dist n := ⟨_, rfl⟩
        rw [← hxs] at hcl
        have hre := unhide HRE
        rw [← hxs] at hre HSTR
        unfold gPut at hre
        have HXL := hide hcl
        clear hxs hcl
        by_cases hro : s.out.length + xs.length ≤ s.most
        · rw [if_pos hro] at hre
          have HRE2 := hide hre
          clear hre HRE
          rw [unhide HXL] at hro
          have hrm : n ≤ st.room := by have := unhide E2; omega
          go_wp2_with fail
          go_region_held3 (fun _ => True) (exact trivial)
            (first | (go_at_call 203; refine (unhide HSTR).mono ?_; rintro e w4 ⟨k', off', cap', rfl, hcap', hlies', hs4⟩) | (go_at_call 190; refine (put_room d f base cap' k' off' n xs st w4 ((unhide HON2).step0 ((Step.refl (fun _ => False) w3).drew.trans hs4)).dec hlies' (unhide HXL) (by omega) (by omega) hcap' hrm hsmall).mono ?_; rintro e w5 ⟨rfl, v', h5, hw5⟩))
          have hs34 : Step (fun _ => False) w3 w4 := (Step.refl (fun _ => False) w3).drew.trans hs4
          have H5 := hide ((((unhide HON2).step0 hs34)).put h5 hw5)
          have HD5 := hide (((unhide HD2).trans (Dst.step0 hs34)).trans (Dst.of_wrt hw5))
          clear h5 hw5 hs34 hs4 hlies'
          go_wp2_with fail
          go_ret
          rw [unhide HRE2]
          refine ⟨rfl, v', xs, rfl, ?_, hq2, unhide H5, unhide HD5⟩
          rw [List.length_append, unhide HXL]; exact hro
        · rw [if_neg hro] at hre
          have HRE2 := hide hre
          clear hre HRE
          rw [unhide HXL] at hro
          have hrm : s.most - s.out.length = st.room := by have := unhide E2; omega
          have hrl : st.room < n := by have := unhide E2; omega
          have HRM := hide hrm
          clear hrm
          by_cases hfull : st.room = 0
          · go_wp2_with fail
            go_region_held3 (fun _ => True) (exact trivial)
            (first | (go_at_call 203; refine (unhide HSTR).mono ?_; rintro e w4 ⟨k', off', cap', rfl, hcap', hlies', hs4⟩) | (go_at_call 190; refine (put_full d f base cap' k' off' n st w4 ((unhide HON2).step0 ((Step.refl (fun _ => False) w3).drew.trans hs4)).dec (by omega) (by omega) hcap' hfull hsmall).mono ?_; rintro e w5 ⟨rfl, h5, hw5⟩))
            have hs34 : Step (fun _ => False) w3 w4 := (Step.refl (fun _ => False) w3).drew.trans hs4
            have H5 := hide ((((unhide HON2).step0 hs34)).put h5 hw5)
            have HD5 := hide (((unhide HD2).trans (Dst.step0 hs34)).trans (Dst.of_wrt hw5))
            clear h5 hw5 hs34 hs4 hlies'
            go_wp2_with fail
            go_ret
            rw [unhide HRE2]
            refine ⟨rfl, by omega, st, q2, ?_, unhide H5, unhide HD5⟩
            rw [unhide HRM, hfull, List.take_zero, List.append_nil]
            exact e1
          · go_wp2_with fail
            go_region_held3 (fun _ => True) (exact trivial)
            (first | (go_at_call 203; refine (unhide HSTR).mono ?_; rintro e w4 ⟨k', off', cap', rfl, hcap', hlies', hs4⟩) | (go_at_call 190; refine (put_part d f base cap' k' off' n xs st w4 ((unhide HON2).step0 ((Step.refl (fun _ => False) w3).drew.trans hs4)).dec hlies' (unhide HXL) (by omega) hcap' (by omega) hrl hsmall).mono ?_; rintro e w5 ⟨rfl, v', h5, hw5⟩))
            have hs34 : Step (fun _ => False) w3 w4 := (Step.refl (fun _ => False) w3).drew.trans hs4
            have H5 := hide ((((unhide HON2).step0 hs34)).put h5 hw5)
            have HD5 := hide (((unhide HD2).trans (Dst.step0 hs34)).trans (Dst.of_wrt hw5))
            clear h5 hw5 hs34 hs4 hlies'
            go_wp2_with fail
            go_ret
            rw [unhide HRE2, unhide HRM]
            exact ⟨rfl, by omega, st.add v' (xs.take st.room), q2, e1.add v' _, unhide H5, unhide HD5⟩
end Go.Proofs.YtbpahojchgpdnaaGreatDoor
