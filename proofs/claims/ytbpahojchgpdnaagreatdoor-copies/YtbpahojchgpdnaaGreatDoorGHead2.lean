/- Proved here: what head and step do, whatever the bits are. -/
import Derived.Test.YtbpahojchgpdnaaGreatDoorGHead
import Derived.Test.YtbpahojchgpdnaaGreatDoorGSym2
namespace Go.Proofs.YtbpahojchgpdnaaGreatDoor
open Go.RowKit Go.Bel Go.Maps

/- what a call hands on -/
def Ends (e : Ending) : Prop := (∃ x : Nat, e = .returned (.int .i64 (x : Nat))) ∨ e = lost

set_option maxRecDepth 20000 in
set_option maxHeartbeats 2000000 in
theorem head_miss1 (d f base g off cap z p : Nat) (B : List Nat) (st : DSt) (w : World) (h : OnD w d f base g off cap z B st p) (hp : p ≤ 8 * B.length) (hp1 : 8 * B.length < p + 1) :
    Calls Tryz.prog 175 #[.pointer (some ⟨d, 0, none⟩)] w
      fun e w' => e = lost ∧ ∃ q, OnD w' d f base g off cap z B st q ∧ Dst d f w st.v w' st.v := by
  obtain ⟨c0, _⟩ := h.dec.cell
  have hmu := h.src.much
  have HH := hide h
  clear h
  go_enter Tryz.func175, Tryz.ntmps175
  go_wp2_with fail
  refine (feedBit_miss f B.length cap p _ w (unhide HH).feed hmu (by omega) (by omega)).mono ?_
  rintro e w1 ⟨rfl, m, rfl⟩
  have hs : Step (fun _ => False) w (w.drewN m) := (Step.refl _ _).drewN m
  have H1 := hide ((unhide HH).step0 hs)
  have H2 := hide (Dst.step0 (d := d) (f := f) (v := st.v) hs)
  clear hs
  go_wp2_with fail
  exact ⟨rfl, rfl, _, unhide H1, unhide H2⟩

set_option maxRecDepth 20000 in
set_option maxHeartbeats 2000000 in
theorem head_miss2 (d f base g off cap z p : Nat) (B : List Nat) (st : DSt) (w : World) (h : OnD w d f base g off cap z B st p) (hp : p < 8 * B.length) (hp1 : 8 * B.length < p + 3) :
    Calls Tryz.prog 175 #[.pointer (some ⟨d, 0, none⟩)] w
      fun e w' => e = lost ∧ ∃ q l, OnD w' d f base g off cap z B { st with last := l } q ∧ Dst d f w st.v w' st.v := by
  obtain ⟨c0, _⟩ := h.dec.cell
  have HH := hide h
  clear h
  go_enter Tryz.func175, Tryz.ntmps175
  go_wp2_with fail
  refine (feedBit_ok f g off cap z p B w (unhide HH).feed (unhide HH).src (by omega)).mono ?_
  rintro e w1 ⟨rfl, hf1⟩
  have h1 := (unhide HH).fed hf1
  obtain ⟨_, _, _, _, k4, _⟩ := h1.dec.cell
  have kf4 := h1.dec.free 5
  have HF1 := hide hf1
  have H1 := hide h1
  clear h1 hf1
  go_wp2_with fail
  obtain ⟨last, hl⟩ : ∃ last, last = ((bitAt B p : Int) == 1) := ⟨_, rfl⟩
  rw [← hl]
  have h2 : OnD (w1.setCell ⟨d, 5, none⟩ (.bool last)) d f base g off cap z B { st with last := last } (p + 1) := onSetLast (unhide H1)
  have hd2 : Dst d f w st.v (w1.setCell ⟨d, 5, none⟩ (.bool last)) st.v := (Dst.fed (unhide HF1)).trans (Dst.setCell d f w1 st.v 5 _)
  generalize w1.setCell ⟨d, 5, none⟩ (.bool last) = w2 at *
  refine (feedNum_miss f g off cap z (p + 1) 2 B w2 h2.feed h2.src h2.goff.f (by omega) (by omega) (by omega)).mono ?_
  rintro e w3 ⟨rfl, hf3⟩
  have H3 := hide (h2.fed hf3)
  have HD3 := hide (hd2.trans (Dst.fed hf3))
  clear h2 hd2 hf3 hl
  go_wp2_with fail
  exact ⟨rfl, rfl, _, _, unhide H3, unhide HD3⟩

set_option maxRecDepth 20000 in
set_option maxHeartbeats 4000000 in
theorem head_on (d f base g off cap z p : Nat) (B : List Nat) (st : DSt) (w : World) (h : OnD w d f base g off cap z B st p) (hth : p + 3 ≤ 8 * B.length) (Q : Ending → World → Prop)
    (h0 : numAt B (p + 1) 2 = 0 → ∀ w3, OnD w3 d f base g off cap z B { st with last := bitAt B p == 1 } (p + 1 + 2) → Dst d f w st.v w3 st.v → Calls Tryz.prog 193 #[.pointer (some ⟨d, 0, none⟩)] w3 fun e w' => Ends e ∧ Q e w')
    (h1 : numAt B (p + 1) 2 = 1 → ∀ w3, OnD w3 d f base g off cap z B { st with last := bitAt B p == 1 } (p + 1 + 2) → Dst d f w st.v w3 st.v → Calls Tryz.prog 194 #[.pointer (some ⟨d, 0, none⟩)] w3 fun e w' => Ends e ∧ Q e w')
    (h2 : numAt B (p + 1) 2 = 2 → ∀ w3, OnD w3 d f base g off cap z B { st with last := bitAt B p == 1 } (p + 1 + 2) → Dst d f w st.v w3 st.v → Calls Tryz.prog 195 #[.pointer (some ⟨d, 0, none⟩)] w3 fun e w' => Ends e ∧ Q e w')
    (h3 : numAt B (p + 1) 2 = 3 → ∀ w3, OnD w3 d f base g off cap z B { st with last := bitAt B p == 1 } (p + 1 + 2) → Dst d f w st.v w3 st.v → Q (.returned (.int .i64 5)) w3) :
    Calls Tryz.prog 175 #[.pointer (some ⟨d, 0, none⟩)] w fun e w' => Q e w' := by
  have K0 := hide h0
  have K1 := hide h1
  have K2 := hide h2
  have K3 := hide h3
  clear h0 h1 h2 h3
  obtain ⟨c0, _⟩ := h.dec.cell
  have HH := hide h
  clear h
  go_enter Tryz.func175, Tryz.ntmps175
  go_wp2_with fail
  refine (feedBit_ok f g off cap z p B w (unhide HH).feed (unhide HH).src (by omega)).mono ?_
  rintro e w1 ⟨rfl, hf1⟩
  have h1 := (unhide HH).fed hf1
  obtain ⟨_, _, _, _, k4, _⟩ := h1.dec.cell
  have kf4 := h1.dec.free 5
  have HF1 := hide hf1
  have H1 := hide h1
  clear h1 hf1
  have hbt : ((bitAt B p : Int) == 1) = (bitAt B p == 1) := by
    have := bitAt_lt B p
    have hx : bitAt B p = 0 ∨ bitAt B p = 1 := by omega
    rcases hx with hx | hx <;> rw [hx] <;> rfl
  obtain ⟨last, hl⟩ : ∃ last, last = (bitAt B p == 1) := ⟨_, rfl⟩
  rw [← hl] at hbt K0 K1 K2 K3
  clear hl
  go_wp2_with fail
  have h2 : OnD (w1.setCell ⟨d, 5, none⟩ (.bool last)) d f base g off cap z B { st with last := last } (p + 1) := onSetLast (unhide H1)
  have hd2 : Dst d f w st.v (w1.setCell ⟨d, 5, none⟩ (.bool last)) st.v := (Dst.fed (unhide HF1)).trans (Dst.setCell d f w1 st.v 5 _)
  generalize w1.setCell ⟨d, 5, none⟩ (.bool last) = w2 at *
  refine (feedNum_ok f g off cap z (p + 1) 2 B w2 h2.feed h2.src h2.goff.f (by omega) (by omega)).mono ?_
  rintro e w3 ⟨rfl, hf3⟩
  have h3 := h2.fed hf3
  have hd3 := hd2.trans (Dst.fed hf3)
  have HX3 := hide (show OnD w3 d f base g off cap z B { st with last := last } (p + 1 + 2) ∧ Dst d f w st.v w3 st.v from ⟨h3, hd3⟩)
  obtain ⟨kd, hkd⟩ : ∃ kd, kd = numAt B (p + 1) 2 := ⟨_, rfl⟩
  have hk4 : kd < 4 := by rw [hkd]; exact numAt_lt B (p + 1) 2
  rw [← hkd] at K0 K1 K2 K3 ⊢
  clear h2 hd2 h3 hd3 hf3 hbt hkd
  have hcs : kd = 0 ∨ kd = 1 ∨ kd = 2 ∨ kd = 3 := by omega
  rcases hcs with rfl | rfl | rfl | rfl
  · have HC := hide (unhide K0 rfl w3 (unhide HX3).1 (unhide HX3).2)
    clear K0 K1 K2 K3 HX3
    go_wp2_with fail
    refine (unhide HC).mono ?_
    rintro e w4 ⟨⟨x, rfl⟩ | rfl, hq⟩
    · have HQ := hide hq
      clear hq
      go_wp2_with fail
      exact unhide HQ
    · have HQ := hide hq
      clear hq
      go_wp2_with fail
      exact ⟨rfl, unhide HQ⟩
  · have HC := hide (unhide K1 rfl w3 (unhide HX3).1 (unhide HX3).2)
    clear K0 K1 K2 K3 HX3
    go_wp2_with fail
    refine (unhide HC).mono ?_
    rintro e w4 ⟨⟨x, rfl⟩ | rfl, hq⟩
    · have HQ := hide hq
      clear hq
      go_wp2_with fail
      exact unhide HQ
    · have HQ := hide hq
      clear hq
      go_wp2_with fail
      exact ⟨rfl, unhide HQ⟩
  · have HC := hide (unhide K2 rfl w3 (unhide HX3).1 (unhide HX3).2)
    clear K0 K1 K2 K3 HX3
    go_wp2_with fail
    refine (unhide HC).mono ?_
    rintro e w4 ⟨⟨x, rfl⟩ | rfl, hq⟩
    · have HQ := hide hq
      clear hq
      go_wp2_with fail
      exact unhide HQ
    · have HQ := hide hq
      clear hq
      go_wp2_with fail
      exact ⟨rfl, unhide HQ⟩
  · have HQ := hide (unhide K3 rfl w3 (unhide HX3).1 (unhide HX3).2)
    clear K0 K1 K2 K3 HX3
    go_wp2_with fail
    exact unhide HQ

theorem rRowF_len (D : Dealt) (B : List Nat) (n : Nat) : ∀ k p row r q, row.length ≤ n → rRowF D B n k p row = .ok r q → r.length ≤ n := by
  intro k
  induction k with
  | zero => intro p row r q hl h; simp only [rRowF, R.ok.injEq] at h; obtain ⟨rfl, _⟩ := h; exact hl
  | succ k ih =>
    intro p row r q hl h
    rw [rRowF] at h
    split at h
    · simp only [R.ok.injEq] at h; obtain ⟨rfl, _⟩ := h; exact hl
    · split at h
      · simp at h
      · simp at h
      · split at h
        · simp at h
        · split at h
          · simp at h
          · simp at h
          · split at h
            · simp at h
            · exact ih _ _ _ _ (by rw [List.length_append, List.length_replicate]; omega) h

theorem rCoding_len {B : List Nat} {p : Nat} {ab : List Nat × List Nat} {q : Nat} (h : rCoding B p = .ok ab q) : ab.1.length ≤ 1000 ∧ ab.2.length ≤ 1000 := by
  unfold rCoding at h
  split at h
  · dsimp only at h
    split at h
    · simp at h
    · split at h
      · split at h
        · split at h
          · rename_i row q1 hr
            have h1 := rRowF_len _ _ _ _ _ _ _ _ (by simp) hr
            unfold rDealt at h
            split at h
            · simp only [R.ok.injEq] at h; obtain ⟨rfl, _⟩ := h; simp only [List.length_take, List.length_drop]; omega
            · simp at h
          · simp at h
          · simp at h
        · simp at h
      · simp at h
  · simp at h

theorem head_any (d f base g off cap z : Nat) (B : List Nat) (s : GS) (v : Value) (w : World) (hH : HoldsG w d f base g off cap z B s v) (hp1 : s.place ≠ 1) (hp2 : s.place ≠ 2) :
    Calls Tryz.prog 175 #[.pointer (some ⟨d, 0, none⟩)] w fun e w' => StepP (gHead B s) d f base g off cap z B s w v e w' := by
  obtain ⟨st, rfl, hon, e1, e2, e3, e4, e5, e6, e7, e8, e9⟩ := hH.ex
  have hbits := hH.bits
  unfold gHead
  by_cases h3 : s.p + 3 ≤ 8 * B.length
  case neg =>
    rw [if_neg h3]
    by_cases h1 : s.p + 1 ≤ 8 * B.length
    · refine (head_miss2 d f base g off cap z s.p B st w hon (by omega) (by omega)).mono ?_
      rintro e w' ⟨rfl, q, l, h4, h5⟩
      exact ⟨rfl, l, q, fun h => by omega, ⟨{ st with last := l }, rfl, h4, e1.same rfl rfl, e2, e3, rfl, e5, e6, e7, e8.step h5, fun h => absurd h hp2⟩, h5⟩
    · refine (head_miss1 d f base g off cap z s.p B st w hon hbits (by omega)).mono ?_
      rintro e w' ⟨rfl, q, h4, h5⟩
      exact ⟨rfl, s.last, q, fun h => by omega, ⟨_, rfl, h4, e1, e2, e3, e4, e5, e6, e7, e8.step h5, fun h => absurd h hp2⟩, h5⟩
  rw [if_pos h3]
  refine head_on d f base g off cap z s.p B st w hon h3 _ ?_ ?_ ?_ ?_
  · intro hk w3 h4 hd4
    rw [if_pos hk]
    by_cases hth : (s.p + 3 + 7) / 8 * 8 + 32 ≤ 8 * B.length
    · rw [if_pos hth]
      have hn16 := numAt_lt B ((s.p + 3 + 7) / 8 * 8) 16
      by_cases hm : numAt B ((s.p + 3 + 7) / 8 * 8 + 16) 16 = 65535 - numAt B ((s.p + 3 + 7) / 8 * 8) 16
      · rw [if_pos hm]
        refine (storedHead_ok d f base g off cap z (s.p + 1 + 2) ((s.p + 3 + 7) / 8 * 8) _ B _ w3 h4 rfl hth rfl hm (by omega)).mono ?_
        rintro e w' ⟨rfl, h5, hd5⟩
        have h6 := hd4.trans hd5
        exact ⟨.inl ⟨0, rfl⟩, rfl, st.v, hH.after h5 h6 rfl (e1.same rfl rfl) e2 rfl rfl rfl e6 e7 (e8.step h6) (fun h => by simp at h) rfl hH.room (by dsimp only; omega) hth, h6⟩
      · rw [if_neg hm]
        refine (storedHead_no d f base g off cap z (s.p + 1 + 2) ((s.p + 3 + 7) / 8 * 8) _ _ B _ w3 h4 rfl hth rfl rfl hm (by omega)).mono ?_
        rintro e w' ⟨rfl, q, h5, hd5⟩
        exact ⟨.inl ⟨6, rfl⟩, rfl, by omega, { st with last := bitAt B s.p == 1 }, q, e1.same rfl rfl, h5, hd4.trans hd5⟩
    · rw [if_neg hth]
      refine (storedHead_miss d f base g off cap z (s.p + 1 + 2) ((s.p + 3 + 7) / 8 * 8) B _ w3 h4 rfl (by omega) (by omega)).mono ?_
      rintro e w' ⟨rfl, q, h5, hd5⟩
      have h6 := hd4.trans hd5
      exact ⟨.inr rfl, rfl, (bitAt B s.p == 1), q, fun h => by omega, ⟨{ st with last := bitAt B s.p == 1 }, rfl, h5, e1.same rfl rfl, e2, e3, rfl, e5, e6, e7, e8.step h6, fun h => absurd h hp2⟩, h6⟩
  · intro hk w3 h4 hd4
    rw [if_neg (by omega), if_pos hk]
    refine (fixedHead_any d f base g off cap z (s.p + 1 + 2) B _ w3 h4 (e8.step hd4) e6 e7).mono ?_
    rintro e w' ⟨rfl, st', a1, a2, a3, a4, a5, a6, h5, ht, hf, hd5⟩
    have h6 := hd4.trans hd5
    refine ⟨.inl ⟨0, rfl⟩, rfl, st.v, hH.after (st := st') h5 h6 a1 (e1.same a2.1 a2.2) (by rw [a3]; exact e2) a4 a5 (a6.trans e5) ?_ ?_ hf (fun _ => ht) rfl hH.room hH.left (by dsimp only; omega), h6⟩
    · obtain ⟨mb, m1, _⟩ := ht.sm; exact ⟨_, m1⟩
    · obtain ⟨x, m1, _⟩ := ht.dm; exact ⟨_, m1⟩
  · intro hk w3 h4 hd4
    rw [if_neg (by omega), if_neg (by omega), if_pos hk]
    refine (toldHead_any d f base g off cap z (s.p + 1 + 2) B _ w3 h4 (by omega) (hH.order.step hd4.step hH.znot) hH.zero.2 e6 e7).mono ?_
    rw [show s.p + 1 + 2 = s.p + 3 from rfl]
    intro e w' hp
    cases hr : rCoding B (s.p + 3) with
    | ok ab q =>
      rw [hr] at hp
      obtain ⟨rfl, st', a1, a2, a3, a4, a5, a6, a7, h5, ht, hd5⟩ := hp
      have h6 := hd4.trans hd5
      have hq := rCoding_ok hr
      have hl := rCoding_len hr
      have ht2 := ht hl.1 hl.2
      refine ⟨.inl ⟨0, rfl⟩, rfl, st.v, hH.after (st := st') h5 h6 a1 (e1.same a2.1 a2.2) (by rw [a3]; exact e2) a4 a5 (a6.trans e5) ?_ ?_ (by rw [a7]; exact e8.step h6) (fun _ => ht2) rfl hH.room hH.left hq.2, h6⟩
      · obtain ⟨mb, m1, _⟩ := ht2.sm; exact ⟨_, m1⟩
      · obtain ⟨x, m1, _⟩ := ht2.dm; exact ⟨_, m1⟩
    | no x =>
      rw [hr] at hp
      obtain ⟨rfl, q, h5, hd5⟩ := hp
      exact ⟨.inl ⟨x, rfl⟩, rfl, rCoding_no hr, { st with last := bitAt B s.p == 1 }, q, e1.same rfl rfl, h5, hd4.trans hd5⟩
    | miss =>
      rw [hr] at hp
      obtain ⟨rfl, q, h5, hd5⟩ := hp
      have h6 := hd4.trans hd5
      exact ⟨.inr rfl, rfl, (bitAt B s.p == 1), q, fun h => by omega, ⟨{ st with last := bitAt B s.p == 1 }, rfl, h5, e1.same rfl rfl, e2, e3, rfl, e5, e6, e7, e8.step h6, fun h => absurd h hp2⟩, h6⟩
  · intro hk w3 h4 hd4
    rw [if_neg (by omega), if_neg (by omega), if_neg (by omega)]
    exact ⟨rfl, by omega, { st with last := bitAt B s.p == 1 }, _, e1.same rfl rfl, h4, hd4⟩

set_option maxRecDepth 20000 in
set_option maxHeartbeats 400000 in
theorem step_one (d : Nat) (place : Nat) (w : World) (Q : Ending → World → Prop) (hc : w.cell? ⟨d, 4, none⟩ = some (.int .i64 (place : Nat)))
    (h1 : place = 1 → Calls Tryz.prog 173 #[.pointer (some ⟨d, 0, none⟩)] w fun e w' => Ends e ∧ Q e w')
    (h2 : place = 2 → Calls Tryz.prog 174 #[.pointer (some ⟨d, 0, none⟩)] w fun e w' => Ends e ∧ Q e w')
    (h0 : place ≠ 1 → place ≠ 2 → Calls Tryz.prog 175 #[.pointer (some ⟨d, 0, none⟩)] w fun e w' => Ends e ∧ Q e w') :
    Calls Tryz.prog 151 #[.pointer (some ⟨d, 0, none⟩)] w fun e w' => Q e w' := by
  by_cases e1 : place = 1
  · have HC := hide (h1 e1)
    subst e1
    clear h1 h2 h0
    go_enter Tryz.func151, Tryz.ntmps151
    go_wp2_with fail
    refine (unhide HC).mono ?_
    rintro e w4 ⟨⟨x, rfl⟩ | rfl, hq⟩
    · have HQ := hide hq
      clear hq
      go_wp2_with fail
      exact unhide HQ
    · have HQ := hide hq
      clear hq
      go_wp2_with fail
      exact ⟨rfl, unhide HQ⟩
  by_cases e2 : place = 2
  · have HC := hide (h2 e2)
    subst e2
    clear h1 h2 h0
    go_enter Tryz.func151, Tryz.ntmps151
    go_wp2_with fail
    refine (unhide HC).mono ?_
    rintro e w4 ⟨⟨x, rfl⟩ | rfl, hq⟩
    · have HQ := hide hq
      clear hq
      go_wp2_with fail
      exact unhide HQ
    · have HQ := hide hq
      clear hq
      go_wp2_with fail
      exact ⟨rfl, unhide HQ⟩
  · have HC := hide (h0 e1 e2)
    have b1 : ((place : Int) == 1) = false := beq_eq_false_iff_ne.2 (by omega)
    have b2 : ((place : Int) == 2) = false := beq_eq_false_iff_ne.2 (by omega)
    clear h1 h2 h0
    go_enter Tryz.func151, Tryz.ntmps151
    go_wp2_with fail
    refine (unhide HC).mono ?_
    rintro e w4 ⟨⟨x, rfl⟩ | rfl, hq⟩
    · have HQ := hide hq
      clear hq
      go_wp2_with fail
      exact unhide HQ
    · have HQ := hide hq
      clear hq
      go_wp2_with fail
      exact ⟨rfl, unhide HQ⟩

theorem StepP.ends {r : G} {d f base g off cap z : Nat} {B : List Nat} {s : GS} {w : World} {v : Value} {e : Ending} {w' : World} (h : StepP r d f base g off cap z B s w v e w') : Ends e := by
  cases r with
  | go s' => obtain ⟨rfl, _⟩ := h; exact .inl ⟨0, rfl⟩
  | no x out => obtain ⟨rfl, _⟩ := h; exact .inl ⟨x, rfl⟩
  | miss => obtain ⟨rfl, _⟩ := h; exact .inr rfl

theorem step_any (d f base g off cap z : Nat) (B : List Nat) (s : GS) (v : Value) (w : World) (hH : HoldsG w d f base g off cap z B s v) :
    Calls Tryz.prog 151 #[.pointer (some ⟨d, 0, none⟩)] w fun e w' => StepP (gStep B s) d f base g off cap z B s w v e w' := by
  obtain ⟨st, hv, hon, e1, e2, e3, _⟩ := hH.ex
  have hc3 := hon.dec.cell.2.2.2.1
  rw [e3] at hc3
  refine step_one d s.place w _ hc3 ?_ ?_ ?_
  · intro h1
    have hg : gStep B s = gByte B s := by unfold gStep; rw [if_pos h1]
    rw [hg]
    exact (storedByte_any d f base g off cap z B s v w hH h1).mono fun e w' h => ⟨h.ends, h⟩
  · intro h2
    have hg : gStep B s = gSym B s := by unfold gStep; rw [if_neg (by omega), if_pos h2]
    rw [hg]
    exact (symbol_any d f base g off cap z B s v w hH h2).mono fun e w' h => ⟨h.ends, h⟩
  · intro h1 h2
    have hg : gStep B s = gHead B s := by unfold gStep; rw [if_neg h1, if_neg h2]
    rw [hg]
    exact (head_any d f base g off cap z B s v w hH h1 h2).mono fun e w' h => ⟨h.ends, h⟩
end Go.Proofs.YtbpahojchgpdnaaGreatDoor
