/- Proved here: what storedHead, toldHead and head do, whatever the bits are. -/
import Derived.Test.YtbpahojchgpdnaaGreatDoorGFix
import Derived.Test.YtbpahojchgpdnaaGreatDoorGCod2
set_option maxRecDepth 20000
set_option maxHeartbeats 4000000
namespace Go.Proofs.YtbpahojchgpdnaaGreatDoor
open Go.RowKit Go.Bel Go.Maps
theorem storedHead_no (d f base g off cap z p q n m : Nat) (B : List Nat) (st : DSt) (w : World) (h : OnD w d f base g off cap z B st p) (hq : q = (p + 7) / 8 * 8) (hp : q + 32 ≤ 8 * B.length) (hn : numAt B q 16 = n) (hm : numAt B (q + 16) 16 = m) (hne : m ≠ 65535 - n) (hn2 : n ≤ 65535) :
  Calls Tryz.prog 193 #[.pointer (some ⟨d, 0, none⟩)] w
   fun e w' => e = .returned (.int .i64 6) ∧ ∃ q', OnD w' d f base g off cap z B st q' ∧ Dst d f w st.v w' st.v := by
 obtain ⟨c0, _, _, c3, c4, c5, _⟩ := h.dec.cell
 have hmu := h.src.much
 have HH := hide h
 have HQ := hide hq
 have HN := hide hn
 have HM := hide hm
 clear h hn hm hq
 have hpq : p ≤ q := by have := unhide HQ; omega
 go_enter Tryz.func193, Tryz.ntmps193
 go_wp2_with fail
 refine (feedPass_any f p _ w (unhide HH).feed (by omega)).mono ?_
 rintro e w1 ⟨rfl, hf1⟩
 rw [← unhide HQ] at hf1
 have h1 := (unhide HH).fed hf1
 obtain ⟨a0, _⟩ := h1.dec.cell
 have H1 := hide h1
 have HF1 := hide hf1
 clear h1 hf1
 go_wp2_with fail
 refine (feedNum_ok f g off cap z q 16 B w1 (unhide H1).feed (unhide H1).src (unhide H1).goff.f (by omega) (by omega)).mono ?_
 rintro e w2 ⟨rfl, hf2⟩
 rw [unhide HN]
 have h2 := (unhide H1).fed hf2
 obtain ⟨b0, _⟩ := h2.dec.cell
 have H2 := hide h2
 have HF2 := hide hf2
 clear h2 hf2
 go_wp2_with fail
 refine (feedNum_ok f g off cap z (q + 16) 16 B w2 (unhide H2).feed (unhide H2).src (unhide H2).goff.f (by omega) (by omega)).mono ?_
 rintro e w3 ⟨rfl, hf3⟩
 rw [unhide HM]
 have H3 := hide ((unhide H2).fed hf3)
 have HD3 := hide (((Dst.fed (d := d) (v := st.v) (unhide HF1)).trans (Dst.fed (unhide HF2))).trans (Dst.fed hf3))
 clear hf3
 have hneb : ((m : Int) != (65535 : Int) - (n : Int)) = true := by rw [bne_iff_ne]; omega
 go_wp2_with fail
 go_ret
 exact ⟨rfl, _, unhide H3, unhide HD3⟩
theorem storedHead_miss (d f base g off cap z p q : Nat) (B : List Nat) (st : DSt) (w : World) (h : OnD w d f base g off cap z B st p) (hq : q = (p + 7) / 8 * 8) (hp0 : p ≤ 8 * B.length) (hp : 8 * B.length < q + 32) :
  Calls Tryz.prog 193 #[.pointer (some ⟨d, 0, none⟩)] w
   fun e w' => e = lost ∧ ∃ q', OnD w' d f base g off cap z B st q' ∧ Dst d f w st.v w' st.v := by
 obtain ⟨c0, _, _, c3, c4, c5, _⟩ := h.dec.cell
 have hmu := h.src.much
 have HH := hide h
 have HQ := hide hq
 have hq8 : q ≤ 8 * B.length := by omega
 clear h hq
 go_enter Tryz.func193, Tryz.ntmps193
 go_wp2_with fail
 refine (feedPass_any f p _ w (unhide HH).feed (by omega)).mono ?_
 rintro e w1 ⟨rfl, hf1⟩
 rw [← unhide HQ] at hf1
 have h1 := (unhide HH).fed hf1
 obtain ⟨a0, _⟩ := h1.dec.cell
 have H1 := hide h1
 have HF1 := hide hf1
 clear h1 hf1
 go_wp2_with fail
 by_cases h16 : q + 16 ≤ 8 * B.length
 ·refine (feedNum_ok f g off cap z q 16 B w1 (unhide H1).feed (unhide H1).src (unhide H1).goff.f (by omega) h16).mono ?_
  rintro e w2 ⟨rfl, hf2⟩
  have hnl := numAt_lt B q 16
  have h2 := (unhide H1).fed hf2
  obtain ⟨b0, _⟩ := h2.dec.cell
  have H2 := hide h2
  have HF2 := hide hf2
  clear h2 hf2
  go_wp2_with fail
  refine (feedNum_miss f g off cap z (q + 16) 16 B w2 (unhide H2).feed (unhide H2).src (unhide H2).goff.f (by omega) h16 (by omega)).mono ?_
  rintro e w3 ⟨rfl, hf3⟩
  have H3 := hide ((unhide H2).fed hf3)
  have HD3 := hide (((Dst.fed (d := d) (v := st.v) (unhide HF1)).trans (Dst.fed (unhide HF2))).trans (Dst.fed hf3))
  clear hf3
  go_wp2_with fail
  exact ⟨rfl, rfl, _, unhide H3, unhide HD3⟩
 ·refine (feedNum_miss f g off cap z q 16 B w1 (unhide H1).feed (unhide H1).src (unhide H1).goff.f (by omega) hq8 (by omega)).mono ?_
  rintro e w3 ⟨rfl, hf3⟩
  have H3 := hide ((unhide H1).fed hf3)
  have HD3 := hide ((Dst.fed (d := d) (v := st.v) (unhide HF1)).trans (Dst.fed hf3))
  clear hf3
  go_wp2_with fail
  exact ⟨rfl, rfl, _, unhide H3, unhide HD3⟩
def ToldP (r : R (List Nat × List Nat)) (d f base g off cap z : Nat) (B : List Nat) (st : DSt) (w : World) (e : Ending) (w' : World) : Prop :=
 match r with
 | .ok ab q => e = .returned (.int .i64 0) ∧ ∃ st', st'.v = st.v ∧ (st'.out = st.out ∧ st'.fresh = st.fresh) ∧ st'.room = st.room ∧ st'.place = 2 ∧ st'.last = st.last ∧ st'.left = st.left ∧ st'.fx = st.fx ∧ OnD w' d f base g off cap z B st' q ∧ (ab.1.length ≤ 1000 → ab.2.length ≤ 1000 → Tabs w' d f st.v st' ab.1 ab.2) ∧ Dst d f w st.v w' st.v
 | .no x => e = .returned (.int .i64 (x : Nat)) ∧ ∃ q, OnD w' d f base g off cap z B st q ∧ Dst d f w st.v w' st.v
 | .miss => e = lost ∧ ∃ q, OnD w' d f base g off cap z B st q ∧ Dst d f w st.v w' st.v
theorem rCoding_no {B : List Nat} {p e : Nat} (h : rCoding B p = .no e) : e ≠ 0 := by
 unfold rCoding at h
 split at h
 ·dsimp only at h
  split at h
  ·simp only [R.no.injEq] at h; omega
  ·split at h
   ·split at h
    ·split at h
     ·unfold rDealt at h
      split at h
      ·simp at h
      ·simp only [R.no.injEq] at h; omega
     ·rename_i e1 hr
      simp only [R.no.injEq] at h
      have := rRowF_no _ _ _ _ _ _ _ hr
      omega
     ·simp at h
    ·simp only [R.no.injEq] at h; omega
   ·simp at h
 ·simp at h
theorem toldHead_any (d f base g off cap z p : Nat) (B : List Nat) (st : DSt) (w : World) (h : OnD w d f base g off cap z B st p) (hp : p ≤ 8 * B.length) (hO : OrderAt w) (h0f : 4 ≤ f) (hsm : ∃ x, st.sm = .map x) (hdm : ∃ x, st.dm = .map x) :
  Calls Tryz.prog 195 #[.pointer (some ⟨d, 0, none⟩)] w fun e w' => ToldP (rCoding B p) d f base g off cap z B st w e w' := by
 obtain ⟨c0, _⟩ := h.dec.cell
 obtain ⟨x1, hx1⟩ := hsm
 obtain ⟨x2, hx2⟩ := hdm
 have hrc := readCoding_any f g off cap z p B w h.feed h.src h.goff.f hO h0f hp
 obtain ⟨res, hre⟩ : ∃ r, r = rCoding B p := ⟨_, rfl⟩
 rw [← hre] at hrc ⊢
 have hre0 : ∀ x, res = .no x → x ≠ 0 := fun x hx => rCoding_no (by rw [← hre, hx])
 have HRC := hide hrc
 have HH := hide h
 have HX1 := hide hx1
 have HX2 := hide hx2
 clear h hx1 hx2 hrc hre
 go_enter Tryz.func195, Tryz.ntmps195
 go_wp2_with fail
 cases hr : res with
 | miss =>
  have hrc := unhide HRC
  rw [hr] at hrc
  refine hrc.mono ?_
  rintro e w1 ⟨rfl, q, hfed⟩
  have H1 := hide ((unhide HH).fed hfed)
  have H2 := hide (Dst.fed (d := d) (v := st.v) hfed)
  clear hfed hrc
  go_wp2_with fail
  rw [hr]
  exact ⟨rfl, rfl, _, unhide H1, unhide H2⟩
 | no x =>
  have hx := hre0 x hr
  have hrc := unhide HRC
  rw [hr] at hrc
  refine hrc.mono ?_
  rintro e w1 ⟨rfl, q, hfed⟩
  have hxb : ((x : Int) != 0) = true := by rw [bne_iff_ne]; omega
  have H1 := hide ((unhide HH).fed hfed)
  have H2 := hide (Dst.fed (d := d) (v := st.v) hfed)
  clear hfed hrc hx
  unfold noCoding
  go_wp2_with fail
  go_ret
  rw [hr]
  have ha : ∀ o, OnD (w1.alloc o) d f base g off cap z B st q := fun o => (unhide H1).step0 ((Step.refl (fun _ => False) _).alloc _)
  exact ⟨rfl, q, ha _, (unhide H2).alloc _⟩
 | ok ab q =>
  have hrc := unhide HRC
  rw [hr] at hrc
  refine hrc.mono ?_
  rintro e w1 ⟨⟨mb, x, rfl, hmb, htab, hfar⟩, hfed⟩
  obtain ⟨lg, hlg⟩ : ∃ lg, lg = (dealAll ab.1).longest := ⟨_, rfl⟩
  obtain ⟨l2, hl2⟩ : ∃ l2, l2 = (dealAll ab.2).longest := ⟨_, rfl⟩
  rw [← hlg, ← hl2]
  have h1 := (unhide HH).fed hfed
  obtain ⟨_, _, _, k3, _, _, k6, k7, k8, k9, _⟩ := h1.dec.cell
  rw [unhide HX1] at k6
  rw [unhide HX2] at k8
  have f3 := h1.dec.free 4
  have f6 := h1.dec.free 7
  have f7 := h1.dec.free 8
  have f8 := h1.dec.free 9
  have f9 := h1.dec.free 10
  have hdl := lt_of_block h1.dec.blk
  have hmblt := htab.lt
  have HF := hide hfed
  have H1 := hide h1
  have HTB := hide htab
  have HFR := hide hfar
  have HLG := hide hlg
  have HL2 := hide hl2
  have hne : ¬ w1.heap.size = d := by omega
  have hdw := lt_of_block (unhide HH).dec.blk
  have oo : ∀ k, w.heap.size ≤ k → DOff d f st.v k := fun k hk => by
   have z1 := (unhide HH).dec.dbase
   have z2 := (unhide HH).dec.fbase
   have z3 := (unhide HH).dec.base_le
   exact ⟨by omega, by omega, fun hx => by have z4 := ((unhide HH).dec.own.lt k hx).2; omega⟩
  have OO := hide oo
  clear h1 hfed htab hfar hlg hl2 hrc oo HRC
  go_wp2_with fail
  go_ret
  rw [hr]
  have hdst : Dst d f w1 st.v _ st.v := (((((Dst.setCell d f w1 st.v 7 (.map (some mb))).trans (Dst.setCell d f _ st.v 8 (.int .i64 (lg : Nat)))).trans (Dst.setCell d f _ st.v 9 (.map x))).trans (Dst.setCell d f _ st.v 10 (.int .i64 (l2 : Nat)))).trans (Dst.setCell d f _ st.v 4 (.int .i64 2))).alloc (.cells #[.map (some mb), .int .i64 (lg : Nat), .map x, .int .i64 (l2 : Nat)] 125)
  refine ⟨rfl, { st with sm := .map (some mb), sl := lg, dm := .map x, dl := l2, place := 2 }, rfl, ⟨rfl, rfl⟩, rfl, rfl, rfl, rfl, rfl, ?_, fun hn1 hn2 => ?_, (Dst.fed (unhide HF)).trans hdst⟩
  ·have a1 := (unhide H1).set (st' := { st with sm := .map (some mb) }) 7 (.map (some mb)) (by simp [DSt.cells]) rfl rfl
   have a2 := a1.set (st' := { st with sm := .map (some mb), sl := lg }) 8 (.int .i64 (lg : Nat)) (by simp [DSt.cells]) rfl rfl
   have a3 := a2.set (st' := { st with sm := .map (some mb), sl := lg, dm := .map x }) 9 (.map x) (by simp [DSt.cells]) rfl rfl
   have a4 := a3.set (st' := { st with sm := .map (some mb), sl := lg, dm := .map x, dl := l2 }) 10 (.int .i64 (l2 : Nat)) (by simp [DSt.cells]) rfl rfl
   have a5 := a4.set (st' := { st with sm := .map (some mb), sl := lg, dm := .map x, dl := l2, place := 2 }) 4 (.int .i64 2) (by simp [DSt.cells]) rfl rfl
   exact a5.step0 ((Step.refl (fun _ => False) _).alloc _)
  ·refine ⟨⟨mb, rfl, (unhide HTB).step hdst.step (unhide OO mb hmb).not, unhide OO mb hmb⟩, unhide HLG, ⟨x, rfl, ?_⟩, unhide HL2, hn1, hn2⟩
   rcases unhide HFR with h9 | ⟨m2, e2, hm2, ht2⟩
   ·exact .inl h9
   ·exact .inr ⟨m2, e2, ht2.step hdst.step (unhide OO m2 hm2).not, unhide OO m2 hm2⟩
end Go.Proofs.YtbpahojchgpdnaaGreatDoor
