/- Proved here: what symbol does, whatever the bits are. -/
import Derived.Test.YtbpahojchgpdnaaGreatDoorGSym
import Derived.Test.YtbpahojchgpdnaaGreatDoorGCopy
namespace Go.Proofs.YtbpahojchgpdnaaGreatDoor
open Go.RowKit Go.Bel Go.Maps

theorem symbol_any (d f base g off cap z : Nat) (B : List Nat) (s : GS) (v : Value) (w : World) (hH : HoldsG w d f base g off cap z B s v) (h2 : s.place = 2) :
    Calls Tryz.prog 174 #[.pointer (some ⟨d, 0, none⟩)] w fun e w' => StepP (gSym B s) d f base g off cap z B s w v e w' := by
  obtain ⟨st, rfl, hon, e1, e2, e3, e4, e5, e6, e7, e8, e9⟩ := hH.ex
  have ht := e9 h2
  obtain ⟨mb, m1, m2, m3⟩ := ht.sm
  have hmu := hon.src.much
  have hsmall := e1.small e2 hH.most
  have hbits := hH.bits
  have hroom := hH.room
  unfold gSym
  cases hr : rSym (dealAll s.ls) B s.p with
  | no x =>
    have hx := rSym_no hr
    subst hx
    refine (symbol_no d f base g off cap z s.p mb (dealAll s.ls) B st w hon m1 ht.sl m2 m3.f (longest_le _) hbits hr).mono ?_
    rintro e w' ⟨rfl, q, h3, h4⟩
    exact ⟨rfl, by omega, st, q, e1, h3, h4⟩
  | miss =>
    refine (symbol_miss d f base g off cap z s.p mb (dealAll s.ls) B st w hon m1 ht.sl m2 m3.f (longest_le _) hbits hr).mono ?_
    rintro e w' ⟨rfl, q, h3, h4⟩
    exact ⟨rfl, s.last, q, fun _ => rfl, ⟨st, rfl, h3, e1, e2, e3, e4, e5, e6, e7, e8.step h4, fun _ => ht.step h4 rfl rfl rfl rfl⟩, h4⟩
  | ok c q =>
    have hcode := rSym_code hr
    have hq : q ≤ 8 * B.length := hcode.there
    have hlt := hcode.lt
    have hc1 := hcode.code1 (w := w) (f := f) (mb := mb) m2 m3.f (longest_le _)
    rw [← ht.sl] at hc1
    have hc6 := tab_lt ht.sn _ _ hcode.is
    dsimp only
    by_cases h256 : c < 256
    · rw [if_pos h256]
      unfold gPut
      by_cases hro : s.out.length + [c].length ≤ s.most
      · rw [if_pos hro]
        simp only [List.length_singleton] at hro
        refine (symbol_room d f base g off cap z s.p (q - s.p) mb c (dealAll s.ls).tab B st w hon m1 hc1 (by omega) hsmall (by omega) h256).mono ?_
        rintro e w' ⟨rfl, v', h3, h4⟩
        rw [show s.p + (q - s.p) = q by omega] at h3
        exact ⟨rfl, v', hH.after h3 h4 rfl (e1.add v' _) (by simp only [DSt.add, List.length_append, List.length_singleton]; omega) e3 e4 e5 e6 e7 (e8.step h4) (fun _ => ht.step h4 rfl rfl rfl rfl) rfl (by simp; omega) hH.left hq, h4⟩
      · rw [if_neg hro]
        simp only [List.length_singleton] at hro
        refine (symbol_full d f base g off cap z s.p (q - s.p) mb c (dealAll s.ls).tab B st w hon m1 hc1 (by omega) hsmall (by omega) h256).mono ?_
        rintro e w' ⟨rfl, h3, h4⟩
        refine ⟨rfl, by omega, st, _, ?_, h3, h4⟩
        have : s.most - s.out.length = 0 := by omega
        rw [this, List.take_zero, List.append_nil]
        exact e1
    · rw [if_neg h256]
      by_cases h6 : c = 256
      · rw [if_pos h6]
        refine (symbol_end d f base g off cap z s.p (q - s.p) mb c (dealAll s.ls).tab B st w hon m1 hc1 (by omega) h6).mono ?_
        rintro e w' ⟨rfl, h3, h4⟩
        rw [show s.p + (q - s.p) = q by omega] at h3
        exact ⟨rfl, st.v, ended_after hH rfl h3 h4 hq e1 e2 e4 e5 e6 e7 e8, h4⟩
      · rw [if_neg h6]
        refine symbol_copy d f base g off cap z s.p mb c q (dealAll s.ls) B st w _ hon m1 ht.sl m2 m3.f (longest_le _) hbits hr (by omega) hc6 ?_
        intro w1 hon1 hd1
        refine (copyBack_any d f base g off cap z q c B s st w1 hon1 hq (by omega) hc6 e1 e2 hH.most hroom (ht.step hd1 rfl rfl rfl rfl)).mono ?_
        intro e w' hp
        cases hg : gCopy B s c q with
        | go s' =>
          rw [hg] at hp
          obtain ⟨rfl, v', xs, hs, ho, hb, h3, h4⟩ := hp
          have h5 := hd1.trans h4
          refine ⟨.inl ⟨0, rfl⟩, rfl, v', ?_, h5⟩
          rw [hs]
          exact hH.after h3 h5 rfl (e1.add v' xs) (by rw [List.length_append] at ho ⊢; simp only [DSt.add]; omega) e3 e4 e5 e6 e7 (e8.step h5) (fun _ => ht.step h5 rfl rfl rfl rfl) rfl ho hH.left hb
        | no x out =>
          rw [hg] at hp
          obtain ⟨rfl, hx, st', q', h3, h4, h5⟩ := hp
          exact ⟨.inl ⟨x, rfl⟩, rfl, hx, st', q', h3, h4, hd1.trans h5⟩
        | miss =>
          rw [hg] at hp
          obtain ⟨rfl, q', h3, h4⟩ := hp
          have h5 := hd1.trans h4
          exact ⟨.inr rfl, rfl, s.last, q', fun _ => rfl, ⟨st, rfl, h3, e1, e2, e3, e4, e5, e6, e7, e8.step h5, fun _ => ht.step h5 rfl rfl rfl rfl⟩, h5⟩
end Go.Proofs.YtbpahojchgpdnaaGreatDoor
