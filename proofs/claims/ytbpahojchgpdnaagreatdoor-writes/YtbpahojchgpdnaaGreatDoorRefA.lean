/- Proved here: what the reference's zlibHead does. -/
import Derived.Deep.RegionWith
import Derived.Test.YtbpahojchgpdnaaGreatDoorLaw
import Derived.Test.YtbpahojchgpdnaaGreatDoorGzipA
import Derived.Deep.DeepCutAuto
set_option maxRecDepth 20000
set_option maxHeartbeats 4000000
namespace Go.Proofs.YtbpahojchgpdnaaGreatDoor
open Go.RowKit Go.Bel
def failIf (bad : Bool) (e : Nat) (s : XS) : XS := if s.err = 0 ∧ bad = true then { s with err := e } else s
theorem failIf_v (bad : Bool) (e : Nat) (s : XS) : (failIf bad e s).v = s.v ∧ (failIf bad e s).out = s.out ∧ (failIf bad e s).name = s.name ∧ (failIf bad e s).most = s.most ∧ (failIf bad e s).at_ = s.at_ := by
 unfold failIf
 by_cases h : s.err = 0 ∧ bad = true
 ·rw [if_pos h]; exact ⟨rfl, rfl, rfl, rfl, rfl⟩
 ·rw [if_neg h]; exact ⟨rfl, rfl, rfl, rfl, rfl⟩
theorem failIf_err {bad : Bool} {e : Nat} {s : XS} (h : s.err ≠ 0) : failIf bad e s = s := by unfold failIf; rw [if_neg (fun x => h x.1)]
theorem failIf_ok {e : Nat} {s : XS} : failIf false e s = s := by unfold failIf; rw [if_neg (fun x => by cases x.2)]
theorem failIf_bad {e : Nat} {s : XS} (h : s.err = 0) : failIf true e s = { s with err := e } := by unfold failIf; rw [if_pos ⟨h, rfl⟩]
def zHead1 (b : ByteArray) (s : XS) : XS := failIf (!decide (zOk1 (numX b s 8).1)) 4 (numX b s 8).2
def zHeadX (b : ByteArray) (s : XS) : XS := failIf (!decide (zOk2 (numX b s 8).1 (numX b (zHead1 b s) 8).1)) 4 (numX b (zHead1 b s) 8).2
theorem zBad2 (c y : Nat) (bad : Bool) (h : bad = (!decide (zOk2 c y))) : (bad = true ∧ y / 32 % 2 = 1) ∨ (bad = true ∧ y / 32 % 2 = 0 ∧ ¬ (256 * c + y) % 31 = 0) ∨ (bad = false ∧ y / 32 % 2 = 0 ∧ (256 * c + y) % 31 = 0) := by
 by_cases h1 : y / 32 % 2 = 0
 ·by_cases h2 : (256 * c + y) % 31 = 0
  ·exact .inr (.inr ⟨by rw [h, decide_eq_true (show zOk2 c y from ⟨h1, h2⟩)]; rfl, h1, h2⟩)
  ·exact .inr (.inl ⟨by rw [h, decide_eq_false (fun x => h2 x.2)]; rfl, h1, h2⟩)
 ·exact .inl ⟨by rw [h, decide_eq_false (fun x => h1 x.1)]; rfl, by omega⟩
theorem zlibHeadX_any (x base : Nat) (b : ByteArray) (s : XS) (w : World) (h : XAt w x base b s) :
  Calls Tryz.prog 112 #[.pointer (some ⟨x, 0, none⟩)] w fun r w' => r = .returned (.tuple #[]) ∧ XAt w' x base b (zHeadX b s) ∧ Wrt x w s.v w' s.v := by
 have hv1 := (numX_v b s 8).1
 have hc : (numX b s 8).1 < 256 := numX_lt b s 8
 have HZX := hide (show ∀ s2, s2 = failIf (!decide (zOk1 (numX b s 8).1)) 4 (numX b s 8).2 → zHeadX b s = failIf (!decide (zOk2 (numX b s 8).1 (numX b s2 8).1)) 4 (numX b s2 8).2 from fun s2 hs => by rw [hs]; rfl)
 have HN := hide (number_any x base 8 b s w h (by omega))
 clear h
 generalize numX b s 8 = q1 at *
 obtain ⟨c, s1⟩ := q1
 dsimp only at hv1 hc HZX HN
 have hcase : (¬ s1.err = 0 ∧ failIf (!decide (zOk1 c)) 4 s1 = s1) ∨ (s1.err = 0 ∧ ¬ c % 16 = 8 ∧ failIf (!decide (zOk1 c)) 4 s1 = { s1 with err := 4 }) ∨ (s1.err = 0 ∧ c % 16 = 8 ∧ 7 < c / 16 ∧ failIf (!decide (zOk1 c)) 4 s1 = { s1 with err := 4 }) ∨ (s1.err = 0 ∧ c % 16 = 8 ∧ ¬ 7 < c / 16 ∧ failIf (!decide (zOk1 c)) 4 s1 = s1) := by
  by_cases h0 : s1.err = 0
  ·by_cases h1 : c % 16 = 8
   ·by_cases h2 : 7 < c / 16
    ·exact .inr (.inr (.inl ⟨h0, h1, h2, by rw [decide_eq_false (fun x => by have := x.2; omega)]; exact failIf_bad h0⟩))
    ·exact .inr (.inr (.inr ⟨h0, h1, h2, by rw [decide_eq_true (show zOk1 c from ⟨h1, by omega⟩)]; exact failIf_ok⟩))
   ·exact .inr (.inl ⟨h0, h1, by rw [decide_eq_false (fun x => h1 x.1)]; exact failIf_bad h0⟩)
  ·exact .inl ⟨h0, failIf_err h0⟩
 go_enter Tryz.func112, Tryz.ntmps112
 go_wp2_with fail
 refine (unhide HN).mono ?_
 rintro r w1 ⟨rfl, h1, hw1⟩
 obtain ⟨_, _, e1, _⟩ := h1.cell
 clear HN
 have H1 := hide h1
 have HW1 := hide hw1
 have HV1 := hide hv1
 clear h1 hw1 hv1
 have HSECOND := hide (show ∀ (s2 : XS) (w2 : World), XAt w2 x base b s2 → s2.v = s.v → s2 = failIf (!decide (zOk1 c)) 4 s1 → Wrt x w s.v w2 s.v → Calls Tryz.prog 140 #[.pointer (some ⟨x, 0, none⟩), .int .i64 8] w2 fun r w' => ∃ (y : Nat) (s3 : XS) (bad : Bool), r = .returned (.int .i64 (y : Nat)) ∧ y < 256 ∧ bad = (!decide (zOk2 c y)) ∧ XAt w' x base b s3 ∧ zHeadX b s = failIf bad 4 s3 ∧ s3.v = s.v ∧ Wrt x w s.v w' s.v from fun s2 w2 h2 hv hs hw => by
  refine (number_any x base 8 b s2 w2 h2 (by omega)).mono ?_
  rintro r w3 ⟨rfl, h3, hw3⟩
  rw [hv] at hw3
  exact ⟨_, _, _, rfl, numX_lt b s2 8, rfl, h3, unhide HZX s2 hs, (numX_v b s2 8).1.trans hv, hw.trans hw3⟩)
 clear HZX
 rcases hcase with ⟨h0, hf⟩ | ⟨h0, ha, hf⟩ | ⟨h0, ha, hb, hf⟩ | ⟨h0, ha, hb, hf⟩
 ·have heb : ((s1.err : Int) == 0) = false := beq_eq_false_iff_ne.2 (by omega)
  have HC := hide (unhide HSECOND s1 w1 (unhide H1) (unhide HV1) hf.symm (unhide HW1))
  clear h0 hf HSECOND
  go_wp2_with fail
  refine (unhide HC).mono ?_
  clear HC
  rintro r w5 ⟨y, s3, bad, rfl, hy, hbad, h3, hz, hv3, hw3⟩
  have HFIN := hide (And.intro hz (And.intro hw3 hv3))
  obtain ⟨_, _, e3, _⟩ := h3.cell
  have HH3 := hide h3
  have hbc := zBad2 c y bad hbad
  clear h3 hz hv3 hw3 hbad heb
  by_cases h0 : s3.err = 0
  ·have heb : ((s3.err : Int) == 0) = true := beq_iff_eq.2 (by omega)
   rcases hbc with ⟨hb, k1⟩ | ⟨hb, k1, k2⟩ | ⟨hb, k1, k2⟩
   ·have q1 : (y : Int) / 32 % 2 = 1 := by omega
    rw [hb, failIf_bad h0] at HFIN
    have HF := hide (fail_any x base 4 b s3 w5 (unhide HH3))
    rw [if_pos h0] at HF
    clear hb k1 h0
    go_wp2_with fail
    refine (unhide HF).mono ?_
    rintro r w2 ⟨rfl, h2, hw2⟩
    rw [(unhide HFIN).2.2] at hw2
    have HEND := hide (show XAt w2 x base b (zHeadX b s) ∧ Wrt x w s.v w2 s.v from ⟨by rw [(unhide HFIN).1]; exact h2, (unhide HFIN).2.1.trans hw2⟩)
    clear h2 hw2 HF HFIN
    go_wp2_with fail
    go_end0
    exact ⟨rfl, unhide HEND⟩
   ·have q1 : (y : Int) / 32 % 2 = 0 := by omega
    have q2 : ((256 * (c : Int) + (y : Int)) % 31 != 0) = true := bne_iff_ne.2 (by omega)
    rw [hb, failIf_bad h0] at HFIN
    have HF := hide (fail_any x base 4 b s3 w5 (unhide HH3))
    rw [if_pos h0] at HF
    clear hb k1 h0 k2
    go_wp2_with fail
    refine (unhide HF).mono ?_
    rintro r w2 ⟨rfl, h2, hw2⟩
    rw [(unhide HFIN).2.2] at hw2
    have HEND := hide (show XAt w2 x base b (zHeadX b s) ∧ Wrt x w s.v w2 s.v from ⟨by rw [(unhide HFIN).1]; exact h2, (unhide HFIN).2.1.trans hw2⟩)
    clear h2 hw2 HF HFIN
    go_wp2_with fail
    go_end0
    exact ⟨rfl, unhide HEND⟩
   ·have q1 : (y : Int) / 32 % 2 = 0 := by omega
    have q2 : (256 * (c : Int) + (y : Int)) % 31 = 0 := by omega
    rw [hb, failIf_ok] at HFIN
    have HEND := hide (show XAt w5 x base b (zHeadX b s) ∧ Wrt x w s.v w5 s.v from ⟨by rw [(unhide HFIN).1]; exact unhide HH3, (unhide HFIN).2.1⟩)
    clear hb k1 h0 k2 HFIN
    go_wp2_with fail
    go_end0
    exact ⟨rfl, unhide HEND⟩
  ·have heb : ((s3.err : Int) == 0) = false := beq_eq_false_iff_ne.2 (by omega)
   rw [failIf_err h0] at HFIN
   have HEND := hide (show XAt w5 x base b (zHeadX b s) ∧ Wrt x w s.v w5 s.v from ⟨by rw [(unhide HFIN).1]; exact unhide HH3, (unhide HFIN).2.1⟩)
   clear hbc h0 HFIN
   go_wp2_with fail
   go_end0
   exact ⟨rfl, unhide HEND⟩
 ·have heb : ((s1.err : Int) == 0) = true := beq_iff_eq.2 (by omega)
  have h16 : ((c : Int) % 16 != 8) = true := bne_iff_ne.2 (by omega)
  have HF := hide (fail_any x base 4 b s1 w1 (unhide H1))
  have H0 := hide h0
  have HFF := hide hf
  clear h0 hf ha
  go_wp2_with fail
  refine (unhide HF).mono ?_
  rintro r w2 ⟨rfl, h2, hw2⟩
  rw [if_pos (unhide H0)] at h2
  rw [unhide HV1] at hw2
  have HC := hide (unhide HSECOND _ w2 h2 (unhide HV1) (unhide HFF).symm ((unhide HW1).trans hw2))
  clear HSECOND h2 hw2 HF
  go_wp2_with fail
  refine (unhide HC).mono ?_
  clear HC
  rintro r w5 ⟨y, s3, bad, rfl, hy, hbad, h3, hz, hv3, hw3⟩
  have HFIN := hide (And.intro hz (And.intro hw3 hv3))
  obtain ⟨_, _, e3, _⟩ := h3.cell
  have HH3 := hide h3
  have hbc := zBad2 c y bad hbad
  clear h3 hz hv3 hw3 hbad heb
  by_cases h0 : s3.err = 0
  ·have heb : ((s3.err : Int) == 0) = true := beq_iff_eq.2 (by omega)
   rcases hbc with ⟨hb, k1⟩ | ⟨hb, k1, k2⟩ | ⟨hb, k1, k2⟩
   ·have q1 : (y : Int) / 32 % 2 = 1 := by omega
    rw [hb, failIf_bad h0] at HFIN
    have HF := hide (fail_any x base 4 b s3 w5 (unhide HH3))
    rw [if_pos h0] at HF
    clear hb k1 h0
    go_wp2_with fail
    refine (unhide HF).mono ?_
    rintro r w2 ⟨rfl, h2, hw2⟩
    rw [(unhide HFIN).2.2] at hw2
    have HEND := hide (show XAt w2 x base b (zHeadX b s) ∧ Wrt x w s.v w2 s.v from ⟨by rw [(unhide HFIN).1]; exact h2, (unhide HFIN).2.1.trans hw2⟩)
    clear h2 hw2 HF HFIN
    go_wp2_with fail
    go_end0
    exact ⟨rfl, unhide HEND⟩
   ·have q1 : (y : Int) / 32 % 2 = 0 := by omega
    have q2 : ((256 * (c : Int) + (y : Int)) % 31 != 0) = true := bne_iff_ne.2 (by omega)
    rw [hb, failIf_bad h0] at HFIN
    have HF := hide (fail_any x base 4 b s3 w5 (unhide HH3))
    rw [if_pos h0] at HF
    clear hb k1 h0 k2
    go_wp2_with fail
    refine (unhide HF).mono ?_
    rintro r w2 ⟨rfl, h2, hw2⟩
    rw [(unhide HFIN).2.2] at hw2
    have HEND := hide (show XAt w2 x base b (zHeadX b s) ∧ Wrt x w s.v w2 s.v from ⟨by rw [(unhide HFIN).1]; exact h2, (unhide HFIN).2.1.trans hw2⟩)
    clear h2 hw2 HF HFIN
    go_wp2_with fail
    go_end0
    exact ⟨rfl, unhide HEND⟩
   ·have q1 : (y : Int) / 32 % 2 = 0 := by omega
    have q2 : (256 * (c : Int) + (y : Int)) % 31 = 0 := by omega
    rw [hb, failIf_ok] at HFIN
    have HEND := hide (show XAt w5 x base b (zHeadX b s) ∧ Wrt x w s.v w5 s.v from ⟨by rw [(unhide HFIN).1]; exact unhide HH3, (unhide HFIN).2.1⟩)
    clear hb k1 h0 k2 HFIN
    go_wp2_with fail
    go_end0
    exact ⟨rfl, unhide HEND⟩
  ·have heb : ((s3.err : Int) == 0) = false := beq_eq_false_iff_ne.2 (by omega)
   rw [failIf_err h0] at HFIN
   have HEND := hide (show XAt w5 x base b (zHeadX b s) ∧ Wrt x w s.v w5 s.v from ⟨by rw [(unhide HFIN).1]; exact unhide HH3, (unhide HFIN).2.1⟩)
   clear hbc h0 HFIN
   go_wp2_with fail
   go_end0
   exact ⟨rfl, unhide HEND⟩
 ·have heb : ((s1.err : Int) == 0) = true := beq_iff_eq.2 (by omega)
  have h16 : (c : Int) % 16 = 8 := by omega
  have h7 : 7 < (c : Int) / 16 := by omega
  have HF := hide (fail_any x base 4 b s1 w1 (unhide H1))
  have H0 := hide h0
  have HFF := hide hf
  clear h0 hf ha hb
  go_wp2_with fail
  refine (unhide HF).mono ?_
  rintro r w2 ⟨rfl, h2, hw2⟩
  rw [if_pos (unhide H0)] at h2
  rw [unhide HV1] at hw2
  have HC := hide (unhide HSECOND _ w2 h2 (unhide HV1) (unhide HFF).symm ((unhide HW1).trans hw2))
  clear HSECOND h2 hw2 HF
  go_wp2_with fail
  refine (unhide HC).mono ?_
  clear HC
  rintro r w5 ⟨y, s3, bad, rfl, hy, hbad, h3, hz, hv3, hw3⟩
  have HFIN := hide (And.intro hz (And.intro hw3 hv3))
  obtain ⟨_, _, e3, _⟩ := h3.cell
  have HH3 := hide h3
  have hbc := zBad2 c y bad hbad
  clear h3 hz hv3 hw3 hbad heb
  by_cases h0 : s3.err = 0
  ·have heb : ((s3.err : Int) == 0) = true := beq_iff_eq.2 (by omega)
   rcases hbc with ⟨hb, k1⟩ | ⟨hb, k1, k2⟩ | ⟨hb, k1, k2⟩
   ·have q1 : (y : Int) / 32 % 2 = 1 := by omega
    rw [hb, failIf_bad h0] at HFIN
    have HF := hide (fail_any x base 4 b s3 w5 (unhide HH3))
    rw [if_pos h0] at HF
    clear hb k1 h0
    go_wp2_with fail
    refine (unhide HF).mono ?_
    rintro r w2 ⟨rfl, h2, hw2⟩
    rw [(unhide HFIN).2.2] at hw2
    have HEND := hide (show XAt w2 x base b (zHeadX b s) ∧ Wrt x w s.v w2 s.v from ⟨by rw [(unhide HFIN).1]; exact h2, (unhide HFIN).2.1.trans hw2⟩)
    clear h2 hw2 HF HFIN
    go_wp2_with fail
    go_end0
    exact ⟨rfl, unhide HEND⟩
   ·have q1 : (y : Int) / 32 % 2 = 0 := by omega
    have q2 : ((256 * (c : Int) + (y : Int)) % 31 != 0) = true := bne_iff_ne.2 (by omega)
    rw [hb, failIf_bad h0] at HFIN
    have HF := hide (fail_any x base 4 b s3 w5 (unhide HH3))
    rw [if_pos h0] at HF
    clear hb k1 h0 k2
    go_wp2_with fail
    refine (unhide HF).mono ?_
    rintro r w2 ⟨rfl, h2, hw2⟩
    rw [(unhide HFIN).2.2] at hw2
    have HEND := hide (show XAt w2 x base b (zHeadX b s) ∧ Wrt x w s.v w2 s.v from ⟨by rw [(unhide HFIN).1]; exact h2, (unhide HFIN).2.1.trans hw2⟩)
    clear h2 hw2 HF HFIN
    go_wp2_with fail
    go_end0
    exact ⟨rfl, unhide HEND⟩
   ·have q1 : (y : Int) / 32 % 2 = 0 := by omega
    have q2 : (256 * (c : Int) + (y : Int)) % 31 = 0 := by omega
    rw [hb, failIf_ok] at HFIN
    have HEND := hide (show XAt w5 x base b (zHeadX b s) ∧ Wrt x w s.v w5 s.v from ⟨by rw [(unhide HFIN).1]; exact unhide HH3, (unhide HFIN).2.1⟩)
    clear hb k1 h0 k2 HFIN
    go_wp2_with fail
    go_end0
    exact ⟨rfl, unhide HEND⟩
  ·have heb : ((s3.err : Int) == 0) = false := beq_eq_false_iff_ne.2 (by omega)
   rw [failIf_err h0] at HFIN
   have HEND := hide (show XAt w5 x base b (zHeadX b s) ∧ Wrt x w s.v w5 s.v from ⟨by rw [(unhide HFIN).1]; exact unhide HH3, (unhide HFIN).2.1⟩)
   clear hbc h0 HFIN
   go_wp2_with fail
   go_end0
   exact ⟨rfl, unhide HEND⟩
 ·have heb : ((s1.err : Int) == 0) = true := beq_iff_eq.2 (by omega)
  have h16 : (c : Int) % 16 = 8 := by omega
  have h7 : ¬ 7 < (c : Int) / 16 := by omega
  have HC := hide (unhide HSECOND s1 w1 (unhide H1) (unhide HV1) hf.symm (unhide HW1))
  clear h0 hf HSECOND ha hb
  go_wp2_with fail
  refine (unhide HC).mono ?_
  clear HC
  rintro r w5 ⟨y, s3, bad, rfl, hy, hbad, h3, hz, hv3, hw3⟩
  have HFIN := hide (And.intro hz (And.intro hw3 hv3))
  obtain ⟨_, _, e3, _⟩ := h3.cell
  have HH3 := hide h3
  have hbc := zBad2 c y bad hbad
  clear h3 hz hv3 hw3 hbad heb
  by_cases h0 : s3.err = 0
  ·have heb : ((s3.err : Int) == 0) = true := beq_iff_eq.2 (by omega)
   rcases hbc with ⟨hb, k1⟩ | ⟨hb, k1, k2⟩ | ⟨hb, k1, k2⟩
   ·have q1 : (y : Int) / 32 % 2 = 1 := by omega
    rw [hb, failIf_bad h0] at HFIN
    have HF := hide (fail_any x base 4 b s3 w5 (unhide HH3))
    rw [if_pos h0] at HF
    clear hb k1 h0
    go_wp2_with fail
    refine (unhide HF).mono ?_
    rintro r w2 ⟨rfl, h2, hw2⟩
    rw [(unhide HFIN).2.2] at hw2
    have HEND := hide (show XAt w2 x base b (zHeadX b s) ∧ Wrt x w s.v w2 s.v from ⟨by rw [(unhide HFIN).1]; exact h2, (unhide HFIN).2.1.trans hw2⟩)
    clear h2 hw2 HF HFIN
    go_wp2_with fail
    go_end0
    exact ⟨rfl, unhide HEND⟩
   ·have q1 : (y : Int) / 32 % 2 = 0 := by omega
    have q2 : ((256 * (c : Int) + (y : Int)) % 31 != 0) = true := bne_iff_ne.2 (by omega)
    rw [hb, failIf_bad h0] at HFIN
    have HF := hide (fail_any x base 4 b s3 w5 (unhide HH3))
    rw [if_pos h0] at HF
    clear hb k1 h0 k2
    go_wp2_with fail
    refine (unhide HF).mono ?_
    rintro r w2 ⟨rfl, h2, hw2⟩
    rw [(unhide HFIN).2.2] at hw2
    have HEND := hide (show XAt w2 x base b (zHeadX b s) ∧ Wrt x w s.v w2 s.v from ⟨by rw [(unhide HFIN).1]; exact h2, (unhide HFIN).2.1.trans hw2⟩)
    clear h2 hw2 HF HFIN
    go_wp2_with fail
    go_end0
    exact ⟨rfl, unhide HEND⟩
   ·have q1 : (y : Int) / 32 % 2 = 0 := by omega
    have q2 : (256 * (c : Int) + (y : Int)) % 31 = 0 := by omega
    rw [hb, failIf_ok] at HFIN
    have HEND := hide (show XAt w5 x base b (zHeadX b s) ∧ Wrt x w s.v w5 s.v from ⟨by rw [(unhide HFIN).1]; exact unhide HH3, (unhide HFIN).2.1⟩)
    clear hb k1 h0 k2 HFIN
    go_wp2_with fail
    go_end0
    exact ⟨rfl, unhide HEND⟩
  ·have heb : ((s3.err : Int) == 0) = false := beq_eq_false_iff_ne.2 (by omega)
   rw [failIf_err h0] at HFIN
   have HEND := hide (show XAt w5 x base b (zHeadX b s) ∧ Wrt x w s.v w5 s.v from ⟨by rw [(unhide HFIN).1]; exact unhide HH3, (unhide HFIN).2.1⟩)
   clear hbc h0 HFIN
   go_wp2_with fail
   go_end0
   exact ⟨rfl, unhide HEND⟩
end Go.Proofs.YtbpahojchgpdnaaGreatDoor
namespace Go.Proofs.YtbpahojchgpdnaaGreatDoor
open Go.RowKit Go.Bel
theorem bytesOf_str (out : List Nat) (h : AllB out) : bytesOf (strOf out) = out := by
 unfold bytesOf strOf
 rw [strOfNums_data, List.map_map, List.map_map]
 conv => rhs; rw [← List.map_id out]
 refine List.map_congr_left fun x hx => ?_
 have := h x hx
 simp
 omega
theorem str_size (out : List Nat) : (strOf out).size = out.length := by
 unfold strOf
 rw [strOfNums_size, List.length_map]
def bigX (b : ByteArray) (s : XS) : Nat → Nat × XS
 | 0 => (0, s)
 | n + 1 => ((bigX b s n).1 * 256 + (numX b (bigX b s n).2 8).1, (numX b (bigX b s n).2 8).2)
theorem bigX_succ (b : ByteArray) (s : XS) (n : Nat) : bigX b s (n + 1) = ((bigX b s n).1 * 256 + (numX b (bigX b s n).2 8).1, (numX b (bigX b s n).2 8).2) := by rw [bigX]
theorem bigX_fst (b : ByteArray) (s : XS) (n : Nat) : (bigX b s (n + 1)).1 = (bigX b s n).1 * 256 + (numX b (bigX b s n).2 8).1 := by rw [bigX_succ]
theorem bigX_snd (b : ByteArray) (s : XS) (n : Nat) : (bigX b s (n + 1)).2 = (numX b (bigX b s n).2 8).2 := by rw [bigX_succ]
theorem bigX_v (b : ByteArray) (s : XS) (n : Nat) : (bigX b s n).2.v = s.v ∧ (bigX b s n).2.out = s.out ∧ (bigX b s n).2.most = s.most ∧ (bigX b s n).2.name = s.name := by
 induction n with
 | zero => exact ⟨rfl, rfl, rfl, rfl⟩
 | succ n ih =>
  obtain ⟨h1, h2, h3, h4⟩ := numX_v b (bigX b s n).2 8
  rw [bigX_snd]
  exact ⟨h1.trans ih.1, h2.trans ih.2.1, h3.trans ih.2.2.1, h4.trans ih.2.2.2⟩
theorem bigX_lt (b : ByteArray) (s : XS) (n : Nat) : (bigX b s n).1 < 256 ^ n := by
 induction n with
 | zero => exact Nat.one_pos
 | succ n ih =>
  have h : (numX b (bigX b s n).2 8).1 < 256 := numX_lt b _ 8
  rw [bigX_fst, Nat.pow_succ]
  omega
theorem bigX_err (b : ByteArray) (s : XS) (h : s.err ≠ 0) (n : Nat) : (bigX b s n).2 = s := by
 induction n with
 | zero => rfl
 | succ n ih => rw [bigX_snd, ih, numX_err b s h]
theorem bigX_ok (b : ByteArray) (s : XS) (h : s.err = 0) (n : Nat) (hn : s.at_ + 8 * n ≤ 8 * b.size) : bigX b s n = (bigAt (bytesOf b) s.at_ n, { s with at_ := s.at_ + 8 * n }) := by
 induction n with
 | zero => rfl
 | succ n ih =>
  have h2 := numX_ok b { s with at_ := s.at_ + 8 * n } h 8 (by show s.at_ + 8 * n + 8 ≤ _; omega)
  have e1 : bigAt (bytesOf b) s.at_ (n + 1) = 256 * bigAt (bytesOf b) s.at_ n + numAt (bytesOf b) (s.at_ + 8 * n) 8 := by rw [bigAt]
  rw [bigX_succ, ih (by omega), h2, e1, Nat.mul_comm 256, show s.at_ + 8 * (n + 1) = s.at_ + 8 * n + 8 by omega]
theorem bigX_miss (b : ByteArray) (s : XS) (h : s.err = 0) (ht : s.at_ ≤ 8 * b.size) (n : Nat) (hn : 8 * b.size < s.at_ + 8 * n) : (bigX b s n).2 = { s with at_ := 8 * b.size, err := 3 } := by
 induction n with
 | zero => omega
 | succ n ih =>
  rw [bigX_snd]
  by_cases h1 : s.at_ + 8 * n ≤ 8 * b.size
  ·have h2 := numX_miss b { s with at_ := s.at_ + 8 * n } h h1 8 (by show _ < s.at_ + 8 * n + 8; omega)
   rw [bigX_ok b s h n h1, h2]
  ·have h2 := numX_err b { s with at_ := 8 * b.size, err := 3 } (by show (3 : Nat) ≠ 0; decide) 8
   rw [ih (by omega), h2]
def zTailX (b : ByteArray) (s : XS) : XS := failIf (!decide ((bigX b s 4).1 = adWith 1 s.out)) 12 (bigX b s 4).2
theorem big_next (x base i : Nat) (b : ByteArray) (s : XS) (w wr : World) (hx : XAt wr x base b (bigX b s i).2) (hw : Wrt x w s.v wr s.v) (hlt : i < 4) : ∃ u c : Nat, u = (bigX b s i).1 ∧ u * 256 + c < 4294967296 ∧ c < 256 ∧ Calls Tryz.prog 140 #[.pointer (some ⟨x, 0, none⟩), .int .i64 8] wr fun r w1 => r = .returned (.int .i64 (c : Nat)) ∧ ∃ y : Nat, y = u * 256 + c ∧ y = (bigX b s (i + 1)).1 ∧ XAt w1 x base b (bigX b s (i + 1)).2 ∧ Wrt x w s.v w1 s.v := by
 have hv := (bigX_v b s i).1
 have hN := number_any x base 8 b (bigX b s i).2 wr hx (by omega)
 rw [hv] at hN
 have hbl1 := bigX_lt b s (i + 1)
 have hp4 : 256 ^ (i + 1) ≤ 256 ^ 4 := Nat.pow_le_pow_right (by omega) (by omega)
 rw [bigX_fst] at hbl1
 refine ⟨_, _, rfl, Nat.lt_of_lt_of_le hbl1 hp4, numX_lt b (bigX b s i).2 8, hN.mono ?_⟩
 rintro r w1 ⟨rfl, h1, hw1⟩
 exact ⟨rfl, _, rfl, (bigX_fst b s i).symm, by rw [bigX_snd]; exact h1, hw.trans hw1⟩
theorem big_end (x base : Nat) (b : ByteArray) (s : XS) (wr : World) (hx : XAt wr x base b (bigX b s 4).2) : ∃ (c : Nat) (s1 : XS), c = (bigX b s 4).1 ∧ c < 4294967296 ∧ XAt wr x base b s1 ∧ s1.v = s.v ∧ s1.out = s.out ∧ zTailX b s = failIf (!decide (c = adWith 1 s.out)) 12 s1 := by
 obtain ⟨h1, h2, _⟩ := bigX_v b s 4
 exact ⟨_, _, rfl, bigX_lt b s 4, hx, h1, h2, by rw [zTailX]⟩
theorem zlibTailX_any (x base : Nat) (b : ByteArray) (s : XS) (w : World) (h : XAt w x base b s) (hb : AllB s.out) (hl : s.out.length ≤ 1048576) :
  Calls Tryz.prog 113 #[.pointer (some ⟨x, 0, none⟩)] w fun r w' => r = .returned (.tuple #[]) ∧ XAt w' x base b (zTailX b s) ∧ Wrt x w s.v w' s.v := by
 have HH := hide h
 clear h
 go_enter Tryz.func113, Tryz.ntmps113
 go_wp2_with fail
 go_loopg [2, 3] 4 (fun k u2 u3 wr => ∃ i : Nat, u3 = .int .i64 (i : Nat) ∧ k + i = 4 ∧ u2 = .int .u32 ((bigX b s i).1 : Nat) ∧ XAt wr x base b (bigX b s i).2 ∧ Wrt x w s.v wr s.v)
 case atStart => exact ⟨0, rfl, rfl, rfl, unhide HH, Wrt.refl _ _ _⟩
 case round =>
  obtain ⟨i, rfl, hi, rfl, hx, hw⟩ := hrel
  by_cases hlt : i < 4
  ·obtain ⟨u, c, hu, hul, hc, hN⟩ := big_next x base i b s w wr hx hw hlt
   rw [← hu]
   have HN := hide hN
   clear hN hw hx hu
   go_wp2_with fail
   refine (unhide HN).mono ?_
   rintro r w1 ⟨rfl, y, hy, hy2, h1, hw1⟩
   have H1 := hide (And.intro hy (And.intro hy2 (And.intro h1 hw1)))
   clear h1 hw1 HN hy hy2
   go_wp2_with fail
   go_roundg (gk - 1)
   case measure => omega
   case rel =>
    refine ⟨i + 1, by simp, by omega, ?_, (unhide H1).2.2⟩
    rw [← (unhide H1).2.1, (unhide H1).1]
    simp
  ·obtain rfl : i = 4 := by omega
   obtain ⟨c, s1, hc, hbl, hx1, hv1, ho1, hzt⟩ := big_end x base b s wr hx
   rw [← hc]
   obtain ⟨_, _, e1, e3, _⟩ := hx1.cell
   have HX := hide (And.intro hx1 (And.intro hv1 (And.intro ho1 hzt)))
   have HW := hide hw
   by_cases h0 : s1.err = 0
   ·have heb : ((s1.err : Int) == 0) = true := beq_iff_eq.2 (by omega)
    have hob : bytesOf (strOf s.out) = s.out := bytesOf_str _ hb
    have HSUM := hide (fun W => sumX_any (strOf s.out) W (by rw [str_size]; omega))
    rw [hob] at HSUM
    obtain ⟨va, vc, hvs⟩ := hx1.vslice
    have hcv : ∀ W, Step (fun _ => False) wr W → (convert 31 9 (.slice va s1.out.length vc)).run Tryz.prog W = .ok (.string (strOf s.out)) W := fun W hW => by
     rw [← hvs, ← ho1]
     exact conv_row (hx1.step0 hW).own
    rw [hvs] at e3
    have hcv0 := hcv wr (Step.refl _ _)
    have hcv1 := hcv wr.drew ((Step.refl _ _).drew)
    have hal := adWith_lt 1 (by decide) s.out
    have H0 := hide h0
    generalize s1.out.length = no at *
    clear hx hw hc hx1 hv1 ho1 hzt hob hcv hvs h0
    go_wp2_with fail
    refine (unhide HSUM wr).mono ?_
    rintro r w2 ⟨rfl, rfl⟩
    have HA := hide (show ∀ a, a = adWith 1 s.out → zTailX b s = failIf (!decide (c = a)) 12 s1 from fun a ha => by rw [ha]; exact (unhide HX).2.2.2)
    obtain ⟨a, ha⟩ : ∃ a, a = adWith 1 s.out := ⟨_, rfl⟩
    have HAA := hide (unhide HA a ha)
    rw [← ha]
    clear HA ha hal HSUM
    by_cases hca : c = a
    ·have hb1 : ((c : Int) != (a : Int)) = false := by rw [bne_eq_false_iff_eq]; omega
     have HEND := hide (show XAt w2 x base b (zTailX b s) by rw [unhide HAA, decide_eq_true hca]; show XAt w2 x base b (failIf false 12 s1); rw [failIf_ok]; exact (unhide HX).1)
     clear hca HAA
     go_wp2_with fail
     go_end0
     exact ⟨rfl, unhide HEND, unhide HW⟩
    ·have hb1 : ((c : Int) != (a : Int)) = true := by rw [bne_iff_ne]; omega
     have HF := hide (fail_any x base 12 b s1 w2 (unhide HX).1)
     rw [if_pos (unhide H0)] at HF
     have HEE := hide (show zTailX b s = { s1 with err := 12 } by rw [unhide HAA, decide_eq_false hca]; exact failIf_bad (unhide H0))
     clear hca HAA
     go_wp2_with fail
     refine (unhide HF).mono ?_
     rintro r w3 ⟨rfl, h3, hw3⟩
     rw [(unhide HX).2.1] at hw3
     have HEND := hide (show XAt w3 x base b (zTailX b s) ∧ Wrt x w s.v w3 s.v from ⟨by rw [unhide HEE]; exact h3, (unhide HW).trans hw3⟩)
     clear h3 hw3 HF HEE
     go_wp2_with fail
     go_end0
     exact ⟨rfl, unhide HEND⟩
   ·have heb : ((s1.err : Int) == 0) = false := beq_eq_false_iff_ne.2 (by omega)
    have HE := hide h0
    clear hx hw hc hx1 hv1 ho1 hzt h0
    go_wp2_with fail
    go_end0
    exact ⟨rfl, by rw [(unhide HX).2.2.2, failIf_err (unhide HE)]; exact (unhide HX).1, unhide HW⟩
end Go.Proofs.YtbpahojchgpdnaaGreatDoor
namespace Go.Proofs.YtbpahojchgpdnaaGreatDoor
open Go.RowKit Go.Bel Go.Maps
theorem strOf_ba (l : List Nat) : strOf l = baOf l := by
 unfold strOf baOf strOfNums
 rw [List.map_map]
 rfl
theorem str_snoc (l m : List Nat) : strOf l ++ strOf m = strOf (l ++ m) := by
 rw [strOf_ba, strOf_ba, strOf_ba]
 apply ByteArray.ext
 simp [baOf]
def textEnd (b : ByteArray) (s : XS) (ok : Bool) (q : Nat) : XS := if ok = true then { s with at_ := q } else { s with at_ := 8 * b.size, err := 3 }
theorem text_num (x base p : Nat) (b : ByteArray) (s : XS) (l : List Nat) (ok : Bool) (q : Nat) (w wr : World) (h : XAt wr x base b { s with at_ := p }) (hw : Wrt x w s.v wr s.v) (h0 : s.err = 0) (ht : TextR (bytesOf b) p l ok q) :
  ∃ (c : Nat) (s' : XS), c < 256 ∧ Calls Tryz.prog 140 #[.pointer (some ⟨x, 0, none⟩), .int .i64 8] wr (fun r w1 => r = .returned (.int .i64 (c : Nat)) ∧ XAt w1 x base b s' ∧ Wrt x w s.v w1 s.v) ∧
   ((l = [] ∧ s' = textEnd b s ok q ∧ s'.err ≠ 0) ∨ (l = [] ∧ s' = textEnd b s ok q ∧ s'.err = 0 ∧ c = 0) ∨ (c ≠ 0 ∧ s' = { s with at_ := p + 8 } ∧ s'.err = 0 ∧ ∃ l3, l = c :: l3 ∧ TextR (bytesOf b) (p + 8) l3 ok q)) := by
 have hN := number_any x base 8 b { s with at_ := p } wr h (by omega)
 have hlt : (numX b { s with at_ := p } 8).1 < 256 := numX_lt b _ 8
 have hth : p ≤ 8 * b.size := h.there
 have hL := bytesOf_length b
 refine ⟨(numX b { s with at_ := p } 8).1, (numX b { s with at_ := p } 8).2, hlt, hN.mono (fun r w1 ⟨h1, h2, h3⟩ => ⟨h1, h2, hw.trans h3⟩), ?_⟩
 by_cases hp : p + 8 ≤ 8 * b.size
 ·have hok := numX_ok b { s with at_ := p } h0 8 hp
  rw [hok]
  rcases ht with ⟨_, h1⟩ | ⟨_, h1, h2⟩ | ⟨_, l3, _, _, h1, h2, h3⟩
  ·rw [hL] at h1; omega
  ·exact .inr (.inl ⟨rfl, by unfold textEnd; rw [if_pos rfl], h0, h2⟩)
  ·exact .inr (.inr ⟨h2, rfl, h0, l3, rfl, h3⟩)
 ·have hms := numX_miss b { s with at_ := p } h0 hth 8 (by show _ < p + 8; omega)
  rcases ht with ⟨_, h1⟩ | ⟨_, h1, h2⟩ | ⟨_, l3, _, _, h1, h2, h3⟩
  ·refine .inl ⟨rfl, ?_, by rw [hms]; simp⟩
   rw [hms]
   unfold textEnd
   rw [if_neg (by simp)]
  ·rw [hL] at h1; omega
  ·rw [hL] at h1; omega
theorem conv_one (c : Nat) (W : World) : (convert 31 9 (.slice (some ⟨W.heap.size, 0, none⟩) 1 1)).run Tryz.prog (W.alloc (.cells #[.int .u8 (c : Nat)] 5)) = .ok (.string (strOf [c])) (W.alloc (.cells #[.int .u8 (c : Nat)] 5)) :=
 run_convert_bytes_arg (W.alloc (.cells #[.int .u8 (c : Nat)] 5)) 31 5 Tryz.underlying31 Tryz.underlying5 W.heap.size 0 1 1 [(c : Int)] (by simp) (fun j hj => by
  obtain rfl : j = 0 := by omega
  exact cell_of_one (heap_alloc_new _ _)) 9 Tryz.underlying9
theorem textX_any (x base : Nat) (b : ByteArray) (s : XS) (l : List Nat) (ok : Bool) (q : Nat) (w : World) (h : XAt w x base b s) (h0 : s.err = 0) (ht : TextR (bytesOf b) s.at_ l ok q) :
  Calls Tryz.prog 148 #[.pointer (some ⟨x, 0, none⟩)] w fun r w' => r = .returned (.string (strOf l)) ∧ XAt w' x base b (textEnd b s ok q) ∧ Wrt x w s.v w' s.v := by
 have HH := hide h
 have HT := hide ht
 have H0 := hide h0
 clear h ht h0
 go_enter Tryz.func148, Tryz.ntmps148
 go_wp2_with fail
 go_loopg [3] (b.size + 1) (fun k u3 wr => ∃ (l1 l2 : List Nat) (p : Nat), l = l1 ++ l2 ∧ u3 = .string (strOf l1) ∧ TextR (bytesOf b) p l2 ok q ∧ XAt wr x base b { s with at_ := p } ∧ Wrt x w s.v wr s.v ∧ 8 * b.size + 8 ≤ p + 8 * k)
 case atStart => exact ⟨[], l, s.at_, rfl, rfl, unhide HT, unhide HH, Wrt.refl _ _ _, by omega⟩
 case round =>
  obtain ⟨l1, l2, p, hl, rfl, htx, hx, hw, hk⟩ := hrel
  have hth : p ≤ 8 * b.size := hx.there
  obtain ⟨c, s', hc, hN, hcase⟩ := text_num x base p b s l2 ok q w wr hx hw (unhide H0) htx
  obtain ⟨_, _, e2, _⟩ := hx.cell
  rw [show (XS.err { s with at_ := p }) = 0 from unhide H0] at e2
  have HN := hide hN
  have HL := hide hl
  clear hx hw htx hN hl
  go_wp2_with fail
  refine (unhide HN).mono ?_
  rintro r w1 ⟨rfl, h1, hw1⟩
  obtain ⟨_, _, e2', _⟩ := h1.cell
  rcases hcase with ⟨rfl, hs', he⟩ | ⟨rfl, hs', he, hc0⟩ | ⟨hc0, hs', he, l3, hl3, ht3⟩
  ·have heb : ((s'.err : Int) != 0) = true := bne_iff_ne.2 (by omega)
   have HFIN := hide (show XAt w1 x base b (textEnd b s ok q) ∧ Wrt x w s.v w1 s.v ∧ l = l1 from ⟨by rw [← hs']; exact h1, hw1, by rw [unhide HL, List.append_nil]⟩)
   clear h1 hw1 hs' he HN HL
   go_wp2_with fail
   go_ret
   exact ⟨by rw [(unhide HFIN).2.2]; rfl, (unhide HFIN).1, (unhide HFIN).2.1⟩
  ·have heb : ((s'.err : Int) != 0) = false := by rw [bne_eq_false_iff_eq]; omega
   have HFIN := hide (show XAt w1 x base b (textEnd b s ok q) ∧ Wrt x w s.v w1 s.v ∧ l = l1 from ⟨by rw [← hs']; exact h1, hw1, by rw [unhide HL, List.append_nil]⟩)
   clear h1 hw1 hs' he HN HL
   subst hc0
   go_wp2_with fail
   go_ret
   exact ⟨by rw [(unhide HFIN).2.2]; rfl, (unhide HFIN).1, (unhide HFIN).2.1⟩
  ·have heb : ((s'.err : Int) != 0) = false := by rw [bne_eq_false_iff_eq]; omega
   have hcb : ((c : Int) == 0) = false := beq_eq_false_iff_ne.2 (by omega)
   have hcv := conv_one c w1
   have hsz : ¬ 9223372036854775807 < (strOf l1).size + (strOf [c]).size := by
    rw [str_size, str_size]
    have h9 := (unhide HT).len
    have h8 := (unhide HH).much
    have h7 := bytesOf_length b
    have h6 : l.length = l1.length + l2.length := by rw [unhide HL, List.length_append]
    rcases h9 with h9 | h9
    ·simp; omega
    ·rw [h9] at h6; simp at h6; simp; omega
   have HFIN := hide (And.intro h1 (And.intro hw1 (And.intro hs' (And.intro hl3 ht3))))
   clear h1 hw1 hs' he HN hl3 ht3
   go_wp2_with fail
   go_roundg (gk - 1)
   case measure => omega
   case rel =>
    obtain ⟨f1, f2, f3, f4, f5⟩ := unhide HFIN
    have hal := (Step.refl (fun _ => False) w1).alloc (.cells #[.int .u8 (c : Nat)] 5)
    refine ⟨l1 ++ [c], l3, p + 8, by rw [unhide HL, f4, List.append_assoc]; rfl, by rw [← str_snoc], f5, ?_, f2.step0 hal, by omega⟩
    rw [← f3]
    exact f1.step0 hal
theorem latin_snoc (l : List Nat) (c : Nat) : latinB (l ++ [c]) = latinB l ++ latinC c := by simp [latinB]
theorem latin_len (l : List Nat) : (latinB l).length ≤ 2 * l.length := by
 induction l with
 | nil => simp [latinB]
 | cons c l ih =>
  have h1 : (latinC c).length ≤ 2 := by unfold latinC; split <;> simp
  have h2 : latinB (c :: l) = latinC c ++ latinB l := by simp [latinB]
  rw [h2, List.length_append, List.length_cons]
  omega
theorem ext_one (b : ByteArray) (i : Nat) (h : i < b.size) : b.extract i (i + 1) = strOf [b[i].toNat] := by
 rw [strOf_ba]
 apply ByteArray.ext
 have h2 : i < b.data.size := h
 simp only [ByteArray.data_extract, baOf, List.map_cons, List.map_nil, UInt8.ofNat_toNat]
 apply Array.ext
 ·simp; omega
 ·intro j h3 h4
  have hj : j = 0 := by simp at h4; exact h4
  subst hj
  simp
  rfl
theorem conv_two (c d : Nat) (W : World) : (convert 31 9 (.slice (some ⟨W.heap.size, 0, none⟩) 2 2)).run Tryz.prog (W.alloc (.cells #[.int .u8 (c : Nat), .int .u8 (d : Nat)] 5)) = .ok (.string (strOf [c, d])) (W.alloc (.cells #[.int .u8 (c : Nat), .int .u8 (d : Nat)] 5)) :=
 run_convert_bytes_arg (W.alloc (.cells #[.int .u8 (c : Nat), .int .u8 (d : Nat)] 5)) 31 5 Tryz.underlying31 Tryz.underlying5 W.heap.size 0 2 2 [(c : Int), (d : Int)] (by simp) (fun j hj => by
  have hb := heap_alloc_new W (.cells #[.int .u8 (c : Nat), .int .u8 (d : Nat)] 5)
  match j, hj with
  | 0, _ => exact blk_cell hb 0 _ rfl
  | 1, _ => exact blk_cell hb 1 _ rfl) 9 Tryz.underlying9
theorem latinX_any (b : ByteArray) (w : World) (hl : b.size ≤ 140737488351232) :
  Calls Tryz.prog 149 #[.string b] w fun r w' => r = .returned (.string (strOf (latinB (bytesOf b)))) ∧ Step (fun _ => False) w w' := by
 go_enter Tryz.func149, Tryz.ntmps149
 go_wp2_with fail
 go_loopg [3, 4] b.size (fun k u3 u4 wr => ∃ (i : Nat) (y : ByteArray), u4 = .int .i64 (i : Nat) ∧ k + i = b.size ∧ y = strOf (latinB ((bytesOf b).take i)) ∧ u3 = .string y ∧ Step (fun _ => False) w wr)
 case atStart => exact ⟨0, _, rfl, by omega, rfl, rfl, Step.refl _ _⟩
 case round =>
  obtain ⟨i, y, rfl, hk, hy, rfl, hw⟩ := hrel
  have HY := hide hy
  have HW := hide hw
  by_cases hend : i = b.size
  ·have hnl : ¬ ((i : Int) < (b.size : Int)) := by omega
   have HE := hide (show strOf (latinB (bytesOf b)) = y from by rw [hy, List.take_of_length_le (by rw [bytesOf_length]; omega)])
   clear hend hy hw
   go_wp2_with fail
   go_ret
   exact ⟨by rw [unhide HE]; rfl, unhide HW⟩
  ·have hnl : (i : Int) < (b.size : Int) := by omega
   have hi0 : (0 : Int) ≤ (i : Int) := by omega
   have hlt : i < b.size := by omega
   have hx : b[i].toNat < 256 := b[i].toNat_lt
   have hysz : y.size ≤ 2 * i := by
    rw [hy, str_size]
    refine Nat.le_trans (latin_len _) ?_
    rw [List.length_take]
    omega
   have HT := hide (show strOf (latinB ((bytesOf b).take (i + 1))) = y ++ strOf (latinC b[i].toNat) from by rw [bytesOf_take b i hlt, latin_snoc, ← str_snoc, hy])
   have hext := ext_one b i hlt
   clear hy hw
   by_cases h128 : b[i].toNat < 128
   ·have h128' : ((b[i].toNat : Nat) : Int) < 128 := by omega
    have hlc : latinC b[i].toNat = [b[i].toNat] := by unfold latinC; rw [if_pos h128]
    rw [hlc, ← hext] at HT
    have hes : (b.extract i (i + 1)).size = 1 := by rw [hext, str_size]; rfl
    have hsz : ¬ 9223372036854775807 < y.size + (b.extract i (i + 1)).size := by omega
    clear hlc hext hes
    go_wp2_with fail
    go_roundg (gk - 1)
    case measure => omega
    case rel => exact ⟨i + 1, _, by simp, by omega, (unhide HT).symm, rfl, unhide HW⟩
   ·have h128' : ¬ ((b[i].toNat : Nat) : Int) < 128 := by omega
    have hlc : latinC b[i].toNat = [192 + b[i].toNat / 64, 128 + b[i].toNat % 64] := by unfold latinC; rw [if_neg h128]
    rw [hlc] at HT
    have hcv := conv_two (192 + b[i].toNat / 64) (128 + b[i].toNat % 64) wr
    rw [show ((192 + b[i].toNat / 64 : Nat) : Int) = 192 + (b[i].toNat : Int) / 64 by omega, show ((128 + b[i].toNat % 64 : Nat) : Int) = 128 + (b[i].toNat : Int) % 64 by omega] at hcv
    have hes : (strOf [192 + b[i].toNat / 64, 128 + b[i].toNat % 64]).size = 2 := by rw [str_size]; rfl
    have hsz : ¬ 9223372036854775807 < y.size + (strOf [192 + b[i].toNat / 64, 128 + b[i].toNat % 64]).size := by omega
    clear hlc hext hes
    go_wp2_with fail
    go_roundg (gk - 1)
    case measure => omega
    case rel => exact ⟨i + 1, _, by simp, by omega, (unhide HT).symm, rfl, (unhide HW).alloc _⟩
end Go.Proofs.YtbpahojchgpdnaaGreatDoor
namespace Go.Proofs.YtbpahojchgpdnaaGreatDoor
open Go.RowKit Go.Bel Go.Maps
structure GA (b : ByteArray) (x base M : Nat) (wA w : World) (K : Nat → List Nat → Prop) (e : Nat) (out : List Nat) (used : Nat) (name : List Nat) (s : XS) : Prop where
 xat : XAt w x base b s
 vv : s.v = .slice none 0 0
 oo : s.out = []
 mm : s.most = M
 step : Step (· = x) wA w
 st : (s.err = 0 ∧ ∃ nm, s.name = baOf nm ∧ K s.at_ nm) ∨ (s.err ≠ 0 ∧ ∃ nm, s.name = baOf nm ∧ gzNo s.err nm e out used name)
variable {b : ByteArray} {x base M : Nat} {wA w : World} {K K' : Nat → List Nat → Prop} {e : Nat} {out : List Nat} {used : Nat} {name : List Nat} {s : XS}
theorem GA.weaken (h : GA b x base M wA w K e out used name s) (hK : s.err = 0 → ∀ p nm, p ≤ 8 * b.size → K p nm → K' p nm) : GA b x base M wA w K' e out used name s :=
 ⟨h.xat, h.vv, h.oo, h.mm, h.step, h.st.imp (fun ⟨h1, nm, h2, h3⟩ => ⟨h1, nm, h2, hK h1 _ _ h.xat.there h3⟩) id⟩
theorem GA.dead (h : GA b x base M wA w K e out used name s) (hs : s.err ≠ 0) : GA b x base M wA w K' e out used name s := h.weaken (fun y => absurd y hs)
theorem GA.live (h : GA b x base M wA w K e out used name s) (hs : s.err = 0) : ∃ nm, s.name = baOf nm ∧ K s.at_ nm := by
 rcases h.st with ⟨_, y⟩ | ⟨y, _⟩
 ·exact y
 ·exact absurd hs y
theorem GA.step0 {w' : World} (h : GA b x base M wA w K e out used name s) (hs : Step (fun _ => False) w w') : GA b x base M wA w' K e out used name s :=
 ⟨h.xat.step0 hs, h.vv, h.oo, h.mm, h.step.trans (hs.mono (fun _ y => y.elim)), h.st⟩
theorem wrt_nil {x : Nat} {w w' : World} {v : Value} (h : Wrt x w v w' v) (hv : v = .slice none 0 0) : Step (· = x) w w' := h.step.mono (fun k y => by
 rcases y with y | y
 ·exact y
 ·rw [hv] at y; cases y)
theorem GA.num (h : GA b x base M wA w K e out used name s) (nb : Nat) (hn : nb ≤ 60) (h3 : ∀ p nm, K p nm → p ≤ 8 * b.size → 8 * b.size < p + nb → gzNo 3 nm e out used name) :
  ∃ c : Nat, c < 2 ^ nb ∧ Calls Tryz.prog 140 #[.pointer (some ⟨x, 0, none⟩), .int .i64 (nb : Nat)] w (fun r w1 => r = .returned (.int .i64 (c : Nat)) ∧ ∃ s1, GA b x base M wA w1 (fun p nm => nb ≤ p ∧ c = numAt (bytesOf b) (p - nb) nb ∧ K (p - nb) nm) e out used name s1) := by
 obtain ⟨v1, v2, v3, v4⟩ := numX_v b s nb
 have hN := number_any x base nb b s w h.xat hn
 refine ⟨(numX b s nb).1, numX_lt b s nb, hN.mono ?_⟩
 rintro r w1 ⟨rfl, h1, h2⟩
 refine ⟨rfl, (numX b s nb).2, h1, v1.trans h.vv, v2.trans h.oo, v3.trans h.mm, h.step.trans (wrt_nil h2 h.vv), ?_⟩
 rw [v4]
 rcases h.st with ⟨k1, nm, k2, k3⟩ | ⟨k1, nm, k2, k3⟩
 ·by_cases hp : s.at_ + nb ≤ 8 * b.size
  ·have hok := numX_ok b s k1 nb hp
   rw [hok]
   refine .inl ⟨k1, nm, k2, ?_, ?_, ?_⟩
   ·show nb ≤ s.at_ + nb; omega
   ·show numAt (bytesOf b) s.at_ nb = numAt (bytesOf b) (s.at_ + nb - nb) nb
    rw [Nat.add_sub_cancel]
   ·show K (s.at_ + nb - nb) nm
    rw [Nat.add_sub_cancel]
    exact k3
  ·have hms := numX_miss b s k1 h.xat.there nb (by omega)
   rw [hms]
   exact .inr ⟨by show (3 : Nat) ≠ 0; decide, nm, k2, h3 _ nm k3 h.xat.there (by omega)⟩
 ·rw [numX_err b s k1 nb]
  exact .inr ⟨k1, nm, k2, k3⟩
theorem GA.fail (h : GA b x base M wA w K e out used name s) (h0 : s.err = 0) (e' : Nat) (he : e' ≠ 0) (hbad : ∀ p nm, p ≤ 8 * b.size → K p nm → gzNo e' nm e out used name) :
  Calls Tryz.prog 145 #[.pointer (some ⟨x, 0, none⟩), .int .i64 (e' : Nat)] w fun r w1 => r = .returned (.tuple #[]) ∧ ∃ s1, GA b x base M wA w1 K' e out used name s1 := by
 obtain ⟨nm, k2, k3⟩ := h.live h0
 refine (fail_any x base e' b s w h.xat).mono ?_
 rintro r w1 ⟨rfl, h1, h2⟩
 rw [if_pos h0] at h1
 exact ⟨rfl, _, h1, h.vv, h.oo, h.mm, h.step.trans (wrt_nil h2 h.vv), .inr ⟨he, nm, k2, hbad _ _ h.xat.there k3⟩⟩
theorem GA.pin (h : GA b x base M wA w K e out used name s) : GA b x base M wA w (fun p nm => p = s.at_ ∧ K p nm) e out used name s :=
 ⟨h.xat, h.vv, h.oo, h.mm, h.step, h.st.imp (fun ⟨h1, nm, h2, h3⟩ => ⟨h1, nm, h2, rfl, h3⟩) id⟩
theorem bytesOf_front (b : ByteArray) (k : Nat) : bytesOf (b.extract 0 k) = (bytesOf b).take k := by
 unfold bytesOf
 simp
theorem slice_front (b : ByteArray) (k : Nat) (h : k ≤ b.size) (W : World) : (Instr.slice 9 (.string b) none (some (.int .i64 (k : Int))) none).run Tryz.prog W = .ok (.string (b.extract 0 k)) W := by
 have hu := Tryz.underlying9
 have h1 : (0 : Int) ≤ (k : Int) := by omega
 have h2 : (k : Int) ≤ (b.size : Int) := by omega
 simp [Instr.slice, Instr.sliceBounds, Instr.sliceBound, asIntOf, run_underlying hu, h]
theorem textX_err (x base : Nat) (b : ByteArray) (s : XS) (w : World) (h : XAt w x base b s) (h0 : s.err ≠ 0) :
  Calls Tryz.prog 148 #[.pointer (some ⟨x, 0, none⟩)] w fun r w' => r = .returned (.string (strOf [])) ∧ w' = w := by
 obtain ⟨_, _, e2, _⟩ := h.cell
 have heb : ((s.err : Int) == 0) = false := beq_eq_false_iff_ne.2 (by omega)
 clear h h0
 go_enter Tryz.func148, Tryz.ntmps148
 go_wp2_with fail
 go_loopg [3] 1 (fun _ u3 wr => u3 = .string (strOf []) ∧ wr = w)
 case atStart => exact ⟨rfl, rfl⟩
 case round =>
  obtain ⟨rfl, rfl⟩ := hrel
  go_wp2_with fail
  go_ret
  exact ⟨rfl, rfl⟩
theorem GA.text (h : GA b x base M wA w K e out used name s) (h3 : ∀ p nm l q, K p nm → TextR (bytesOf b) p l false q → gzNo 3 nm e out used name) :
  ∃ l : List Nat, l.length ≤ b.size ∧ Calls Tryz.prog 148 #[.pointer (some ⟨x, 0, none⟩)] w (fun r w1 => r = .returned (.string (strOf l)) ∧ ∃ s1, GA b x base M wA w1 (fun p nm => ∃ p0, K p0 nm ∧ TextR (bytesOf b) p0 l true p) e out used name s1) := by
 by_cases h0 : s.err = 0
 ·obtain ⟨nm, k2, k3⟩ := h.live h0
  obtain ⟨l, ok, q, ht⟩ := textR_ex (bytesOf b) (8 * b.size) s.at_ (by rw [bytesOf_length]; omega)
  have hlen : l.length ≤ b.size := by
   rcases ht.len with y | y
   ·rw [bytesOf_length] at y; omega
   ·rw [y]; simp
  refine ⟨l, hlen, (textX_any x base b s l ok q w h.xat h0 ht).mono ?_⟩
  rintro r w1 ⟨rfl, h1, h2⟩
  refine ⟨rfl, textEnd b s ok q, ?_⟩
  unfold textEnd at h1 ⊢
  cases ok with
  | true =>
   rw [if_pos rfl] at h1 ⊢
   exact ⟨h1, h.vv, h.oo, h.mm, h.step.trans (wrt_nil h2 h.vv), .inl ⟨h0, nm, k2, s.at_, k3, ht⟩⟩
  | false =>
   rw [if_neg (by simp)] at h1 ⊢
   exact ⟨h1, h.vv, h.oo, h.mm, h.step.trans (wrt_nil h2 h.vv), .inr ⟨by show (3 : Nat) ≠ 0; decide, nm, k2, h3 _ nm l q k3 ht⟩⟩
 ·refine ⟨[], Nat.zero_le _, (textX_err x base b s w h.xat h0).mono ?_⟩
  rintro r w1 ⟨rfl, rfl⟩
  exact ⟨rfl, s, h.dead h0⟩
theorem GA.named (h : GA b x base M wA w K e out used name s) (h0 : s.err = 0) (l : List Nat) (hK : ∀ p nm, K p nm → K' p l) : GA b x base M wA (w.setCell ⟨x, 5, none⟩ (.string (strOf l))) K' e out used name { s with name := strOf l } := by
 obtain ⟨nm, k2, k3⟩ := h.live h0
 refine ⟨h.xat.set (s' := { s with name := strOf l }) 5 (.string (strOf l)) (by simp [XS.cells]) rfl rfl h.xat.there, h.vv, h.oo, h.mm, h.step.setCell (p := ⟨x, 5, none⟩) rfl _, .inl ⟨h0, l, strOf_ba l, hK _ _ k3⟩⟩
end Go.Proofs.YtbpahojchgpdnaaGreatDoor
namespace Go.Proofs.YtbpahojchgpdnaaGreatDoor
open Go.RowKit Go.Bel Go.Maps
def gTail1 (b : ByteArray) (s : XS) : XS := failIf (!decide ((numX b s 32).1 = crcWith 0 s.out)) 12 (numX b s 32).2
def gTailX (b : ByteArray) (s : XS) : XS := failIf (!decide ((numX b (gTail1 b s) 32).1 = s.out.length)) 12 (numX b (gTail1 b s) 32).2
theorem num_pack (x base n : Nat) (b : ByteArray) (s s0 : XS) (w wr : World) (h : XAt wr x base b s) (hn : n ≤ 60) (hv : s.v = s0.v) (ho : s.out = s0.out) (hw : Wrt x w s0.v wr s0.v) : ∃ (c : Nat) (s1 : XS), c = (numX b s n).1 ∧ s1 = (numX b s n).2 ∧ c < 2 ^ n ∧ s1.v = s0.v ∧ s1.out = s0.out ∧ Calls Tryz.prog 140 #[.pointer (some ⟨x, 0, none⟩), .int .i64 (n : Nat)] wr fun r w1 => r = .returned (.int .i64 (c : Nat)) ∧ XAt w1 x base b s1 ∧ Wrt x w s0.v w1 s0.v := by
 obtain ⟨v1, v2, _, _⟩ := numX_v b s n
 have hN := number_any x base n b s wr h hn
 rw [hv] at hN
 exact ⟨_, _, rfl, rfl, numX_lt b s n, v1.trans hv, v2.trans ho, hN.mono (fun r w1 ⟨h1, h2, h3⟩ => ⟨h1, h2, hw.trans h3⟩)⟩
theorem gzipTailX_any (x base : Nat) (b : ByteArray) (s : XS) (w : World) (h : XAt w x base b s) (hb : AllB s.out) (hl : s.out.length ≤ 1048576) :
  Calls Tryz.prog 115 #[.pointer (some ⟨x, 0, none⟩)] w fun r w' => r = .returned (.tuple #[]) ∧ XAt w' x base b (gTailX b s) ∧ Wrt x w s.v w' s.v := by
 obtain ⟨a, s1, ha, hs1, hal, hv1, ho1, hN⟩ := num_pack x base 32 b s s w w h (by omega) rfl rfl (Wrt.refl _ _ _)
 have hal : a < 4294967296 := hal
 have HZ1 := hide (show gTail1 b s = failIf (!decide (a = crcWith 0 s.out)) 12 s1 by rw [gTail1, ha, hs1])
 have HZX := hide (show gTailX b s = failIf (!decide ((numX b (gTail1 b s) 32).1 = s.out.length)) 12 (numX b (gTail1 b s) 32).2 by rw [gTailX])
 have HN := hide hN
 clear hN ha hs1 h
 have HSEC := hide (show ∀ (s2 : XS) (w2 : World), XAt w2 x base b s2 → s2.v = s.v → s2.out = s.out → s2 = gTail1 b s → Wrt x w s.v w2 s.v → ∃ (y : Nat) (s3 : XS), y < 4294967296 ∧ gTailX b s = failIf (!decide (y = s.out.length)) 12 s3 ∧ s3.v = s.v ∧ s3.out = s.out ∧ Calls Tryz.prog 140 #[.pointer (some ⟨x, 0, none⟩), .int .i64 32] w2 fun r w1 => r = .returned (.int .i64 (y : Nat)) ∧ XAt w1 x base b s3 ∧ Wrt x w s.v w1 s.v from fun s2 w2 h2 hv ho he hw => by
  obtain ⟨y, s3, hy, hs3, hyl, hv3, ho3, hN3⟩ := num_pack x base 32 b s2 s w w2 h2 (by omega) hv ho hw
  exact ⟨y, s3, hyl, by rw [unhide HZX, hy, hs3, he], hv3, ho3, hN3⟩)
 clear HZX
 go_enter Tryz.func115, Tryz.ntmps115
 go_wp2_with fail
 refine (unhide HN).mono ?_
 rintro r w1 ⟨rfl, h1, hw1⟩
 obtain ⟨_, _, e2, e3, _⟩ := h1.cell
 have H1 := hide (And.intro h1 hw1)
 have hob : bytesOf (strOf s.out) = s.out := bytesOf_str _ hb
 have HCK := hide (fun W => checkX_any (strOf s.out) W (by rw [str_size]; omega))
 rw [hob] at HCK
 obtain ⟨va, vc, hvs⟩ := h1.vslice
 have hcv : (convert 31 9 (.slice va s1.out.length vc)).run Tryz.prog w1 = .ok (.string (strOf s.out)) w1 := by
  rw [← hvs, ← ho1]
  exact conv_row h1.own
 rw [hvs] at e3
 have HV1 := hide (And.intro hv1 (And.intro ho1 hvs))
 obtain ⟨no, hno⟩ : ∃ no, no = s1.out.length := ⟨_, rfl⟩
 rw [← hno] at e3 hcv
 obtain ⟨u, hu⟩ : ∃ u, u = crcWith 0 s.out := ⟨_, rfl⟩
 have hul : u < 4294967296 := by rw [hu]; exact crcWith_lt _ _
 rw [← hu] at HCK HZ1
 clear h1 hw1 hob hv1 ho1 hvs HN hno hu
 have hcase : (¬ s1.err = 0 ∧ gTail1 b s = s1) ∨ (s1.err = 0 ∧ a = u ∧ gTail1 b s = s1) ∨ (s1.err = 0 ∧ ¬ a = u ∧ gTail1 b s = { s1 with err := 12 }) := by
  by_cases h0 : s1.err = 0
  ·by_cases h2 : a = u
   ·exact .inr (.inl ⟨h0, h2, by rw [unhide HZ1, decide_eq_true h2]; exact failIf_ok⟩)
   ·exact .inr (.inr ⟨h0, h2, by rw [unhide HZ1, decide_eq_false h2]; exact failIf_bad h0⟩)
  ·exact .inl ⟨h0, by rw [unhide HZ1]; exact failIf_err h0⟩
 clear HZ1
 rcases hcase with ⟨h0, hf⟩ | ⟨h0, hau, hf⟩ | ⟨h0, hau, hf⟩
 ·have heb : ((s1.err : Int) == 0) = false := beq_eq_false_iff_ne.2 (by omega)
  obtain ⟨y, s3, hyl, hz, hv3, ho3, hN3⟩ := unhide HSEC s1 w1 (unhide H1).1 (unhide HV1).1 (unhide HV1).2.1 hf.symm (unhide H1).2
  have HN3 := hide hN3
  have HZ := hide (And.intro hz (And.intro hv3 ho3))
  clear hN3 hz hv3 ho3 h0 hf HSEC
  go_wp2_with fail
  refine (unhide HN3).mono ?_
  rintro r w5 ⟨rfl, h5, hw5⟩
  obtain ⟨_, _, e5, e53, _⟩ := h5.cell
  obtain ⟨va5, vc5, hvs5⟩ := h5.vslice
  rw [hvs5] at e53
  obtain ⟨nn, hnn⟩ : ∃ nn, nn = s3.out.length := ⟨_, rfl⟩
  rw [← hnn] at e53
  have hnl : nn ≤ 1048576 := by rw [hnn, (unhide HZ).2.2]; exact hl
  have HH5 := hide (And.intro h5 hw5)
  have hz9 := (unhide HZ).1
  rw [← (unhide HZ).2.2, ← hnn] at hz9
  have HZ9 := hide hz9
  have HV3 := hide (unhide HZ).2.1
  clear h5 hw5 HN3 HZ hz9 hnn hvs5
  by_cases h0 : s3.err = 0
  ·have heb5 : ((s3.err : Int) == 0) = true := beq_iff_eq.2 (by omega)
   by_cases hyn : y = nn
   ·have hb5 : ((y : Int) != (nn : Int)) = false := by rw [bne_eq_false_iff_eq]; omega
    have HEND := hide (show XAt w5 x base b (gTailX b s) by rw [unhide HZ9, decide_eq_true hyn]; show XAt w5 x base b (failIf false 12 s3); rw [failIf_ok]; exact (unhide HH5).1)
    clear hyn h0 HZ9
    go_wp2_with fail
    go_end0
    exact ⟨rfl, unhide HEND, (unhide HH5).2⟩
   ·have hb5 : ((y : Int) != (nn : Int)) = true := by rw [bne_iff_ne]; omega
    have HF5 := hide (fail_any x base 12 b s3 w5 (unhide HH5).1)
    rw [if_pos h0] at HF5
    have HEE := hide (show gTailX b s = { s3 with err := 12 } by rw [unhide HZ9, decide_eq_false hyn]; exact failIf_bad h0)
    clear hyn h0 HZ9
    go_wp2_with fail
    refine (unhide HF5).mono ?_
    rintro r w6 ⟨rfl, h6, hw6⟩
    rw [unhide HV3] at hw6
    have HEND := hide (show XAt w6 x base b (gTailX b s) ∧ Wrt x w s.v w6 s.v from ⟨by rw [unhide HEE]; exact h6, (unhide HH5).2.trans hw6⟩)
    clear h6 hw6 HF5 HEE
    go_wp2_with fail
    go_end0
    exact ⟨rfl, unhide HEND⟩
  ·have heb5 : ((s3.err : Int) == 0) = false := beq_eq_false_iff_ne.2 (by omega)
   have HEND := hide (show XAt w5 x base b (gTailX b s) by rw [unhide HZ9, failIf_err h0]; exact (unhide HH5).1)
   clear h0 HZ9
   go_wp2_with fail
   go_end0
   exact ⟨rfl, unhide HEND, (unhide HH5).2⟩
 ·have heb : ((s1.err : Int) == 0) = true := beq_iff_eq.2 (by omega)
  have hnb : ((a : Int) != (u : Int)) = false := by rw [bne_eq_false_iff_eq]; omega
  obtain ⟨y, s3, hyl, hz, hv3, ho3, hN3⟩ := unhide HSEC s1 w1 (unhide H1).1 (unhide HV1).1 (unhide HV1).2.1 hf.symm (unhide H1).2
  have HN3 := hide hN3
  have HZ := hide (And.intro hz (And.intro hv3 ho3))
  clear hN3 hz hv3 ho3 h0 hf HSEC hau
  go_wp2_with fail
  refine (unhide HCK _).mono ?_
  rintro r w2 ⟨rfl, rfl⟩
  go_wp2_with fail
  refine (unhide HN3).mono ?_
  rintro r w5 ⟨rfl, h5, hw5⟩
  obtain ⟨_, _, e5, e53, _⟩ := h5.cell
  obtain ⟨va5, vc5, hvs5⟩ := h5.vslice
  rw [hvs5] at e53
  obtain ⟨nn, hnn⟩ : ∃ nn, nn = s3.out.length := ⟨_, rfl⟩
  rw [← hnn] at e53
  have hnl : nn ≤ 1048576 := by rw [hnn, (unhide HZ).2.2]; exact hl
  have HH5 := hide (And.intro h5 hw5)
  have hz9 := (unhide HZ).1
  rw [← (unhide HZ).2.2, ← hnn] at hz9
  have HZ9 := hide hz9
  have HV3 := hide (unhide HZ).2.1
  clear h5 hw5 HN3 HZ hz9 hnn hvs5
  by_cases h0 : s3.err = 0
  ·have heb5 : ((s3.err : Int) == 0) = true := beq_iff_eq.2 (by omega)
   by_cases hyn : y = nn
   ·have hb5 : ((y : Int) != (nn : Int)) = false := by rw [bne_eq_false_iff_eq]; omega
    have HEND := hide (show XAt w5 x base b (gTailX b s) by rw [unhide HZ9, decide_eq_true hyn]; show XAt w5 x base b (failIf false 12 s3); rw [failIf_ok]; exact (unhide HH5).1)
    clear hyn h0 HZ9
    go_wp2_with fail
    go_end0
    exact ⟨rfl, unhide HEND, (unhide HH5).2⟩
   ·have hb5 : ((y : Int) != (nn : Int)) = true := by rw [bne_iff_ne]; omega
    have HF5 := hide (fail_any x base 12 b s3 w5 (unhide HH5).1)
    rw [if_pos h0] at HF5
    have HEE := hide (show gTailX b s = { s3 with err := 12 } by rw [unhide HZ9, decide_eq_false hyn]; exact failIf_bad h0)
    clear hyn h0 HZ9
    go_wp2_with fail
    refine (unhide HF5).mono ?_
    rintro r w6 ⟨rfl, h6, hw6⟩
    rw [unhide HV3] at hw6
    have HEND := hide (show XAt w6 x base b (gTailX b s) ∧ Wrt x w s.v w6 s.v from ⟨by rw [unhide HEE]; exact h6, (unhide HH5).2.trans hw6⟩)
    clear h6 hw6 HF5 HEE
    go_wp2_with fail
    go_end0
    exact ⟨rfl, unhide HEND⟩
  ·have heb5 : ((s3.err : Int) == 0) = false := beq_eq_false_iff_ne.2 (by omega)
   have HEND := hide (show XAt w5 x base b (gTailX b s) by rw [unhide HZ9, failIf_err h0]; exact (unhide HH5).1)
   clear h0 HZ9
   go_wp2_with fail
   go_end0
   exact ⟨rfl, unhide HEND, (unhide HH5).2⟩
 ·have heb : ((s1.err : Int) == 0) = true := beq_iff_eq.2 (by omega)
  have hnb : ((a : Int) != (u : Int)) = true := by rw [bne_iff_ne]; omega
  have HF := hide (fail_any x base 12 b s1 w1 (unhide H1).1)
  rw [if_pos h0] at HF
  have HFF := hide hf
  clear h0 hf hau
  go_wp2_with fail
  refine (unhide HCK _).mono ?_
  rintro r w2 ⟨rfl, rfl⟩
  go_wp2_with fail
  refine (unhide HF).mono ?_
  rintro r w4 ⟨rfl, h4, hw4⟩
  rw [(unhide HV1).1] at hw4
  obtain ⟨y, s3, hyl, hz, hv3, ho3, hN3⟩ := unhide HSEC _ w4 h4 (unhide HV1).1 (unhide HV1).2.1 (unhide HFF).symm ((unhide H1).2.trans hw4)
  have HN3 := hide hN3
  have HZ := hide (And.intro hz (And.intro hv3 ho3))
  clear hN3 hz hv3 ho3 HSEC h4 hw4 HF
  go_wp2_with fail
  refine (unhide HN3).mono ?_
  rintro r w5 ⟨rfl, h5, hw5⟩
  obtain ⟨_, _, e5, e53, _⟩ := h5.cell
  obtain ⟨va5, vc5, hvs5⟩ := h5.vslice
  rw [hvs5] at e53
  obtain ⟨nn, hnn⟩ : ∃ nn, nn = s3.out.length := ⟨_, rfl⟩
  rw [← hnn] at e53
  have hnl : nn ≤ 1048576 := by rw [hnn, (unhide HZ).2.2]; exact hl
  have HH5 := hide (And.intro h5 hw5)
  have hz9 := (unhide HZ).1
  rw [← (unhide HZ).2.2, ← hnn] at hz9
  have HZ9 := hide hz9
  have HV3 := hide (unhide HZ).2.1
  clear h5 hw5 HN3 HZ hz9 hnn hvs5
  by_cases h0 : s3.err = 0
  ·have heb5 : ((s3.err : Int) == 0) = true := beq_iff_eq.2 (by omega)
   by_cases hyn : y = nn
   ·have hb5 : ((y : Int) != (nn : Int)) = false := by rw [bne_eq_false_iff_eq]; omega
    have HEND := hide (show XAt w5 x base b (gTailX b s) by rw [unhide HZ9, decide_eq_true hyn]; show XAt w5 x base b (failIf false 12 s3); rw [failIf_ok]; exact (unhide HH5).1)
    clear hyn h0 HZ9
    go_wp2_with fail
    go_end0
    exact ⟨rfl, unhide HEND, (unhide HH5).2⟩
   ·have hb5 : ((y : Int) != (nn : Int)) = true := by rw [bne_iff_ne]; omega
    have HF5 := hide (fail_any x base 12 b s3 w5 (unhide HH5).1)
    rw [if_pos h0] at HF5
    have HEE := hide (show gTailX b s = { s3 with err := 12 } by rw [unhide HZ9, decide_eq_false hyn]; exact failIf_bad h0)
    clear hyn h0 HZ9
    go_wp2_with fail
    refine (unhide HF5).mono ?_
    rintro r w6 ⟨rfl, h6, hw6⟩
    rw [unhide HV3] at hw6
    have HEND := hide (show XAt w6 x base b (gTailX b s) ∧ Wrt x w s.v w6 s.v from ⟨by rw [unhide HEE]; exact h6, (unhide HH5).2.trans hw6⟩)
    clear h6 hw6 HF5 HEE
    go_wp2_with fail
    go_end0
    exact ⟨rfl, unhide HEND⟩
  ·have heb5 : ((s3.err : Int) == 0) = false := beq_eq_false_iff_ne.2 (by omega)
   have HEND := hide (show XAt w5 x base b (gTailX b s) by rw [unhide HZ9, failIf_err h0]; exact (unhide HH5).1)
   clear h0 HZ9
   go_wp2_with fail
   go_end0
   exact ⟨rfl, unhide HEND, (unhide HH5).2⟩
end Go.Proofs.YtbpahojchgpdnaaGreatDoor
namespace Go.Proofs.YtbpahojchgpdnaaGreatDoor
open Go.RowKit Go.Bel Go.Maps
def mkAt : Nat → Nat
 | 0 => 31
 | 1 => 139
 | _ => 8
def gzM (B : List Nat) (most : Nat) : Nat → Nat → List Nat → Nat → List Nat → Prop
 | 0 => gzAll B most
 | 1 => gz1 B most
 | 2 => gz2 B most
 | _ => gzFlags B most 24
theorem gzM_step (B : List Nat) (most i : Nat) (h : i < 3) : gzM B most i = gzMark B (mkAt i) (8 * i) (gzM B most (i + 1)) := by
 match i, h with
 | 0, _ => rfl
 | 1, _ => rfl
 | 2, _ => rfl
variable {b : ByteArray} {x base M : Nat} {wA w : World} {K K' : Nat → List Nat → Prop} {e : Nat} {out : List Nat} {used : Nat} {name : List Nat} {s : XS}
def GkXM (b : ByteArray) (most i : Nat) (e : Nat) (out : List Nat) (used : Nat) (name : List Nat) (p : Nat) (nm : List Nat) : Prop := p = 8 * i ∧ nm = [] ∧ gzM (bytesOf b) most i e out used name
theorem km_miss {i : Nat} (hi : i < 3) (p : Nat) (nm : List Nat) (h : GkXM b M i e out used name p nm) (h8 : 8 * b.size < p + 8) : gzNo 3 nm e out used name := by
 obtain ⟨rfl, rfl, h⟩ := h
 rw [gzM_step _ _ _ hi] at h
 unfold gzMark at h
 rw [bytesOf_length, if_neg (by omega)] at h
 exact h
theorem km_bad {i c : Nat} (hi : i < 3) (hc : c ≠ mkAt i) (p : Nat) (nm : List Nat) (hp : p ≤ 8 * b.size) (h : 8 ≤ p ∧ c = numAt (bytesOf b) (p - 8) 8 ∧ GkXM b M i e out used name (p - 8) nm) : gzNo 4 nm e out used name := by
 obtain ⟨h1, h2, h3, rfl, h⟩ := h
 rw [gzM_step _ _ _ hi] at h
 unfold gzMark at h
 rw [bytesOf_length, if_pos (by omega), ← h3, ← h2, if_neg hc] at h
 exact h
theorem km_good {i c : Nat} (hi : i < 3) (hc : c = mkAt i) (p : Nat) (nm : List Nat) (hp : p ≤ 8 * b.size) (h : 8 ≤ p ∧ c = numAt (bytesOf b) (p - 8) 8 ∧ GkXM b M i e out used name (p - 8) nm) : GkXM b M (i + 1) e out used name p nm := by
 obtain ⟨h1, h2, h3, rfl, h⟩ := h
 rw [gzM_step _ _ _ hi] at h
 unfold gzMark at h
 rw [bytesOf_length, if_pos (by omega), ← h3, ← h2, if_pos hc] at h
 exact ⟨by omega, rfl, h⟩
def GkXF (b : ByteArray) (most c : Nat) (e : Nat) (out : List Nat) (used : Nat) (name : List Nat) (p : Nat) (nm : List Nat) : Prop := nm = [] ∧ gzSkip (bytesOf b) most c p 6 e out used name
theorem kf_miss (p : Nat) (nm : List Nat) (h : GkXM b M 3 e out used name p nm) (h8 : 8 * b.size < p + 8) : gzNo 3 nm e out used name := by
 obtain ⟨rfl, rfl, h⟩ := h
 have h : gzFlags (bytesOf b) M 24 e out used name := h
 unfold gzFlags at h
 rw [bytesOf_length, if_neg (by omega)] at h
 exact h
theorem kf_bad {c : Nat} (hc : ¬ c < 32) (p : Nat) (nm : List Nat) (hp : p ≤ 8 * b.size) (h : 8 ≤ p ∧ c = numAt (bytesOf b) (p - 8) 8 ∧ GkXM b M 3 e out used name (p - 8) nm) : gzNo 4 nm e out used name := by
 obtain ⟨h1, h2, h3, rfl, h⟩ := h
 have h : gzFlags (bytesOf b) M 24 e out used name := h
 rw [h3] at h2
 unfold gzFlags at h
 rw [bytesOf_length, if_pos (by omega), ← h2, if_neg hc] at h
 exact h
theorem kf_good {c : Nat} (hc : c < 32) (p : Nat) (nm : List Nat) (hp : p ≤ 8 * b.size) (h : 8 ≤ p ∧ c = numAt (bytesOf b) (p - 8) 8 ∧ GkXM b M 3 e out used name (p - 8) nm) : GkXF b M c e out used name p nm := by
 obtain ⟨h1, h2, h3, rfl, h⟩ := h
 have h : gzFlags (bytesOf b) M 24 e out used name := h
 rw [h3] at h2
 unfold gzFlags at h
 rw [bytesOf_length, if_pos (by omega), ← h2, if_pos hc] at h
 have hp' : p = 24 + 8 := by omega
 exact ⟨rfl, by rw [hp']; exact h⟩
def GkXE (b : ByteArray) (most c : Nat) (e : Nat) (out : List Nat) (used : Nat) (name : List Nat) (p : Nat) (nm : List Nat) : Prop := nm = [] ∧ gzExtra (bytesOf b) most c p e out used name
theorem ke_miss {c : Nat} (p : Nat) (nm : List Nat) (h : GkXF b M c e out used name p nm) (h8 : 8 * b.size < p + 48) : gzNo 3 nm e out used name := by
 obtain ⟨rfl, h⟩ := h
 unfold gzSkip at h
 rw [bytesOf_length, if_neg (by omega)] at h
 exact h
theorem ke_good {c c2 : Nat} (p : Nat) (nm : List Nat) (hp : p ≤ 8 * b.size) (h : 48 ≤ p ∧ c2 = numAt (bytesOf b) (p - 48) 48 ∧ GkXF b M c e out used name (p - 48) nm) : GkXE b M c e out used name p nm := by
 obtain ⟨h1, h2, rfl, h⟩ := h
 unfold gzSkip at h
 rw [bytesOf_length, if_pos (by omega), show p - 48 + 8 * 6 = p by omega] at h
 exact ⟨rfl, h⟩
def GkXP (b : ByteArray) (most c m : Nat) (e : Nat) (out : List Nat) (used : Nat) (name : List Nat) (p : Nat) (nm : List Nat) : Prop := nm = [] ∧ if p + 8 * m ≤ 8 * b.size then gzName (bytesOf b) most c (p + 8 * m) [] e out used name else gzNo 3 [] e out used name
def GkXN (b : ByteArray) (most c : Nat) (e : Nat) (out : List Nat) (used : Nat) (name : List Nat) (p : Nat) (nm : List Nat) : Prop := nm = [] ∧ gzName (bytesOf b) most c p [] e out used name
theorem kp_miss16 {c : Nat} (hc : c / 4 % 2 = 1) (p : Nat) (nm : List Nat) (h : GkXE b M c e out used name p nm) (h8 : 8 * b.size < p + 16) : gzNo 3 nm e out used name := by
 obtain ⟨rfl, h⟩ := h
 unfold gzExtra at h
 rw [bytesOf_length, if_pos hc, if_neg (by omega)] at h
 exact h
theorem kp_good16 {c n : Nat} (hc : c / 4 % 2 = 1) (p : Nat) (nm : List Nat) (hp : p ≤ 8 * b.size) (h : 16 ≤ p ∧ n = numAt (bytesOf b) (p - 16) 16 ∧ GkXE b M c e out used name (p - 16) nm) : GkXP b M c n e out used name p nm := by
 obtain ⟨h1, h2, rfl, h⟩ := h
 unfold gzExtra at h
 rw [bytesOf_length, if_pos hc, if_pos (by omega), ← h2, show p - 16 + 16 = p by omega] at h
 unfold gzPass at h
 rw [bytesOf_length, if_pos hc] at h
 exact ⟨rfl, h⟩
theorem kp_miss {c m : Nat} (hm : 0 < m) (p : Nat) (nm : List Nat) (h : GkXP b M c m e out used name p nm) (h8 : 8 * b.size < p + 8) : gzNo 3 nm e out used name := by
 obtain ⟨rfl, h⟩ := h
 rw [if_neg (by omega)] at h
 exact h
theorem kp_good {c m c2 : Nat} (hm : 0 < m) (p : Nat) (nm : List Nat) (h : 8 ≤ p ∧ c2 = numAt (bytesOf b) (p - 8) 8 ∧ GkXP b M c m e out used name (p - 8) nm) : GkXP b M c (m - 1) e out used name p nm := by
 obtain ⟨h1, h2, rfl, h⟩ := h
 rw [show p - 8 + 8 * m = p + 8 * (m - 1) by omega] at h
 exact ⟨rfl, h⟩
theorem kp_end {c : Nat} (p : Nat) (nm : List Nat) (hp : p ≤ 8 * b.size) (h : GkXP b M c 0 e out used name p nm) : GkXN b M c e out used name p nm := by
 obtain ⟨rfl, h⟩ := h
 rw [if_pos (by omega)] at h
 exact ⟨rfl, h⟩
theorem kn_of {c : Nat} (hc : ¬ c / 4 % 2 = 1) (p : Nat) (nm : List Nat) (h : GkXE b M c e out used name p nm) : GkXN b M c e out used name p nm := by
 obtain ⟨rfl, h⟩ := h
 unfold gzExtra at h
 rw [if_neg hc] at h
 exact ⟨rfl, h⟩
theorem textR_det {B : List Nat} {p : Nat} {l l' : List Nat} {ok ok' : Bool} {q q' : Nat} (h : TextR B p l ok q) (h' : TextR B p l' ok' q') : l = l' ∧ ok = ok' ∧ q = q' := by
 induction h generalizing l' ok' q' with
 | miss p h =>
  rcases h' with ⟨_, k⟩ | ⟨_, k, kz⟩ | ⟨_, l3, _, _, k, kz, kt⟩
  ·exact ⟨rfl, rfl, rfl⟩
  ·omega
  ·omega
 | zero p h hz =>
  rcases h' with ⟨_, k⟩ | ⟨_, k, kz⟩ | ⟨_, l3, _, _, k, kz, kt⟩
  ·omega
  ·exact ⟨rfl, rfl, rfl⟩
  ·exact absurd hz kz
 | more p l ok q h hz ht ih =>
  rcases h' with ⟨_, k⟩ | ⟨_, k, kz⟩ | ⟨_, l3, _, _, k, kz, kt⟩
  ·omega
  ·exact absurd kz hz
  ·obtain ⟨rfl, rfl, rfl⟩ := ih kt
   exact ⟨rfl, rfl, rfl⟩
def GkXR (b : ByteArray) (most c : Nat) (e : Nat) (out : List Nat) (used : Nat) (name : List Nat) (p : Nat) (nm : List Nat) : Prop := gzRemark (bytesOf b) most c p nm e out used name
theorem kr_miss {c : Nat} (hc : c / 8 % 2 = 1) (p : Nat) (nm l : List Nat) (q : Nat) (h : GkXN b M c e out used name p nm) (ht : TextR (bytesOf b) p l false q) : gzNo 3 nm e out used name := by
 obtain ⟨rfl, h⟩ := h
 unfold gzName at h
 rw [if_pos hc] at h
 obtain ⟨l', ok', q', ht', h⟩ := h
 obtain ⟨rfl, rfl, rfl⟩ := textR_det ht ht'
 rw [if_neg (by simp)] at h
 exact h
theorem kr_good {c : Nat} (hc : c / 8 % 2 = 1) (l : List Nat) (p : Nat) (nm : List Nat) (h : ∃ p0, GkXN b M c e out used name p0 nm ∧ TextR (bytesOf b) p0 l true p) : GkXR b M c e out used name p (latinB l) := by
 obtain ⟨p0, ⟨rfl, h⟩, ht⟩ := h
 unfold gzName at h
 rw [if_pos hc] at h
 obtain ⟨l', ok', q', ht', h⟩ := h
 obtain ⟨rfl, rfl, rfl⟩ := textR_det ht ht'
 rw [if_pos rfl, List.nil_append] at h
 exact h
theorem kr_of {c : Nat} (hc : ¬ c / 8 % 2 = 1) (p : Nat) (nm : List Nat) (h : GkXN b M c e out used name p nm) : GkXR b M c e out used name p nm := by
 obtain ⟨rfl, h⟩ := h
 unfold gzName at h
 rw [if_neg hc] at h
 exact h
def GkXC (b : ByteArray) (most c : Nat) (e : Nat) (out : List Nat) (used : Nat) (name : List Nat) (p : Nat) (nm : List Nat) : Prop := gzCheck (bytesOf b) most c p nm e out used name
theorem kc_miss {c : Nat} (hc : c / 16 % 2 = 1) (p : Nat) (nm l : List Nat) (q : Nat) (h : GkXR b M c e out used name p nm) (ht : TextR (bytesOf b) p l false q) : gzNo 3 nm e out used name := by
 unfold GkXR gzRemark at h
 rw [if_pos hc] at h
 obtain ⟨l', ok', q', ht', h⟩ := h
 obtain ⟨rfl, rfl, rfl⟩ := textR_det ht ht'
 rw [if_neg (by simp)] at h
 exact h
theorem kc_good {c : Nat} (hc : c / 16 % 2 = 1) (l : List Nat) (p : Nat) (nm : List Nat) (h : ∃ p0, GkXR b M c e out used name p0 nm ∧ TextR (bytesOf b) p0 l true p) : GkXC b M c e out used name p nm := by
 obtain ⟨p0, h, ht⟩ := h
 unfold GkXR gzRemark at h
 rw [if_pos hc] at h
 obtain ⟨l', ok', q', ht', h⟩ := h
 obtain ⟨rfl, rfl, rfl⟩ := textR_det ht ht'
 rw [if_pos rfl] at h
 exact h
theorem kc_of {c : Nat} (hc : ¬ c / 16 % 2 = 1) (p : Nat) (nm : List Nat) (h : GkXR b M c e out used name p nm) : GkXC b M c e out used name p nm := by
 unfold GkXR gzRemark at h
 rw [if_neg hc] at h
 exact h
def GkXB (b : ByteArray) (most : Nat) (e : Nat) (out : List Nat) (used : Nat) (name : List Nat) (p : Nat) (nm : List Nat) : Prop := gzBody (bytesOf b) most p nm e out used name
theorem kb_miss {c : Nat} (hc : c / 2 % 2 = 1) (p : Nat) (nm : List Nat) (h : GkXC b M c e out used name p nm) (h8 : 8 * b.size < p + 16) : gzNo 3 nm e out used name := by
 unfold GkXC gzCheck at h
 rw [bytesOf_length, if_pos hc, if_neg (by omega)] at h
 exact h
theorem kb_bad {c n u p0 : Nat} (hc : c / 2 % 2 = 1) (hu : u = crcWith 0 ((bytesOf b).take (p0 / 8))) (hn : n ≠ u % 65536) (p : Nat) (nm : List Nat) (hp : p ≤ 8 * b.size) (h : 16 ≤ p ∧ n = numAt (bytesOf b) (p - 16) 16 ∧ p - 16 = p0 ∧ GkXC b M c e out used name (p - 16) nm) : gzNo 12 nm e out used name := by
 obtain ⟨h1, h2, h3, h⟩ := h
 unfold GkXC gzCheck at h
 rw [bytesOf_length, if_pos hc, if_pos (by omega), ← h2, h3, ← hu, if_neg hn] at h
 exact h
theorem kb_good {c n u p0 : Nat} (hc : c / 2 % 2 = 1) (hu : u = crcWith 0 ((bytesOf b).take (p0 / 8))) (hn : n = u % 65536) (p : Nat) (nm : List Nat) (hp : p ≤ 8 * b.size) (h : 16 ≤ p ∧ n = numAt (bytesOf b) (p - 16) 16 ∧ p - 16 = p0 ∧ GkXC b M c e out used name (p - 16) nm) : GkXB b M e out used name p nm := by
 obtain ⟨h1, h2, h3, h⟩ := h
 unfold GkXC gzCheck at h
 rw [bytesOf_length, if_pos hc, if_pos (by omega), ← h2, h3, ← hu, if_pos hn, show p0 + 16 = p by omega] at h
 exact h
theorem kb_of {c : Nat} (hc : ¬ c / 2 % 2 = 1) (p : Nat) (nm : List Nat) (h : GkXC b M c e out used name p nm) : GkXB b M e out used name p nm := by
 unfold GkXC gzCheck at h
 rw [if_neg hc] at h
 exact h
end Go.Proofs.YtbpahojchgpdnaaGreatDoor
