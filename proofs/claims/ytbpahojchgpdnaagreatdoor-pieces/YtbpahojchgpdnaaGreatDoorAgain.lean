/- Proved here: the bits that pieces are written in are read again, piece by piece; nothing of the program. -/
import Derived.Test.YtbpahojchgpdnaaGreatDoorFixed
import Derived.Test.YtbpahojchgpdnaaGreatDoorLinked
import Derived.Test.YtbpahojchgpdnaaGreatDoorGzipA
namespace Go.Proofs.YtbpahojchgpdnaaGreatDoor
open Go.RowKit Go.Bel Go.Maps
def Leads (B : List Nat) (s s' : GS) : Prop := ∃ n, ∀ m e out q, GRun B m s' e out q → GRun B (m + n) s e out q
theorem Leads.refl (B : List Nat) (s : GS) : Leads B s s := ⟨0, fun _ _ _ _ h => h⟩
theorem Leads.trans {B : List Nat} {a b c : GS} (h : Leads B a b) (k : Leads B b c) : Leads B a c := by
 obtain ⟨n, hn⟩ := h
 obtain ⟨m, hm⟩ := k
 exact ⟨m + n, fun i e out q hr => by rw [← Nat.add_assoc]; exact hn _ _ _ _ (hm _ _ _ _ hr)⟩
theorem Leads.one {B : List Nat} {s s1 : GS} (h3 : s.place ≠ 3) (h : gStep B s = .go s1) : Leads B s s1 := ⟨1, fun m e out q hr => .go m s s1 e out q h3 h hr⟩
theorem Leads.run {B : List Nat} {s s1 : GS} (h : Leads B s s1) {m e q : Nat} {out : List Nat} (hr : GRun B m s1 e out q) : ∃ n, GRun B n s e out q := by
 obtain ⟨n, hn⟩ := h
 exact ⟨_, hn _ _ _ _ hr⟩
theorem sym_read {L : List Nat} {bs : List Bool} {B : List Nat} {s p : Nat} (hB : BitsIn bs B) (hb : bs.length ≤ 8 * B.length) (hL : ∀ i : Nat, L[i]?.getD 0 ≤ 15) (hm : mayB L = true) (hc : HasCode L s) (h : BitsFrom bs p (codeB L s)) : rSym (dealAll L) B p = .ok s (p + (codeB L s).length) := by
 have hle := from_le h (fun e => by have := congrArg List.length e; rw [codeB_length] at this; have := hc.pos; simp at *; omega) hb
 rw [codeB_length] at hle ⊢
 have h1 := hc.lo
 have h2 := hc.hi
 rw [Nat.pow_succ] at h2
 exact rSym_of (code_at hB hL hc.lt rfl hc.pos (by omega : Go.Bel.keyOf L s = 2 ^ (L[s]?.getD 0) + (Go.Bel.keyOf L s - 2 ^ (L[s]?.getD 0))) (by omega) hm h hle)
theorem num_le {bs : List Bool} {B : List Nat} {p x m : Nat} (h : BitsFrom bs p (numBits x m)) (hb : bs.length ≤ 8 * B.length) (hp : p ≤ 8 * B.length) : p + m ≤ 8 * B.length := by
 by_cases h0 : m = 0
 ·omega
 ·have := from_le h (fun e => by have := congrArg List.length e; rw [numBits_length] at this; simp at this; omega) hb
  rw [numBits_length] at this
  exact this
theorem len_read {bs : List Bool} {B : List Nat} {n s x m q : Nat} (hB : BitsIn bs B) (hb : bs.length ≤ 8 * B.length) (hM : LenM n s x m) (h : BitsFrom bs q (numBits x m)) (hq : q ≤ 8 * B.length) : rLength B q s = .ok n (q + m) := by
 have hle := num_le h hb hq
 have hn := num_from hB q x m h
 unfold rLength
 rcases hM with ⟨h1, h2, h3, h4⟩ | ⟨h1, h2, h3, h4, h5⟩ | ⟨h1, h2, h3, h4, h5, h6⟩
 ·rw [if_neg (by omega), if_pos h2, h1, h4, Nat.add_zero]
 ·subst h5
  rw [if_neg (by omega), if_neg (by omega), if_pos h2, h3]
  rfl
 ·rw [if_neg (by omega), if_neg (by omega), if_neg (by omega), ← h3, if_pos hle, hn, Nat.mod_eq_of_lt h5, h4]
theorem dist_read {L : List Nat} {bs : List Bool} {B : List Nat} {d s x m q : Nat} (hB : BitsIn bs B) (hb : bs.length ≤ 8 * B.length) (hL : ∀ i : Nat, L[i]?.getD 0 ≤ 15) (hm : mayB L = true) (hc : HasCode L s) (hM : DistM d s x m) (h : BitsFrom bs q (codeB L s ++ numBits x m)) : rDist (dealAll L) B q = .ok d (q + (codeB L s).length + m) := by
 have hs := sym_read hB hb hL hm hc h.left
 have hq := (rSym_ok hs).2.1
 have hle := num_le h.right hb hq
 have hn := num_from hB _ x m h.right
 unfold rDist
 rw [hs]
 dsimp only
 rcases hM with ⟨h1, h2, h3, h4⟩ | ⟨h1, h2, h3, h4, h5, h6⟩
 ·subst h4
  rw [if_neg (by omega), if_pos h1, h2]
  rfl
 ·rw [if_neg (by omega), if_neg (by omega), ← h3, if_pos hle, hn, Nat.mod_eq_of_lt h5, h4]
theorem copied_next (ys : List Nat) (q d l : Nat) (h1 : 1 ≤ d) (hd : d ≤ q) (hl : q + l ≤ ys.length) (h : ∀ i, i < l → ys[q - d + i]?.getD 0 = ys[q + i]?.getD 0) : copied (ys.take q) d l = (ys.drop q).take l := by
 have hlen : (ys.take q).length = q := by rw [List.length_take]; omega
 have key : ∀ n i, i < n → i < l → (ys.take q)[q - d + i % d]?.getD 0 = ys[q + i]?.getD 0 := by
  intro n
  induction n with
  | zero => intro i hi; omega
  | succ n ih =>
   intro i hi hil
   by_cases hid : i < d
   ·rw [Nat.mod_eq_of_lt hid, List.getElem?_take_of_lt (by omega)]
    exact h i hil
   ·rw [Nat.mod_eq_sub_mod (by omega), ih (i - d) (by omega) (by omega), ← h i hil]
    congr 2
    omega
 apply List.ext_getElem?
 intro i
 unfold copied
 rw [hlen]
 by_cases hi : i < l
 ·rw [List.getElem?_map, List.getElem?_range hi, List.getElem?_take_of_lt hi, List.getElem?_drop]
  show some ((ys.take q)[q - d + i % d]?.getD 0) = _
  rw [key (i + 1) i (by omega) hi, List.getElem?_eq_getElem (by omega)]
  rfl
 ·rw [List.getElem?_eq_none (by simp; omega), List.getElem?_eq_none (by simp; omega)]
theorem take_next (ys : List Nat) (q l : Nat) : ys.take q ++ (ys.drop q).take l = ys.take (q + l) := by
 rw [List.take_add]
theorem put_next (ys : List Nat) (s : GS) (q l p : Nat) (ho : s.out = ys.take q) (hl : q + l ≤ ys.length) :
  gPut s ((ys.drop q).take l) p = if q + l ≤ s.most then .go { s with out := ys.take (q + l), p := p } else .no 11 (ys.take q ++ ((ys.drop q).take l).take (s.most - q)) := by
 have h1 : (ys.take q).length = q := by rw [List.length_take]; omega
 have h2 : ((ys.drop q).take l).length = l := by rw [List.length_take, List.length_drop]; omega
 unfold gPut
 rw [ho, h1, h2, take_next]
theorem piece_step {L1 L2 : List Nat} {ys : List Nat} {bs b : List Bool} {B : List Nat} {p : Pc} {q : Nat} {s : GS} (hB : BitsIn bs B) (hb : bs.length ≤ 8 * B.length) (hL1 : ∀ i : Nat, L1[i]?.getD 0 ≤ 15) (hL2 : ∀ i : Nat, L2[i]?.getD 0 ≤ 15) (hm1 : mayB L1 = true) (hm2 : p.l ≠ 0 → mayB L2 = true)
  (hn : Needs L1 L2 p) (hok : PcOk ys q p) (hq : q < ys.length) (hpb : PcBits L1 L2 p b) (hpl : s.place = 2) (hls : s.ls = L1) (hld : s.ld = L2) (ho : s.out = ys.take q) (hf : BitsFrom bs s.p b) :
  gStep B s = if q + max 1 p.l ≤ s.most then .go { s with out := ys.take (q + max 1 p.l), p := s.p + b.length } else .no 11 (ys.take q ++ ((ys.drop q).take (max 1 p.l)).take (s.most - q)) := by
 have hfit := hok.fits hq
 subst hls hld
 unfold gStep
 rw [if_neg (by omega), if_pos hpl]
 unfold gSym
 rcases hpb with ⟨h0, rfl⟩ | ⟨h0, s1, x1, m1, s2, x2, m2, hM1, hM2, rfl⟩
 ·rcases hn with ⟨_, hb256, hc⟩ | ⟨h3, _⟩
  ·rw [sym_read hB hb hL1 hm1 hc hf]
   dsimp only
   rw [if_pos hb256, h0]
   rcases hok with ⟨_, hpb⟩ | ⟨h3, _⟩
   ·have e : [p.b] = (ys.drop q).take (max 1 0) := by
     rw [hpb, show max 1 0 = 1 from rfl, List.drop_eq_getElem_cons hq, List.getElem?_eq_getElem hq]
     rfl
    rw [h0] at hfit
    rw [e, put_next ys s q (max 1 0) _ ho hfit]
   ·omega
  ·omega
 ·rcases hn with ⟨h3, _⟩ | ⟨h3, h258, hd1, hd2, hc1, hc2⟩
  ·omega
  ·have hcs := hc1 s1 x1 m1 hM1
   have f1 : BitsFrom bs s.p (codeB s.ls s1) := hf.left.left.left
   have f2 := hf.left.left.right
   have f3 : BitsFrom bs (s.p + (codeB s.ls s1).length + m1) (codeB s.ld s2 ++ numBits x2 m2) := by
    have e : codeB s.ls s1 ++ numBits x1 m1 ++ codeB s.ld s2 ++ numBits x2 m2 = (codeB s.ls s1 ++ numBits x1 m1) ++ (codeB s.ld s2 ++ numBits x2 m2) := by simp only [List.append_assoc]
    rw [e] at hf
    have := hf.right
    rw [List.length_append, numBits_length, ← Nat.add_assoc] at this
    exact this
   have hs := sym_read hB hb hL1 hm1 hcs f1
   have hbd := hM1.bd
   rw [hs]
   dsimp only
   rw [if_neg (by omega), if_neg (by omega)]
   unfold gCopy
   rw [len_read hB hb hM1 f2 (rSym_ok hs).2.1]
   dsimp only
   rw [dist_read hB hb hL2 (hm2 h0) (hc2 s2 x2 m2 hM2) hM2 f3]
   dsimp only
   rcases hok with ⟨h9, _⟩ | ⟨_, _, h4, h5, h6, h7, _, h8⟩
   ·omega
   ·have hlen : s.out.length = q := by rw [ho, List.length_take]; omega
    rw [if_neg (by omega), ho, copied_next ys q p.d p.l h5 h7 h4 h8, show max 1 p.l = p.l by omega, put_next ys s q p.l _ ho h4]
    simp only [List.length_append, numBits_length, Nat.add_assoc]
theorem no_next (ys : List Nat) (q l m : Nat) (h1 : q ≤ m) (h2 : m < q + l) : ys.take q ++ ((ys.drop q).take l).take (m - q) = ys.take m := by
 rw [List.take_take, Nat.min_eq_left (by omega), take_next, show q + (m - q) = m by omega]
theorem pieces_lead {L1 L2 : List Nat} {ys : List Nat} {bs : List Bool} {B : List Nat} (hB : BitsIn bs B) (hb : bs.length ≤ 8 * B.length) (hL1 : ∀ i : Nat, L1[i]?.getD 0 ≤ 15) (hL2 : ∀ i : Nat, L2[i]?.getD 0 ≤ 15) (hm1 : mayB L1 = true) :
  ∀ (ps : List Pc) (b : List Bool) (q r : Nat) (s : GS), (∀ p ∈ ps, Needs L1 L2 p ∧ (p.l ≠ 0 → mayB L2 = true)) → PcsFrom ys q ps r → PcsBits L1 L2 ps b → s.place = 2 → s.ls = L1 → s.ld = L2 → s.out = ys.take q → q ≤ s.most → BitsFrom bs s.p b →
   (r ≤ s.most → Leads B s { s with out := ys.take r, p := s.p + b.length }) ∧ (s.most < r → ∃ n, GRun B n s 11 (ys.take s.most) 0) := by
 intro ps
 induction ps with
 | nil =>
  intro b q r s _ h hpb hpl hls hld ho hqm hf
  have e1 : q = r := h
  have e2 : b = [] := hpb
  subst e1 e2
  refine ⟨fun _ => ?_, fun h9 => by omega⟩
  have : ({ s with out := ys.take q, p := s.p + ([] : List Bool).length } : GS) = s := by cases s; simp_all
  rw [this]
  exact Leads.refl _ _
 | cons p ps ih =>
  intro b q r s hn h hpb hpl hls hld ho hqm hf
  obtain ⟨b1, b2, rfl, hp1, hp2⟩ := hpb
  obtain ⟨hq, hok, hrest⟩ := h
  have hnp := hn p (by simp)
  have hst := piece_step (s := s) hB hb hL1 hL2 hm1 hnp.2 hnp.1 hok hq hp1 hpl hls hld ho hf.left
  by_cases hfit : q + max 1 p.l ≤ s.most
  ·rw [if_pos hfit] at hst
   have h1 := Leads.one (by omega) hst
   have := ih b2 (q + max 1 p.l) r { s with out := ys.take (q + max 1 p.l), p := s.p + b1.length } (fun x hx => hn x (by simp [hx])) hrest hp2 hpl hls hld rfl hfit hf.right
   refine ⟨fun hr => ?_, fun hr => ?_⟩
   ·have h2 := h1.trans (this.1 hr)
    rw [List.length_append, ← Nat.add_assoc]
    exact h2
   ·obtain ⟨n, h2⟩ := this.2 hr
    exact h1.run h2
  ·rw [if_neg hfit] at hst
   have hr9 := hrest.count
   refine ⟨fun hr => by omega, fun _ => ⟨1, ?_⟩⟩
   rw [no_next ys q (max 1 p.l) s.most hqm (by omega)] at hst
   exact .no s 11 _ (by omega) hst
end Go.Proofs.YtbpahojchgpdnaaGreatDoor
namespace Go.Proofs.YtbpahojchgpdnaaGreatDoor
open Go.RowKit Go.Bel Go.Maps
def ReadsAs (P ys : List Nat) : Prop := ∀ H X : List Nat, (∀ i : Nat, (H ++ (P ++ X))[i]?.getD 0 < 256) → ∀ most,
 (ys.length ≤ most → ∃ n, GRun (H ++ (P ++ X)) n (gAt most (8 * H.length)) 0 ys (8 * (H.length + P.length))) ∧
 (most < ys.length → ∃ n, GRun (H ++ (P ++ X)) n (gAt most (8 * H.length)) 11 (ys.take most) 0)
theorem bits_mid {bits : List Bool} {P : List Nat} (hB : BitsIn bits P) (hb : bits.length ≤ 8 * P.length) (H X : List Nat) : BitsFrom (allBits (H ++ (P ++ X))) (8 * H.length) bits := fun i hi => by
 have h1 : 8 * H.length + i < 8 * (H ++ (P ++ X)).length := by simp; omega
 have h2 : bitAt (H ++ (P ++ X)) (8 * H.length + i) = bitAt P i := by
  unfold bitAt
  rw [show (8 * H.length + i) / 8 = H.length + i / 8 by omega, List.getElem?_append_right (by omega), Nat.add_sub_cancel_left, List.getElem?_append_left (by omega), show (8 * H.length + i) % 8 = i % 8 by omega]
 unfold allBits
 rw [List.getElem?_map, List.getElem?_range h1]
 show some (decide (bitAt (H ++ (P ++ X)) (8 * H.length + i) = 1)) = bits[i]?
 rw [h2, hB.bit i, List.getElem?_eq_getElem hi]
 cases bits[i] <;> simp
theorem end_step {L1 : List Nat} {bs : List Bool} {B : List Nat} {s : GS} (hB : BitsIn bs B) (hb : bs.length ≤ 8 * B.length) (hL1 : ∀ i : Nat, L1[i]?.getD 0 ≤ 15) (hm1 : mayB L1 = true) (hc : HasCode L1 256) (hpl : s.place = 2) (hls : s.ls = L1) (hf : BitsFrom bs s.p (codeB L1 256)) :
  gStep B s = .go (s.ended (s.p + (codeB L1 256).length)) := by
 subst hls
 unfold gStep
 rw [if_neg (by omega), if_pos hpl]
 unfold gSym
 rw [sym_read hB hb hL1 hm1 hc hf]
 dsimp only
 rw [if_neg (by omega), if_pos rfl]
theorem head_fixed {B : List Nat} {s : GS} {last : Bool} (h0 : s.place = 0) (h : HeadAt B s.p last 1) : gStep B s = .go { s with last := last, place := 2, ls := fixLens, ld := List.replicate 32 5, p := s.p + 3 } := by
 unfold gStep
 rw [if_neg (by omega), if_neg (by omega)]
 unfold gHead
 rw [if_pos h.there, if_neg (by rw [h.kind_]; omega), if_pos h.kind_]
 have e2 : (bitAt B s.p == 1) = last := by rw [h.last_]; cases last <;> rfl
 rw [e2]
 rfl
theorem grun_no {B : List Nat} {k e q : Nat} {s : GS} {out : List Nat} (h : GRun B k s e out q) (he : e ≠ 0) : q = 0 := by
 induction h with
 | done s h => exact absurd rfl he
 | no s e out h3 h => rfl
 | miss s h3 h => rfl
 | go n s s1 e out q h3 h k ih => exact ih he
theorem fix_reads {ys : List Nat} {bits : List Bool} {P : List Nat} (h : FixPb ys bits) (hy : ∀ i : Nat, ys[i]?.getD 0 < 256) (hB : BitsIn bits P) (hl : P.length = (bits.length + 7) / 8) : ReadsAs P ys := by
 intro H X hX most
 obtain ⟨ps, pb, hps, hpb, -, rfl⟩ := h
 have hbits := bits_mid hB (by omega) H X
 have hall := allBits_in _ hX
 have hal : (allBits (H ++ (P ++ X))).length ≤ 8 * (H ++ (P ++ X)).length := by rw [allBits_length]; omega
 have hhead := head_from hall hal (8 * H.length) 1 true (by omega) hbits.left.left
 have hneeds := pcs_needs hy hps
 have e1 := head_fixed (B := H ++ (P ++ X)) (s := gAt most (8 * H.length)) (last := true) rfl hhead
 have l1 := Leads.one (by simp [gAt, gInit]) e1
 have hf2 : BitsFrom (allBits (H ++ (P ++ X))) (8 * H.length + 3) pb := by
  have := hbits.left.right
  rw [beginBits_length] at this
  exact this
 have l2 := pieces_lead hall hal fix_le far5_le fix_may ps pb 0 ys.length { gAt most (8 * H.length) with last := true, place := 2, ls := fixLens, ld := List.replicate 32 5, p := 8 * H.length + 3 } (fun p hp => ⟨hneeds p hp, fun _ => far_may⟩) hps hpb rfl rfl rfl (by simp [gAt, gInit]) (by omega) hf2
 refine ⟨fun hm => ?_, fun hm => ?_⟩
 ·have l3 := l1.trans (l2.1 hm)
  have hf3 : BitsFrom (allBits (H ++ (P ++ X))) (8 * H.length + 3 + pb.length) (codeB fixLens 256) := by
   have := hbits.right
   rw [List.length_append, beginBits_length, ← Nat.add_assoc] at this
   exact this
  have e4 := end_step (s := { gAt most (8 * H.length) with last := true, place := 2, ls := fixLens, ld := List.replicate 32 5, out := ys.take ys.length, p := 8 * H.length + 3 + pb.length }) hall hal fix_le fix_may (fixHas 256 (by omega)) rfl rfl hf3
  have l4 := l3.trans (Leads.one (by simp) e4)
  have e5 : (8 * H.length + 3 + pb.length + (codeB fixLens 256).length + 7) / 8 * 8 = 8 * (H.length + P.length) := by
   rw [hl]
   simp only [List.length_append, beginBits_length]
   omega
  refine l4.run (m := 0) ?_
  have := GRun.done (B := H ++ (P ++ X)) (GS.ended { gAt most (8 * H.length) with last := true, place := 2, ls := fixLens, ld := List.replicate 32 5, out := ys.take ys.length, p := 8 * H.length + 3 + pb.length } (8 * H.length + 3 + pb.length + (codeB fixLens 256).length)) (by simp [GS.ended])
  simp only [GS.ended, if_true, e5, List.take_length] at this ⊢
  exact this
 ·obtain ⟨n, hr⟩ := l2.2 hm
  exact l1.run hr
theorem link_at (most p : Nat) : Link { init most with p := p } (gAt most p) := ⟨rfl, rfl, rfl, rfl, rfl, rfl, fun h => by simp [init] at h⟩
end Go.Proofs.YtbpahojchgpdnaaGreatDoor
namespace Go.Proofs.YtbpahojchgpdnaaGreatDoor
open Go.RowKit Go.Bel Go.Maps
theorem get_mid (A C : List Nat) (i : Nat) : (A ++ C)[A.length + i]?.getD 0 = C[i]?.getD 0 := by
 rw [List.getElem?_append_right (by omega), Nat.add_sub_cancel_left]
theorem num_at (B : List Nat) (k : Nat) : numAt B (8 * k) 8 = B[k]?.getD 0 % 256 := numAt_low B k 8 (Nat.le_refl _)
theorem num_le4 (A C : List Nat) (x : Nat) (hx : x < 4294967296) : numAt (A ++ (le4 x ++ C)) (8 * A.length) 32 = x := by
 rw [show (32 : Nat) = 8 + (8 + (8 + 8)) from rfl, numAt_add, numAt_add, numAt_add, show 8 * A.length + 8 = 8 * (A.length + 1) by omega, show 8 * (A.length + 1) + 8 = 8 * (A.length + 2) by omega, show 8 * (A.length + 2) + 8 = 8 * (A.length + 3) by omega, num_at, num_at, num_at, num_at]
 have h0 := get_mid A (le4 x ++ C) 0
 have h1 := get_mid A (le4 x ++ C) 1
 have h2 := get_mid A (le4 x ++ C) 2
 have h3 := get_mid A (le4 x ++ C) 3
 rw [Nat.add_zero] at h0
 rw [h0, h1, h2, h3]
 simp [le4]
 omega
theorem big_be4 (A C : List Nat) (x : Nat) (hx : x < 4294967296) : bigAt (A ++ (be4 x ++ C)) (8 * A.length) 4 = x := by
 unfold bigAt bigAt bigAt bigAt bigAt
 rw [show 8 * A.length + 8 * 0 = 8 * (A.length + 0) by omega, show 8 * A.length + 8 * 1 = 8 * (A.length + 1) by omega, show 8 * A.length + 8 * 2 = 8 * (A.length + 2) by omega, show 8 * A.length + 8 * 3 = 8 * (A.length + 3) by omega, num_at, num_at, num_at, num_at]
 rw [get_mid A (be4 x ++ C) 0, get_mid A (be4 x ++ C) 1, get_mid A (be4 x ++ C) 2, get_mid A (be4 x ++ C) 3]
 simp [be4]
 omega
theorem crc_lt (ys : List Nat) : crcWith 0 ys < 4294967296 := crcWith_lt 0 ys
theorem ad_lt (ys : List Nat) : adWith 1 ys < 4294967296 := adWith_lt 1 (by decide) ys
def gzEnd (P ys X : List Nat) : List Nat := P ++ (le4 (crcWith 0 ys) ++ (le4 ys.length ++ X))
theorem all_get {B : List Nat} (h : AllB B) (i : Nat) : B[i]?.getD 0 < 256 := by
 rcases Nat.lt_or_ge i B.length with y | y
 ·rw [List.getElem?_eq_getElem y]; exact h _ (List.getElem_mem y)
 ·rw [List.getElem?_eq_none y]; exact (by decide)
theorem gz_body {H P ys X : List Nat} {most : Nat} {nm : List Nat} (hR : ReadsAs P ys) (hB : AllB (H ++ gzEnd P ys X)) (hy : ys.length < 4294967296) :
  (ys.length ≤ most → gzBody (H ++ gzEnd P ys X) most (8 * H.length) nm 0 ys (H.length + P.length + 8) nm) ∧ (most < ys.length → gzBody (H ++ gzEnd P ys X) most (8 * H.length) nm 11 (ys.take most) 0 nm) := by
 have hr := hR H (le4 (crcWith 0 ys) ++ (le4 ys.length ++ X)) (all_get hB) most
 refine ⟨fun hm => ?_, fun hm => ?_⟩
 ·obtain ⟨n, hg⟩ := hr.1 hm
  refine ⟨n, 0, ys, _, hg, ?_⟩
  rw [if_pos rfl]
  have e1 : H ++ gzEnd P ys X = (H ++ P) ++ (le4 (crcWith 0 ys) ++ (le4 ys.length ++ X)) := by simp [gzEnd]
  have e2 : H ++ gzEnd P ys X = (H ++ P ++ le4 (crcWith 0 ys)) ++ (le4 ys.length ++ X) := by simp [gzEnd]
  have hl : (H ++ gzEnd P ys X).length = H.length + P.length + 8 + X.length := by simp [gzEnd, le4]; omega
  have n1 := num_le4 (H ++ P) (le4 ys.length ++ X) (crcWith 0 ys) (crc_lt ys)
  have n2 := num_le4 (H ++ P ++ le4 (crcWith 0 ys)) X ys.length hy
  rw [← e1, List.length_append] at n1
  rw [← e2, List.length_append, List.length_append, show (le4 (crcWith 0 ys)).length = 4 from rfl, show 8 * (H.length + P.length + 4) = 8 * (H.length + P.length) + 32 by omega] at n2
  unfold gzTail
  rw [if_pos (by omega), if_pos n1]
  unfold gzSize
  refine ⟨rfl, rfl, ?_⟩
  rw [if_pos (by omega), if_pos n2]
  exact ⟨rfl, by omega⟩
 ·obtain ⟨n, hg⟩ := hr.2 hm
  refine ⟨n, 11, _, 0, hg, ?_⟩
  rw [if_neg (by omega)]
  exact ⟨rfl, rfl, rfl, rfl⟩
theorem gz_start {B : List Nat} {most f : Nat} {e : Nat} {out : List Nat} {used : Nat} {name : List Nat} (hl : 10 ≤ B.length) (h0 : B[0]?.getD 0 = 31) (h1 : B[1]?.getD 0 = 139) (h2 : B[2]?.getD 0 = 8) (h3 : B[3]?.getD 0 = f) (hf : f < 32) (h : gzExtra B most f 80 e out used name) : gzAll B most e out used name := by
 have n0 := num_at B 0
 have n1 := num_at B 1
 have n2 := num_at B 2
 have n3 := num_at B 3
 rw [h0] at n0
 rw [h1] at n1
 rw [h2] at n2
 rw [h3, Nat.mod_eq_of_lt (by omega)] at n3
 unfold gzAll gzMark
 rw [if_pos (by omega), if_pos n0]
 unfold gz1 gzMark
 rw [if_pos (by omega), if_pos n1]
 unfold gz2 gzMark
 rw [if_pos (by omega), if_pos n2]
 unfold gzFlags
 rw [if_pos (by omega), show (24 : Nat) = 8 * 3 from rfl, n3, if_pos hf]
 unfold gzSkip
 rw [if_pos (by omega)]
 exact h
theorem gz_plain {B : List Nat} {most p : Nat} {e : Nat} {out : List Nat} {used : Nat} {name : List Nat} (h : gzBody B most p [] e out used name) : gzExtra B most 0 p e out used name := by
 unfold gzExtra
 rw [if_neg (by omega)]
 unfold gzName
 rw [if_neg (by omega)]
 unfold gzRemark
 rw [if_neg (by omega)]
 unfold gzCheck
 rw [if_neg (by omega)]
 exact h
theorem gz_around {P ys X : List Nat} {most : Nat} (hR : ReadsAs P ys) (hB : AllB (aroundG P ys ++ X)) (hy : ys.length < 4294967296) :
  (ys.length ≤ most → gzAll (aroundG P ys ++ X) most 0 ys (aroundG P ys).length []) ∧ (most < ys.length → gzAll (aroundG P ys ++ X) most 11 (ys.take most) 0 []) := by
 have e : aroundG P ys ++ X = ([31, 139, 8] ++ List.replicate 7 0) ++ gzEnd P ys X := by simp [aroundG, gzEnd]
 have hl : (aroundG P ys).length = 10 + P.length + 8 := by simp [aroundG, le4]; omega
 rw [e] at hB
 have hb := gz_body (most := most) (nm := []) hR hB hy
 rw [e, hl]
 refine ⟨fun hm => ?_, fun hm => ?_⟩
 ·exact gz_start (f := 0) (by simp [gzEnd]) rfl rfl rfl rfl (by omega) (gz_plain (hb.1 hm))
 ·exact gz_start (f := 0) (by simp [gzEnd]) rfl rfl rfl rfl (by omega) (gz_plain (hb.2 hm))
theorem z_around {P ys X : List Nat} {most : Nat} (hR : ReadsAs P ys) (hB : AllB (aroundZ P ys ++ X)) :
  (ys.length ≤ most → zAll (aroundZ P ys ++ X) most 0 ys (aroundZ P ys).length) ∧ (most < ys.length → zAll (aroundZ P ys ++ X) most 11 (ys.take most) 0) := by
 have e : aroundZ P ys ++ X = [120, 1] ++ (P ++ (be4 (adWith 1 ys) ++ X)) := by simp [aroundZ]
 have hl : (aroundZ P ys).length = 2 + P.length + 4 := by simp [aroundZ, be4]; omega
 rw [e] at hB
 have hr := hR [120, 1] (be4 (adWith 1 ys) ++ X) (all_get hB) most
 rw [e, hl]
 have hl2 : ([120, 1] ++ (P ++ (be4 (adWith 1 ys) ++ X))).length = 2 + P.length + 4 + X.length := by simp [be4]; omega
 have n0 : numAt ([120, 1] ++ (P ++ (be4 (adWith 1 ys) ++ X))) 0 8 = 120 := by rw [show 0 = 8 * 0 from rfl, num_at]; rfl
 have n1 : numAt ([120, 1] ++ (P ++ (be4 (adWith 1 ys) ++ X))) 8 8 = 1 := by rw [show 8 = 8 * 1 from rfl, num_at]; rfl
 unfold zAll zSec
 rw [if_pos (by omega), n0, if_pos (by decide), if_pos (by omega), n1, if_pos (by decide), if_pos (by omega), if_pos (by decide), if_pos (by omega), if_pos (by decide)]
 refine ⟨fun hm => ?_, fun hm => ?_⟩
 ·obtain ⟨n, hg⟩ := hr.1 hm
  refine ⟨n, 0, ys, _, hg, ?_⟩
  rw [if_pos rfl]
  unfold zTail
  have n2 := big_be4 ([120, 1] ++ P) X (adWith 1 ys) (ad_lt ys)
  rw [List.append_assoc, List.length_append] at n2
  refine ⟨rfl, ?_⟩
  rw [if_pos (by simp at hl2 ⊢; omega), if_pos n2]
  exact ⟨rfl, by simp⟩
 ·obtain ⟨n, hg⟩ := hr.2 hm
  refine ⟨n, 11, _, 0, hg, ?_⟩
  rw [if_neg (by omega)]
  exact ⟨rfl, rfl, rfl⟩
end Go.Proofs.YtbpahojchgpdnaaGreatDoor
