/- Proved here: the end of the library's symMerge: the two parts are merged each by themselves. -/
import Derived.Deep.DeepCutAuto
import Derived.Test.YtbpahojchgpdnaaGreatDoorSortA
set_option maxRecDepth 20000
set_option maxHeartbeats 4000000
namespace Go.Proofs.YtbpahojchgpdnaaGreatDoor
open Go.RowKit Go.Shelf Go.Lib Go.Sort Go.Bel
def leftR (n : Nat) : Code → Bool
 | .region k _ _ => k == n
 | .seq a _ => leftR n a
 | _ => false
def codeAt (n : Nat) : Code → Option Code
 | .seq a b => if leftR n (.seq a b) then some (.seq a b) else match codeAt n b with
  | some c => some c
  | none => codeAt n a
 | .block _ c => codeAt n c
 | .scope c => codeAt n c
 | _ => none
noncomputable def symTail : Code := (Tryz.f222.body.bind (codeAt 41)).getD .skip
set_option maxHeartbeats 8000000 in
set_option maxRecDepth 1000000 in
theorem symTail_ok (blk off cap a m b s mid en n : Nat) (T T2 : List Pe) (w0 w2 : World)
  (k2 : a < s ∧ s < mid → Calls Tryz.prog 222 #[.slice (some ⟨blk, off, none⟩) n cap, .int .i64 (a : Nat), .int .i64 (s : Nat), .int .i64 (mid : Nat), .func (.func 208) #[] #[]] w2 fun e w' => e = .returned (.tuple #[]) ∧ SwE w0 blk off T w')
  (k2n : ¬ (a < s ∧ s < mid) → SwE w0 blk off T w2)
  (k3 : ∀ W, SwE w0 blk off T W → mid < en ∧ en < b → Calls Tryz.prog 222 #[.slice (some ⟨blk, off, none⟩) n cap, .int .i64 (mid : Nat), .int .i64 (en : Nat), .int .i64 (b : Nat), .func (.func 208) #[] #[]] W fun e w' => e = .returned (.tuple #[]) ∧ SwE w0 blk off T2 w')
  (k3n : ∀ W, SwE w0 blk off T W → ¬ (mid < en ∧ en < b) → SwE w0 blk off T2 W)
  (fr5 fr6 fr7 fr8 fr9 fr10 fr11 fr12 fr13 fr14 fr15 fr16 fr17 fr19 fr21 fr22 fr23 fr25 fr26 fr27 fr28 fr29 fr30 fr31 fr32 fr33 fr34 fr35 fr36 fr37 fr38 fr39 fr40 fr41 fr42 fr43 fr44 fr45 fr46 fr47 fr48 fr49 fr50 fr51 fr52 fr53 fr54 fr55 fr56 fr57 fr58 fr59 fr60 fr61 fr62 fr63 fr64 fr65 fr66 fr67 fr68 fr69 fr70 fr71 fr72 fr73 fr74 fr75 fr76 fr77 fr78 fr79 fr80 fr81 fr82 fr83 fr84 fr85 fr86 fr87 fr88 fr89 fr90 fr91 fr92 fr93 fr94 fr95 fr96 fr97 fr98 fr99 fr100 fr101 fr102 fr103 fr104 fr105 fr106 fr107 fr108 fr109 fr110 fr111 fr112 fr113 fr114 fr115 fr116 fr117 fr118 fr119 fr120 fr121 fr122 fr123 fr124 fr125 fr126 fr127 fr128 fr129 fr130 fr131 fr132 fr133 fr134 fr135 fr136 fr137 fr138 fr139 fr140 fr141 fr142 fr143 fr144 fr145 fr146 fr147 fr148 fr149 fr150 fr151 fr152 fr153 fr154 fr155 fr156 fr157 fr158 fr159 fr160 fr161 fr162 fr163 fr164 fr165 fr166 fr167 fr168 fr169 fr170 fr171 fr172 fr173 fr174 fr175 fr176 fr177 fr178 fr179 fr180 fr181 fr182 fr183 fr184 fr185 fr186 fr187 fr188 fr189 fr190 fr191 fr192 fr193 fr194 fr195 fr196 fr197 fr198 fr199 fr200 fr201 fr202 fr203 fr204 fr205 fr206 fr207 fr208 fr209 fr210 fr211 fr212 fr213 fr214 fr215 fr216 fr217 fr218 fr219 : Value) :
  symTail.wp Tryz.prog (bodyPost Tryz.prog Tryz.f222 (fun e w' => e = .returned (.tuple #[]) ∧ SwE w0 blk off T2 w')) ⟨(List.toArray ((.slice (some ⟨blk, off, none⟩) n cap) :: (.int .i64 (a : Nat)) :: (.int .i64 (m : Nat)) :: (.int .i64 (b : Nat)) :: (.func (.func 208) #[] #[]) :: fr5 :: fr6 :: fr7 :: fr8 :: fr9 :: fr10 :: fr11 :: fr12 :: fr13 :: fr14 :: fr15 :: fr16 :: fr17 :: (.int .i64 (mid : Nat)) :: fr19 :: (.int .i64 (s : Nat)) :: fr21 :: fr22 :: fr23 :: (.int .i64 (en : Nat)) :: fr25 :: fr26 :: fr27 :: fr28 :: fr29 :: fr30 :: fr31 :: fr32 :: fr33 :: fr34 :: fr35 :: fr36 :: fr37 :: fr38 :: fr39 :: fr40 :: fr41 :: fr42 :: fr43 :: fr44 :: fr45 :: fr46 :: fr47 :: fr48 :: fr49 :: fr50 :: fr51 :: fr52 :: fr53 :: fr54 :: fr55 :: fr56 :: fr57 :: fr58 :: fr59 :: fr60 :: fr61 :: fr62 :: fr63 :: fr64 :: fr65 :: fr66 :: fr67 :: fr68 :: fr69 :: fr70 :: fr71 :: fr72 :: fr73 :: fr74 :: fr75 :: fr76 :: fr77 :: fr78 :: fr79 :: fr80 :: fr81 :: fr82 :: fr83 :: fr84 :: fr85 :: fr86 :: fr87 :: fr88 :: fr89 :: fr90 :: fr91 :: fr92 :: fr93 :: fr94 :: fr95 :: fr96 :: fr97 :: fr98 :: fr99 :: fr100 :: fr101 :: fr102 :: fr103 :: fr104 :: fr105 :: fr106 :: fr107 :: fr108 :: fr109 :: fr110 :: fr111 :: fr112 :: fr113 :: fr114 :: fr115 :: fr116 :: fr117 :: fr118 :: fr119 :: fr120 :: fr121 :: fr122 :: fr123 :: fr124 :: fr125 :: fr126 :: fr127 :: fr128 :: fr129 :: fr130 :: fr131 :: fr132 :: fr133 :: fr134 :: fr135 :: fr136 :: fr137 :: fr138 :: fr139 :: fr140 :: fr141 :: fr142 :: fr143 :: fr144 :: fr145 :: fr146 :: fr147 :: fr148 :: fr149 :: fr150 :: fr151 :: fr152 :: fr153 :: fr154 :: fr155 :: fr156 :: fr157 :: fr158 :: fr159 :: fr160 :: fr161 :: fr162 :: fr163 :: fr164 :: fr165 :: fr166 :: fr167 :: fr168 :: fr169 :: fr170 :: fr171 :: fr172 :: fr173 :: fr174 :: fr175 :: fr176 :: fr177 :: fr178 :: fr179 :: fr180 :: fr181 :: fr182 :: fr183 :: fr184 :: fr185 :: fr186 :: fr187 :: fr188 :: fr189 :: fr190 :: fr191 :: fr192 :: fr193 :: fr194 :: fr195 :: fr196 :: fr197 :: fr198 :: fr199 :: fr200 :: fr201 :: fr202 :: fr203 :: fr204 :: fr205 :: fr206 :: fr207 :: fr208 :: fr209 :: fr210 :: fr211 :: fr212 :: fr213 :: fr214 :: fr215 :: fr216 :: fr217 :: fr218 :: fr219 :: [])), []⟩ w2 := by
 conv => arg 2; whnf
 have K2 := hide k2
 have K2N := hide k2n
 have K3 := hide k3
 have K3N := hide k3n
 clear k2 k2n k3 k3n
 go_upto_region 41 with fail
 go_cut [199] (fun t wd => t = .bool (decide (a < s ∧ s < mid)) ∧ wd = w2)
 case first =>
  by_cases y1 : a < s
  ·have y1z : (a : Int) < (s : Int) := by omega
   by_cases y2 : s < mid
   ·have y2z : (s : Int) < (mid : Int) := by omega
    go_wp2_with fail
    go_meet
    case rel => exact ⟨by simp [y1, y2], rfl⟩
   ·have y2z : ¬ (s : Int) < (mid : Int) := by omega
    go_wp2_with fail
    go_meet
    case rel => exact ⟨by simp [y1, y2], rfl⟩
  ·have y1z : ¬ (a : Int) < (s : Int) := by omega
   go_wp2_with fail
   go_meet
   case rel => exact ⟨by simp [y1], rfl⟩
 case rest =>
  obtain ⟨rfl, rfl⟩ := hcut
  obtain ⟨t199, ht199⟩ : ∃ t, t = decide (a < s ∧ s < mid) := ⟨_, rfl⟩
  rw [← ht199]
  have HT199 := hide ht199
  clear ht199
  go_upto_if 199 with fail
  go_cut [] (fun wd => SwE w0 blk off T wd)
  case first =>
   cases t199 with
   | true =>
    have y : a < s ∧ s < mid := of_decide_eq_true (unhide HT199).symm
    go_wp2_with (go_at_call 222; refine (unhide K2 y).mono ?_; rintro e w' ⟨rfl, h2⟩)
    go_meet
    case rel => exact h2
   | false =>
    have y : ¬ (a < s ∧ s < mid) := of_decide_eq_false (unhide HT199).symm
    go_wp2_with fail
    go_meet
    case rel => exact unhide K2N y
  case rest =>
   have HC2 := hide hcut
   clear hcut K2 K2N
   obtain ⟨w3, hw3⟩ : ∃ W, W = wc := ⟨_, rfl⟩
   rw [← hw3] at HC2 ⊢
   clear hw3
   go_upto_region 43 with fail
   go_cut [213] (fun t wd => t = .bool (decide (mid < en ∧ en < b)) ∧ wd = w3)
   case first =>
    by_cases y1 : mid < en
    ·have y1z : (mid : Int) < (en : Int) := by omega
     by_cases y2 : en < b
     ·have y2z : (en : Int) < (b : Int) := by omega
      go_wp2_with fail
      go_meet
      case rel => exact ⟨by simp [y1, y2], rfl⟩
     ·have y2z : ¬ (en : Int) < (b : Int) := by omega
      go_wp2_with fail
      go_meet
      case rel => exact ⟨by simp [y1, y2], rfl⟩
    ·have y1z : ¬ (mid : Int) < (en : Int) := by omega
     go_wp2_with fail
     go_meet
     case rel => exact ⟨by simp [y1], rfl⟩
   case rest =>
    obtain ⟨rfl, rfl⟩ := hcut
    obtain ⟨t213, ht213⟩ : ∃ t, t = decide (mid < en ∧ en < b) := ⟨_, rfl⟩
    rw [← ht213]
    have HT213 := hide ht213
    clear ht213
    cases t213 with
    | true =>
     have y : mid < en ∧ en < b := of_decide_eq_true (unhide HT213).symm
     go_wp2_with (go_at_call 222; refine (unhide K3 _ (unhide HC2) y).mono ?_; rintro e w' ⟨rfl, h2⟩)
     go_end0
     exact ⟨rfl, h2⟩
    | false =>
     have y : ¬ (mid < en ∧ en < b) := of_decide_eq_false (unhide HT213).symm
     have z := unhide K3N _ (unhide HC2) y
     go_wp2_with fail
     go_end0
     exact ⟨rfl, z⟩
end Go.Proofs.YtbpahojchgpdnaaGreatDoor
namespace Go.Proofs.YtbpahojchgpdnaaGreatDoor
open Go.RowKit Go.Shelf Go.Lib Go.Sort Go.Bel
def MrgOk (N : Nat) : Prop := ∀ (blk off cap a m b : Nat) (P L R S l0 : List Pe) (w0 w : World), RowK Pe.enc 2 w0 blk off l0.toArray → l0.length = (P ++ L ++ R ++ S).length → SwE w0 blk off (P ++ L ++ R ++ S) w →
 a = P.length → m = P.length + L.length → b = P.length + L.length + R.length → 0 < L.length → 0 < R.length → SortedE L → SortedE R → L.length + R.length ≤ N → l0.length < 4611686018427387904 →
 Calls Tryz.prog 222 #[.slice (some ⟨blk, off, none⟩) l0.length cap, .int .i64 (a : Nat), .int .i64 (m : Nat), .int .i64 (b : Nat), fvE] w fun e w' => e = .returned (.tuple #[]) ∧ SwE w0 blk off (P ++ mrgE L R ++ S) w'
theorem mrgE_or {A B : List Pe} (h : A = [] ∨ B = []) : mrgE A B = A ++ B := by
 rcases h with rfl | rfl
 ·rw [mrgE_nil_left]; rfl
 ·rw [mrgE_nil]; simp
theorem len0 {A : List Pe} (h : A.length = 0) : A = [] := List.eq_nil_of_length_eq_zero h
set_option maxHeartbeats 8000000 in
set_option maxRecDepth 1000000 in
theorem symMerge_both (N blk off cap a m b : Nat) (P L R' S l0 : List Pe) (w0 w : World) (ih : MrgOk N)
  (R : RowK Pe.enc 2 w0 blk off l0.toArray) (hs : l0.length = (P ++ L ++ R' ++ S).length) (H : SwE w0 blk off (P ++ L ++ R' ++ S) w)
  (ha : a = P.length) (hm : m = P.length + L.length) (hb : b = P.length + L.length + R'.length) (hL2 : 2 ≤ L.length) (hR2 : 2 ≤ R'.length) (hsL : SortedE L) (hsR : SortedE R') (hN : L.length + R'.length ≤ N + 1) (hsz : l0.length < 4611686018427387904) :
  Calls Tryz.prog 222 #[.slice (some ⟨blk, off, none⟩) l0.length cap, .int .i64 (a : Nat), .int .i64 (m : Nat), .int .i64 (b : Nat), fvE] w fun e w' => e = .returned (.tuple #[]) ∧ SwE w0 blk off (P ++ mrgE L R' ++ S) w' := by
 have mixed : Tryz.prog.follows .mixedOrders = true := by kernel_rfl
 have H0 := hide H
 have HR := hide R
 have IH := hide ih
 have b1 : b ≤ l0.length := by rw [hs]; simp; omega
 have b2 : a + 2 ≤ m := by omega
 have b3 : m + 2 ≤ b := by omega
 have hbn := sym_bounds (a := a) (m := m) (b := b) (by omega) (by omega)
 have hsp := fun s => sym_split (P := P) (L := L) (R := R') (S := S) (a := a) (m := m) (b := b) (s := s) hsL hsR ha hm hb (by omega) (by omega)
 obtain ⟨mid, hmid⟩ : ∃ mid, mid = (a + b) / 2 := ⟨_, rfl⟩
 obtain ⟨lo, hlo⟩ : ∃ lo, lo = symLo a m b := ⟨_, rfl⟩
 obtain ⟨hi, hhi⟩ : ∃ hi, hi = symHi a m b := ⟨_, rfl⟩
 rw [← hmid, ← hlo, ← hhi] at hbn hsp
 obtain ⟨g1, g2, g3, g4, g5⟩ := hbn
 have HSP := hide hsp
 have md1 : a + 2 ≤ mid := by omega
 have md2 : mid + 2 ≤ b := by omega
 have HD := hide (And.intro hmid (And.intro hlo hhi))
 have HX := hide (And.intro hs (And.intro ha (And.intro hm (And.intro hb (And.intro hsL (And.intro hsR hN))))))
 have md3 : ((a : Int) + (b : Int)) / 2 = (mid : Int) := by omega
 have z1 : ¬ IntKind.i64.wrap ((m : Int) - (a : Int)) = 1 := by rw [IntKind.wrap_i64]; omega
 have z2 : ¬ IntKind.i64.wrap ((b : Int) - (m : Int)) = 1 := by rw [IntKind.wrap_i64]; omega
 have z3 : ¬ ((m : Int) - (a : Int)) = 1 := by omega
 have z4 : ¬ ((b : Int) - (m : Int)) = 1 := by omega
 clear H R hs ha hm hb hL2 hR2 hsL hsR hN hsp ih hmid hlo hhi
 unfold fvE
 go_enter Tryz.func222, Tryz.ntmps222
 go_upto_if 140 with fail
 have zb : (((m : Int) - (a : Int)) == 1) = false := by simp; omega
 have zc : (((b : Int) - (m : Int)) == 1) = false := by simp; omega
 rw [zb, zc]
 go_cut [20, 21] (fun s t wc => s = .int .i64 (lo : Nat) ∧ t = .int .i64 (hi : Nat) ∧ wc = w)
 case first =>
  obtain ⟨d1, d2, d3⟩ := unhide HD
  unfold symLo at d2
  unfold symHi at d3
  rw [← d1] at d2 d3
  by_cases hc : mid < m
  ·have hcz : (m : Int) > (mid : Int) := by omega
   rw [if_pos hc] at d2 d3
   have e2 : (lo : Int) = (mid : Int) + (m : Int) - (b : Int) := by omega
   have e3 : hi = mid := d3
   have HE := hide e2
   clear d1 d2 d3 e2
   subst e3
   go_wp2_with fail
   go_meet
   case rel => exact ⟨by first | (congr 1; have := unhide HE; omega) | rfl, rfl, rfl⟩
  ·have hcz : ¬ (m : Int) > (mid : Int) := by omega
   rw [if_neg hc] at d2 d3
   subst d2 d3
   clear d1
   go_wp2_with fail
   go_meet
   case rel => exact ⟨rfl, rfl, rfl⟩
 case rest =>
  obtain ⟨rfl, rfl, rfl⟩ := hcut
  obtain ⟨w1, hw1⟩ : ∃ W, W = wc := ⟨_, rfl⟩
  subst hw1
  obtain ⟨l, hl⟩ : ∃ l, l = P ++ L ++ R' ++ S := ⟨_, rfl⟩
  rw [← hl] at H0 HSP
  have hL : l.length = l0.length := by rw [hl]; exact (unhide HX).1.symm
  have HL := hide (And.intro hl hL)
  clear hl hL z1 z2 z3 z4 zb zc
  go_wp2_with fail
  obtain ⟨pz, hpz⟩ : ∃ pz : Nat, (pz : Int) = (mid : Int) + (m : Int) - 1 := ⟨mid + m - 1, by omega⟩
  rw [← hpz]
  have HP := hide hpz
  clear hpz
  go_loopg [20, 21] (hi - lo) (fun kx s20 s21 wr => ∃ s r : Nat, s20 = .int .i64 (s : Nat) ∧ s21 = .int .i64 (r : Nat) ∧ lo ≤ s ∧ s ≤ r ∧ r ≤ hi ∧ kx = r - s ∧ Hid (SymAt l (mid + m) lo hi s r) ∧ Hid (SwE w0 blk off l wr))
  case atStart => exact ⟨lo, hi, rfl, rfl, by omega, by omega, by omega, rfl, SymAt.start g2, H0⟩
  case round =>
   clear H0
   obtain ⟨s, r, rfl, rfl, hs1, hs2, hs3, hkx, H1, S1⟩ := hrel
   by_cases hlt : s < r
   ·have hltz : (s : Int) < (r : Int) := by omega
    obtain ⟨c, hh⟩ : ∃ c, c = (s + r) / 2 := ⟨_, rfl⟩
    have hj1 : s ≤ c := by omega
    have hj2 : c < r := by omega
    obtain ⟨q, hq⟩ : ∃ q, q = mid + m - 1 - c := ⟨_, rfl⟩
    obtain ⟨hl, hL⟩ := unhide HL
    obtain ⟨xg, xk, xn, yg, yk, yn, T⟩ := (unhide S1).test (unhide HR) hL (i := q) (j := c) (by omega) (by omega)
    obtain ⟨c1, c2, c3, c4, cl⟩ := T
    have e0 : ((c : Int)).toNat = c := by omega
    have e1 : ((q : Int)).toNat = q := by omega
    have p0 : (0 : Int) ≤ (c : Int) := by omega
    have p1 : (0 : Int) ≤ (q : Int) := by omega
    have q0 : (c : Int) < (l0.length : Int) := by omega
    have q1 : (q : Int) < (l0.length : Int) := by omega
    have hd : ((s : Int) + (r : Int)) / 2 = (c : Int) := by omega
    have hw : IntKind.i64.wrap ((pz : Int) - (c : Int)) = (q : Int) := by rw [IntKind.wrap_i64]; have := unhide HP; omega
    have hr := cmp_neg ((atE l q).c : Int) ((atE l c).c : Int)
    obtain ⟨z, hrr⟩ : ∃ z, z = Lib.compareInt ((atE l q).c : Int) ((atE l c).c : Int) := ⟨_, rfl⟩
    rw [← hrr] at cl hr
    have s1 := (unhide H1)
    obtain ⟨hc, hhc⟩ : ∃ hc : Int, hc = ((atE l c).c : Int) := ⟨_, rfl⟩
    obtain ⟨yc, hyc⟩ : ∃ yc : Int, yc = ((atE l q).c : Int) := ⟨_, rfl⟩
    rw [← hhc] at c3 cl
    rw [← hyc] at c1 cl
    by_cases hrn : z < 0
    ·have n1 : Hid (SymAt l (mid + m) lo hi s c) := s1.down hj1 hj2 (by have := hr.1 hrn; rw [← hq]; omega)
     have hrd : decide (z < 0) = true := decide_eq_true hrn
     clear hh hl hL hrr hhc hyc s1 hr H1 hq
     go_wp2_with fail
     go_quiet_grown (refine Calls.grown_of (cl _ _))
     go_wp2_with fail
     go_roundg (c - s)
     case measure => omega
     case rel => exact ⟨s, c, rfl, by first | rfl | simp | go_num, by omega, by omega, by omega, by omega, n1, (unhide S1).grown _ _⟩
    ·have n1 : Hid (SymAt l (mid + m) lo hi (c + 1) r) := s1.up hj1 hj2 (by rw [← hq]; intro h9; exact hrn (hr.2 (by omega)))
     have hrd : decide (z < 0) = false := decide_eq_false hrn
     clear hh hl hL hrr hhc hyc s1 hr H1 hq
     go_wp2_with fail
     go_quiet_grown (refine Calls.grown_of (cl _ _))
     go_wp2_with fail
     go_roundg (r - (c + 1))
     case measure => omega
     case rel => exact ⟨c + 1, r, by first | rfl | simp | go_num, rfl, by omega, by omega, by omega, by omega, n1, (unhide S1).grown _ _⟩
   ·have hltz : ¬ (s : Int) < (r : Int) := by omega
    have hsr : r = s := by omega
    have s1 := unhide H1
    rw [hsr] at s1
    obtain ⟨L1, L2, R1, R2, hL12, hR12, hl1, hr1, hmrg⟩ := unhide HSP s s1
    obtain ⟨hl, hL⟩ := unhide HL
    obtain ⟨x1, x2, x3, x4, x5, x6, x7⟩ := unhide HX
    have hlen : L.length = L1.length + L2.length := by rw [hL12]; simp
    have hlenR : R'.length = R1.length + R2.length := by rw [hR12]; simp
    have S2 : SwE w0 blk off (P ++ L1 ++ L2 ++ R1 ++ (R2 ++ S)) wr := by
     have := unhide S1
     rw [hl, hL12, hR12] at this
     simpa using this
    have hn2 : l0.length = (P ++ L1 ++ L2 ++ R1 ++ (R2 ++ S)).length := by rw [x1, hL12, hR12]; simp
    obtain ⟨en, hen⟩ : ∃ en, en = mid + m - s := ⟨_, rfl⟩
    have hsL := x5
    rw [hL12] at hsL
    have hsR := x6
    rw [hR12] at hsR
    have w1 := (List.pairwise_append.1 hsL).1
    have w2 := (List.pairwise_append.1 hsL).2.1
    have w3 := (List.pairwise_append.1 hsR).1
    have w4 := (List.pairwise_append.1 hsR).2.1
    have enz : (mid : Int) + (m : Int) - (s : Int) = (en : Int) := by omega
    -- the three calls
    have k1 : s < m → m < en → Calls Tryz.prog 225 #[.slice (some ⟨blk, off, none⟩) l0.length cap, .int .i64 (s : Nat), .int .i64 (m : Nat), .int .i64 (en : Nat), .func (.func 208) #[] #[]] wr fun e w' => e = .returned (.tuple #[]) ∧ SwE w0 blk off (P ++ L1 ++ R1 ++ L2 ++ (R2 ++ S)) w' := fun y1 y2 =>
     rotate_ok blk off cap s m en (P ++ L1) L2 R1 (R2 ++ S) l0 w0 wr _ (unhide HR) hn2 S2 (by simp; omega) (by simp; omega) (by simp; omega) (by omega) (by omega) hsz
    have k1n : ¬ (s < m ∧ m < en) → SwE w0 blk off (P ++ L1 ++ R1 ++ L2 ++ (R2 ++ S)) wr := fun y => by
     by_cases e : L2.length = 0
     ·rw [len0 e] at S2 ⊢; simpa using S2
     ·have : R1.length = 0 := by omega
      rw [len0 this] at S2 ⊢; simpa using S2
    have hn3 : l0.length = (P ++ L1 ++ R1 ++ (L2 ++ R2 ++ S)).length := by rw [hn2]; simp; omega
    have k2 : ∀ W, SwE w0 blk off (P ++ L1 ++ R1 ++ L2 ++ (R2 ++ S)) W → a < s → s < mid → Calls Tryz.prog 222 #[.slice (some ⟨blk, off, none⟩) l0.length cap, .int .i64 (a : Nat), .int .i64 (s : Nat), .int .i64 (mid : Nat), .func (.func 208) #[] #[]] W fun e w' => e = .returned (.tuple #[]) ∧ SwE w0 blk off (P ++ mrgE L1 R1 ++ (L2 ++ R2 ++ S)) w' := fun W hW y1 y2 =>
     unhide IH blk off cap a s mid P L1 R1 (L2 ++ R2 ++ S) l0 w0 W (unhide HR) hn3 (by simpa using hW) x2 (by omega) (by omega) (by omega) (by omega) w1 w3 (by omega) hsz
    have k2n : ∀ W, SwE w0 blk off (P ++ L1 ++ R1 ++ L2 ++ (R2 ++ S)) W → ¬ (a < s ∧ s < mid) → SwE w0 blk off (P ++ mrgE L1 R1 ++ (L2 ++ R2 ++ S)) W := fun W hW y => by
     rw [mrgE_or (by
      by_cases e : L1.length = 0
      ·exact .inl (len0 e)
      ·exact .inr (len0 (by omega)))]
     simpa using hW
    have hn4 : l0.length = ((P ++ mrgE L1 R1) ++ L2 ++ R2 ++ S).length := by rw [hn3]; simp [mrgE_length]; omega
    have fin : P ++ mrgE L1 R1 ++ mrgE L2 R2 ++ S = P ++ mrgE L R' ++ S := by rw [hmrg]; simp
    have k3 : ∀ W, SwE w0 blk off (P ++ mrgE L1 R1 ++ (L2 ++ R2 ++ S)) W → mid < en → en < b → Calls Tryz.prog 222 #[.slice (some ⟨blk, off, none⟩) l0.length cap, .int .i64 (mid : Nat), .int .i64 (en : Nat), .int .i64 (b : Nat), .func (.func 208) #[] #[]] W fun e w' => e = .returned (.tuple #[]) ∧ SwE w0 blk off (P ++ mrgE L R' ++ S) w' := fun W hW y1 y2 => by
     have := unhide IH blk off cap mid en b (P ++ mrgE L1 R1) L2 R2 S l0 w0 W (unhide HR) hn4 (by simpa using hW) (by simp [mrgE_length]; omega) (by simp [mrgE_length]; omega) (by simp [mrgE_length]; omega) (by omega) (by omega) w2 w4 (by omega) hsz
     rw [fin] at this
     exact this
    have k3n : ∀ W, SwE w0 blk off (P ++ mrgE L1 R1 ++ (L2 ++ R2 ++ S)) W → ¬ (mid < en ∧ en < b) → SwE w0 blk off (P ++ mrgE L R' ++ S) W := fun W hW y => by
     rw [← fin, mrgE_or (by
      by_cases e : L2.length = 0
      ·exact .inl (len0 e)
      ·exact .inr (len0 (by omega)) : L2 = [] ∨ R2 = [])]
     simpa using hW
    have K1 := hide k1
    have K1N := hide k1n
    have K2 := hide k2
    have K2N := hide k2n
    have K3 := hide k3
    have K3N := hide k3n
    have be : en ≤ b := by omega
    clear k1 k1n k2 k2n k3 k3n hn2 hn3 hn4 fin S1 S2 s1 hL12 hR12 hl1 hr1 hmrg hl hL x1 x2 x3 x4 x5 x6 x7 hlen hlenR hen hsL hsR w1 w2 w3 w4 hsr H1 HSP HL HX HD
    go_upto_region 39 with fail
    go_cut [185] (fun t wd => t = .bool (decide (s < m ∧ m < en)) ∧ wd = wr)
    case first =>
     by_cases y1 : s < m
     ·have y1z : (s : Int) < (m : Int) := by omega
      by_cases y2 : m < en
      ·have y2z : (m : Int) < (en : Int) := by omega
       go_wp2_with fail
       go_meet
       case rel => exact ⟨by simp [y1, y2], rfl⟩
      ·have y2z : ¬ (m : Int) < (en : Int) := by omega
       go_wp2_with fail
       go_meet
       case rel => exact ⟨by simp [y1, y2], rfl⟩
     ·have y1z : ¬ (s : Int) < (m : Int) := by omega
      go_wp2_with fail
      go_meet
      case rel => exact ⟨by simp [y1], rfl⟩
    case rest =>
     obtain ⟨rfl, rfl⟩ := hcut
     obtain ⟨t185, ht185⟩ : ∃ t, t = decide (s < m ∧ m < en) := ⟨_, rfl⟩
     rw [← ht185]
     have HT185 := hide ht185
     clear ht185
     go_upto_if 185 with fail
     go_cut [] (fun wd => SwE w0 blk off (P ++ L1 ++ R1 ++ L2 ++ (R2 ++ S)) wd)
     case first =>
      cases t185 with
      | true =>
       have y : s < m ∧ m < en := of_decide_eq_true (unhide HT185).symm
       go_wp2_with (go_at_call 225; refine (unhide K1 y.1 y.2).mono ?_; rintro e w' ⟨rfl, h2⟩)
       go_meet
       case rel => exact h2
      | false =>
       have y : ¬ (s < m ∧ m < en) := of_decide_eq_false (unhide HT185).symm
       go_wp2_with fail
       go_meet
       case rel => exact unhide K1N y
     case rest =>
      rename_i K hK _ _ _ _ _ _ _ _ _ _ _ _ _ _ _ _ _ _ _ _ _ _ _ _ _ _ _ _ _ _ _ _ _ _ _ _ _ _ _ _ _ _ _ _ _ _ _ _ _ _ _ _ _ _ _ _ _ _ _ _ _ _ _ _ _ _ _ _ _ _ _ _ _ _ _ _ _ _ _ _ _ _ _ _ _ _ _ _ _ _ _ _ _ _ _ _ _ _ _ _ _ _ _ _ _ _ _ _ _ _ _ _ _ _ _ _ _ _ _ _ _ _ _ _ _ _ _ _ _ _ _ _ _ _ _ _ _ _ _ _ _ _ _ _ _ _ _ _ _ _ _ _ _ _ _ _ _ _ _ _ _ _ _ _ _ _ _ _ _ _ _ _ _ _ _ _ _ _ _ _ _ _ _ _ _ _ _ _ _ _ _ _ _ _ _ 
      refine hK _ _ ?_
      exact symTail_ok blk off cap a m b s mid en l0.length (P ++ mrgE L1 R1 ++ (L2 ++ R2 ++ S)) (P ++ mrgE L R' ++ S) w0 wc (fun y => unhide K2 _ hcut y.1 y.2) (fun y => unhide K2N _ hcut y) (fun W h y => unhide K3 W h y.1 y.2) (unhide K3N) _ _ _ _ _ _ _ _ _ _ _ _ _ _ _ _ _ _ _ _ _ _ _ _ _ _ _ _ _ _ _ _ _ _ _ _ _ _ _ _ _ _ _ _ _ _ _ _ _ _ _ _ _ _ _ _ _ _ _ _ _ _ _ _ _ _ _ _ _ _ _ _ _ _ _ _ _ _ _ _ _ _ _ _ _ _ _ _ _ _ _ _ _ _ _ _ _ _ _ _ _ _ _ _ _ _ _ _ _ _ _ _ _ _ _ _ _ _ _ _ _ _ _ _ _ _ _ _ _ _ _ _ _ _ _ _ _ _ _ _ _ _ _ _ _ _ _ _ _ _ _ _ _ _ _ _ _ _ _ _ _ _ _ _ _ _ _ _ _ _ _ _ _ _ _ _ _ _ _ _ _ _ _ _ _ _ _ _ _ _ _ _ _ _ _ _ _ _ _ _ _ _ _ _ _ _ _ _ _ _ _ _
theorem one_of {L : List Pe} (h : L.length = 1) : ∃ x, L = [x] := by
 match L, h with
 | [x], _ => exact ⟨x, rfl⟩
theorem symMerge_any : ∀ N, MrgOk N
 | 0 => fun _ _ _ _ _ _ _ _ _ _ _ _ _ _ _ _ _ _ _ h7 _ _ _ h11 _ => by omega
 | N + 1 => fun blk off cap a m b P L R S l0 w0 w h1 h2 h3 h4 h5 h6 h7 h8 h9 h10 h11 h12 => by
  by_cases e1 : L.length = 1
  ·obtain ⟨x, rfl⟩ := one_of e1
   exact symMerge_left blk off cap a m b P R S l0 x w0 w h1 h2 h3 h4 h5 h6 h10 h12
  ·by_cases e2 : R.length = 1
   ·obtain ⟨y, rfl⟩ := one_of e2
    exact symMerge_right blk off cap a m b P L S l0 y w0 w h1 h2 h3 h4 h5 h6 (by omega) h9 h12
   ·exact symMerge_both N blk off cap a m b P L R S l0 w0 w (symMerge_any N) h1 h2 h3 h4 h5 h6 (by omega) (by omega) h9 h10 h11 h12
end Go.Proofs.YtbpahojchgpdnaaGreatDoor
