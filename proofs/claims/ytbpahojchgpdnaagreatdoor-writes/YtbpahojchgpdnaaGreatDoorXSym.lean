/- Proved here: what the reference's symbol does. -/
import Derived.Deep.LoopGhost
import Derived.Test.YtbpahojchgpdnaaGreatDoorRefer
set_option maxRecDepth 20000
set_option maxHeartbeats 4000000
namespace Go.Proofs.YtbpahojchgpdnaaGreatDoor
open Go.RowKit Go.Bel
def XR (r : R Nat) (b : ByteArray) (s : XS) (y : Nat) (s' : XS) : Prop :=
 match r with
 | .ok a q => y = a ∧ s' = { s with at_ := q }
 | .no e => y < 2 ^ 32 ∧ ∃ a, a ≤ 8 * b.size ∧ s' = { s with err := e, at_ := a }
 | .miss => y < 2 ^ 32 ∧ ∃ a, a ≤ 8 * b.size ∧ s' = { s with err := 3, at_ := a }
abbrev CodesAt (w : World) (C : Nat) (L : List Nat) : Prop := RowAt w C 234 (2 * L.length) (codeCell (codeX L))
def anyTo (L : List Nat) (j v : Nat) : Nat → Bool
 | 0 => false
 | k + 1 => anyTo L j v k || beginsX (codeX L k).1 (codeX L k).2 j v
theorem anyTo_iff (L : List Nat) (j v : Nat) : ∀ k, anyTo L j v k = true ↔ ∃ s, s < k ∧ beginsX (codeX L s).1 (codeX L s).2 j v = true := by
 intro k
 induction k with
 | zero => simp [anyTo]
 | succ k ih =>
  rw [anyTo, Bool.or_eq_true, ih]
  constructor
  ·rintro (⟨s, h1, h2⟩ | h)
   ·exact ⟨s, by omega, h2⟩
   ·exact ⟨k, by omega, h⟩
  ·rintro ⟨s, h1, h2⟩
   by_cases hk : s = k
   ·subst hk; exact .inr h2
   ·exact .inl ⟨s, by omega, h2⟩
theorem codeX_le (L : List Nat) (hr : nx L 15 ≤ 65536) (s : Nat) (hs : s < L.length) : (codeX L s).1 ≤ 15 ∧ (codeX L s).2 < 2 ^ 40 := by
 unfold codeX
 split
 ·rename_i h
  have := (key_bd L hr s hs h.1 h.2).2
  have h2 : 2 ^ (L[s]?.getD 0 + 1) ≤ 2 ^ 16 := Nat.pow_le_pow_right (by omega) (by omega)
  exact ⟨h.2, by dsimp only; omega⟩
 ·simp
def leftX (D : Dealt) (B : List Nat) (p j : Nat) : R Nat := match D.tab (keyAt B p j) with | some y => .ok y (p + j) | none => rSymF D B p (D.longest - j) j
theorem leftX_zero (L : List Nat) (B : List Nat) (p : Nat) : leftX (dealAll L) B p 0 = rSym (dealAll L) B p := by
 unfold leftX
 rw [show keyAt B p 0 = 1 from rfl, tab_one L]
 rfl
theorem leftX_next (D : Dealt) (B : List Nat) (p j : Nat) (hn : D.tab (keyAt B p j) = none) (hj : j < D.longest) : leftX D B p j = if p + j < 8 * B.length then leftX D B p (j + 1) else .miss := by
 have e : leftX D B p j = rSymF D B p (D.longest - j) j := by unfold leftX; rw [hn]
 rw [e, show D.longest - j = (D.longest - (j + 1)) + 1 by omega, rSymF]
 rfl
theorem leftX_end (D : Dealt) (B : List Nat) (p j : Nat) (hn : D.tab (keyAt B p j) = none) (hj : D.longest ≤ j) : leftX D B p j = .no 9 := by
 unfold leftX
 rw [hn, show D.longest - j = 0 by omega]
 rfl
structure SymRel (w wr : World) (x base C Z j : Nat) (L : List Nat) (b : ByteArray) (s s1 : XS) : Prop where
 xat : XAt wr x base b s1
 wrt : Wrt x w s.v wr s.v
 codes : CodesAt wr C L
 box : wr.heap[Z]? = some (.cells #[nat j, nat (keyAt (bytesOf b) s.at_ j - 2 ^ j)] 234 (0, 0))
theorem SymRel.step0 {w wr wr' : World} {x base C Z j : Nat} {L : List Nat} {b : ByteArray} {s s1 : XS} (h : SymRel w wr x base C Z j L b s s1) (hs : Step (fun _ => False) wr wr') : SymRel w wr' x base C Z j L b s s1 :=
 ⟨h.xat.step0 hs, h.wrt.step0 hs, h.codes.step hs (fun y => y), hs.at_ h.box (fun y => y)⟩
theorem symbolX_any (x base C : Nat) (L : List Nat) (b : ByteArray) (s : XS) (w : World) (h : XAt w x base b s) (hC : CodesAt w C L) (hCo : Off x s.v C) (hL : ∀ i : Nat, L[i]?.getD 0 ≤ 15) (hn : L.length ≤ 1000) (hf : farB L = true) (h0 : s.err = 0) :
  Calls Tryz.prog 168 #[.pointer (some ⟨x, 0, none⟩), .slice (some ⟨C, 0, none⟩) L.length L.length] w fun r w' => ∃ y s', r = .returned (nat y) ∧ XR (rSym (dealAll L) (bytesOf b) s.at_) b s y s' ∧ XAt w' x base b s' ∧ Wrt x w s.v w' s.v ∧ (s'.err ≠ 0 → y = 0) := by
 obtain ⟨res, hre⟩ : ∃ r, r = rSym (dealAll L) (bytesOf b) s.at_ := ⟨_, rfl⟩
 rw [← hre]
 have HRE := hide hre
 clear hre
 go_enter Tryz.func168, Tryz.ntmps168
 go_wp2_with fail
 obtain ⟨Z, hZ⟩ : ∃ Z, Z = w.heap.size := ⟨_, rfl⟩
 have hCl := hC.lt
 have hxl := lt_of_block h.blk
 have hol : ∀ k, s.v.ownBlock = some k → k < w.heap.size := fun k hk => (h.own.lt k hk).2
 have hs1 : Step (fun _ => False) w (w.alloc (.cells #[.int .i64 0, .int .i64 0] 234)) := (Step.refl _ _).alloc _
 have hrel0 : SymRel w (w.alloc (.cells #[.int .i64 0, .int .i64 0] 234)) x base C Z 0 L b s s := ⟨h.step0 hs1, (Wrt.refl x w s.v).step0 hs1, hC.step hs1 (fun y => y), by rw [hZ]; exact heap_alloc_new _ _⟩
 rw [← hZ]
 have hZx : ¬ Z = x := by omega
 have hZo : Off x s.v Z := ⟨by omega, fun e => by have := hol Z e; omega⟩
 have hZC : ¬ Z = C := by omega
 have hZw : w.heap.size ≤ Z := by omega
 have hr15 := room_far L hL hf
 have hlo := longest_le L
 generalize w.alloc (.cells #[.int .i64 0, .int .i64 0] 234) = w1 at *
 clear hZ h hC hs1
 have hbl := bytesOf_length b
 go_loopg [6] 18 (fun k u wr => (∃ j, j ≤ (dealAll L).longest ∧ 17 ≤ j + k ∧ s.at_ + j ≤ 8 * b.size ∧ (∀ i, 1 ≤ i → i < j → (dealAll L).tab (keyAt (bytesOf b) s.at_ i) = none) ∧ leftX (dealAll L) (bytesOf b) s.at_ j = res ∧ SymRel w wr x base C Z j L b s { s with at_ := s.at_ + j }) ∨
  (res = .miss ∧ ∃ a, a ≤ 8 * b.size ∧ XAt wr x base b { s with err := 3, at_ := a } ∧ Wrt x w s.v wr s.v))
 case atStart => exact .inl ⟨0, by omega, by omega, hrel0.xat.there, fun i h1 h2 => by omega, by rw [leftX_zero, unhide HRE], hrel0⟩
 case round =>
  clear hrel0
  rcases hrel with ⟨j, hj, hjk, hat, hno, hres, hrel⟩ | ⟨hres, a, ha, hx, hw⟩
  ·obtain ⟨_, _, c2, _⟩ := hrel.xat.cell
   dsimp only at c2
   rw [h0] at c2
   have HREL := hide hrel
   have HNO := hide hno
   have HRES := hide hres
   clear hrel hno hres
   obtain ⟨v, hv⟩ : ∃ v, v = keyAt (bytesOf b) s.at_ j - 2 ^ j := ⟨_, rfl⟩
   have hkb := keyAt_bd (bytesOf b) s.at_ j
   have hp16 : 2 ^ (j + 1) ≤ 2 ^ 16 := Nat.pow_le_pow_right (by omega) (by omega)
   have hvb : v < 65536 := by omega
   have HV := hide hv
   clear hv
   go_wp2_with fail
   go_loopw [6, 7] (fun sm i wr2 => ∃ k : Nat, k ≤ L.length ∧ i = .int .i64 (k : Nat) ∧ sm = .bool (anyTo L j v k) ∧ (∀ t, t < k → (dealAll L).tab (keyAt (bytesOf b) s.at_ j) ≠ some t) ∧ Step (fun _ => False) wr wr2) (fun _ i _ => L.length - (intOf i).toNat)
   case atStart => exact ⟨0, by omega, rfl, rfl, fun t h1 => by omega, Step.refl _ _⟩
   case round =>
    obtain ⟨k, hk, rfl, rfl, hnot, hst⟩ := hrel
    have hR2 := (unhide HREL).step0 hst
    have HNOT := hide hnot
    have HST := hide hst
    clear hnot hst
    by_cases hlk : k < L.length
    ·have hcx := codeX_le L hr15 k hlk
     have hmi := match_iff L hr15 hL j (keyAt (bytesOf b) s.at_ j) k hkb hlk
     rw [← unhide HV] at hmi
     obtain ⟨n, hnn⟩ : ∃ n, n = (codeX L k).1 := ⟨_, rfl⟩
     obtain ⟨c, hcc⟩ : ∃ c, c = (codeX L k).2 := ⟨_, rfl⟩
     have z0 := hR2.codes.cell (k * 2) (by omega)
     have z1 := hR2.codes.cell (k * 2 + 1) (by omega)
     have e0 : codeCell (codeX L) (k * 2) = nat n := by unfold codeCell; rw [if_pos (by omega), show k * 2 / 2 = k by omega, hnn]
     have e1 : codeCell (codeX L) (k * 2 + 1) = nat c := by unfold codeCell; rw [if_neg (by omega), show (k * 2 + 1) / 2 = k by omega, hcc]
     rw [e0] at z0
     rw [e1] at z1
     have ean : anyTo L j v (k + 1) = (anyTo L j v k || beginsX n c j v) := by rw [anyTo, hnn, hcc]
     rw [← hnn, ← hcc] at hcx hmi
     have hkl : (k : Int) < (L.length : Int) := by omega
     have hk0 : (0 : Int) ≤ (k : Int) := by omega
     obtain ⟨b0, b1, _, _⟩ := blk_two hR2.box
     rw [← unhide HV] at b1
     have hal : Step (fun _ => False) wr (wr.alloc (.cells #[nat n, nat c] 234)) := (Step.refl _ _).alloc _
     have hbeg := begins_any n c j v (wr.alloc (.cells #[nat n, nat c] 234)) hcx.1 hcx.2 (by omega) (by omega)
     have HBEG := hide hbeg
     have HAL := hide hal
     have HMI := hide hmi
     have HEAN := hide ean
     have hzw := hR2.codes.lt
     have hZl := lt_of_block hR2.box
     clear e0 e1 hnn hcc hbeg hal hmi ean hR2
     go_wp2_with fail
     refine (unhide HBEG).mono ?_
     rintro e w3 ⟨rfl, hs3⟩
     have hst3 := (unhide HAL).trans hs3
     have hbx : w3.cell? ⟨wr.heap.size, 0, none⟩ = some (nat n) := hs3.cell (blk_cell (heap_alloc_new wr (.cells #[nat n, nat c] 234)) 0 _ rfl) (fun y => y)
     have hZ0 : w3.cell? ⟨Z, 0, none⟩ = some (nat j) := hst3.cell b0 (fun y => y)
     have HST3 := hide ((unhide HST).trans hst3)
     have HS3 := hide hst3
     clear hs3 hst3 HBEG HAL
     obtain ⟨am, ham⟩ : ∃ am, am = anyTo L j v k := ⟨_, rfl⟩
     rw [← ham] at HEAN ⊢
     clear ham
     by_cases hmt : beginsX n c j v = true ∧ n = j
     ·obtain ⟨hm1, hm2⟩ := hmt
      rw [hm1]
      have htab := (unhide HMI).1 ⟨hm1, hm2⟩
      have hnj : ((n : Int) == (j : Int)) = true := beq_iff_eq.2 (by omega)
      have hfin : res = .ok k (s.at_ + j) := by
       rw [← unhide HRES]
       unfold leftX
       rw [htab]
      have HFIN := hide hfin
      clear htab hfin
      rcases am with _ | _
      all_goals
       go_wp2_with fail
       go_ret
       have h9 := (unhide HREL).step0 (unhide HST3)
       exact ⟨k, _, rfl, by rw [unhide HFIN]; exact ⟨rfl, rfl⟩, h9.xat, h9.wrt, fun h8 => absurd h0 h8⟩
     ·have hcond : beginsX n c j v = false ∨ (beginsX n c j v = true ∧ ((n : Int) == (j : Int)) = false) := by
       cases hb : beginsX n c j v with
       | false => exact .inl rfl
       | true => exact .inr ⟨rfl, beq_eq_false_iff_ne.2 (fun e => hmt ⟨hb, by omega⟩)⟩
      have hnt : (dealAll L).tab (keyAt (bytesOf b) s.at_ j) ≠ some k := fun e => hmt ((unhide HMI).2 e)
      have HNT := hide (show ∀ t, t < k + 1 → (dealAll L).tab (keyAt (bytesOf b) s.at_ j) ≠ some t from fun t ht => by
       by_cases htk : t = k
       ·rw [htk]; exact hnt
       ·exact unhide HNOT t (by omega))
      clear hnt hmt HMI
      rcases hcond with hb | ⟨hb, hnj⟩
      all_goals
       rw [hb] at HEAN ⊢
       rcases am with _ | _
       all_goals
        go_wp2_with fail
        exact ⟨⟨k + 1, by omega, by go_num, by rw [unhide HEAN]; rfl, unhide HNT, unhide HST3⟩, by simp [intOf]; omega⟩
    ·have : k = L.length := by omega
     subst this
     have hnone : (dealAll L).tab (keyAt (bytesOf b) s.at_ j) = none := by
      cases ht : (dealAll L).tab (keyAt (bytesOf b) s.at_ j) with
      | none => rfl
      | some t => exact absurd ht (unhide HNOT t ((dealTo_tab L 15 _ t).1 ht).1)
     have hno' : ∀ i, 1 ≤ i → i ≤ j → (dealAll L).tab (keyAt (bytesOf b) s.at_ i) = none := fun i h1 h2 => by
      by_cases hij : i = j
      ·rw [hij]; exact hnone
      ·exact unhide HNO i h1 (by omega)
     have hsome := some_any L hL hf (bytesOf b) s.at_ j hj hno'
     rw [← anyTo_iff, ← unhide HV] at hsome
     have HX2 := hide hR2.xat
     obtain ⟨am, ham⟩ : ∃ am, am = anyTo L j v L.length := ⟨_, rfl⟩
     rw [← ham] at hsome ⊢
     clear ham
     by_cases hjl : j < (dealAll L).longest
     ·have ha : am = true := hsome.2 hjl
      subst ha
      have hnx := leftX_next (dealAll L) (bytesOf b) s.at_ j hnone hjl
      rw [unhide HRES, hbl] at hnx
      have hbit := bit_any x base b _ wr hR2.xat
      have HBIT := hide hbit
      have HNX := hide hnx
      have HR2 := hide hR2
      have HNO' := hide hno'
      clear hbit hnx hR2 hno' hnone hsome HNOT HNO
      go_wp2_with fail
      refine (unhide HBIT).mono ?_
      rintro e w3 ⟨rfl, hx3, hw3⟩
      have hcd3 := (unhide HR2).codes.wrt hCo hw3
      have hbox3 := hw3.step.at_ (unhide HR2).box (fun y => y.elim hZo.1 hZo.2)
      have hwt3 := (unhide HR2).wrt.trans hw3
      obtain ⟨q0, q1, qf0, qf1⟩ := blk_two hbox3
      rw [← unhide HV] at q1
      by_cases hth : s.at_ + j < 8 * b.size
      ·have eb : bitX b { s with at_ := s.at_ + j } = (bitAt (bytesOf b) (s.at_ + j), { s with at_ := s.at_ + j + 1 }) := by
        unfold bitX
        rw [if_neg (by dsimp only; omega), if_pos (by dsimp only; omega)]
       rw [eb] at hx3 ⊢
       have hnx := unhide HNX
       rw [if_pos hth] at hnx
       have hbl2 := bitAt_lt (bytesOf b) (s.at_ + j)
       obtain ⟨y, hy⟩ : ∃ y, y = bitAt (bytesOf b) (s.at_ + j) := ⟨_, rfl⟩
       dsimp only at hx3 ⊢
       rw [← hy] at hbl2 ⊢
       have ekey : keyAt (bytesOf b) s.at_ (j + 1) - 2 ^ (j + 1) = 2 * v + y := by
        rw [keyAt, unhide HV, hy, Nat.pow_succ]
        omega
       have HX3 := hide hx3
       have HCD := hide hcd3
       have HBX := hide hbox3
       have HWT := hide hwt3
       have HK := hide ekey
       have HNX2 := hide hnx
       clear hx3 hcd3 hbox3 hwt3 hw3 ekey hy eb hnx HBIT HNX
       go_wp2_with fail
       go_roundg (gk - 1)
       case measure => omega
       case rel =>
        have hz : Step (· = Z) w3 ((w3.setCell ⟨Z, 0, none⟩ (.int .i64 ((j : Int) + 1))).setCell ⟨Z, 1, none⟩ (.int .i64 (2 * (v : Int) + (y : Int)))) := ((Step.refl (· = Z) w3).setCell (p := ⟨Z, 0, none⟩) rfl _).setCell (p := ⟨Z, 1, none⟩) rfl _
        refine .inl ⟨j + 1, by omega, by omega, by omega, fun i h1 h2 => unhide HNO' i h1 (by omega), (unhide HNX2).symm, ⟨(unhide HX3).step hz (fun e => hZx e.symm) (fun k hk e => hZo.2 (e ▸ hk)), ((unhide HWT).setNew hZw _).setNew hZw _, (unhide HCD).step hz (fun e => hZC e.symm), ?_⟩⟩
        rw [unhide HK]
        have h9 := blk_set (blk_set (unhide HBX) 0 (.int .i64 ((j : Int) + 1))) 1 (.int .i64 (2 * (v : Int) + (y : Int)))
        rw [h9]
        simp [nat]
      ·have eb : bitX b { s with at_ := s.at_ + j } = (0, { s with at_ := s.at_ + j, err := 3 }) := by
        unfold bitX
        rw [if_neg (by dsimp only; omega), if_neg (by dsimp only; omega)]
       rw [eb] at hx3 ⊢
       have hnx := unhide HNX
       rw [if_neg hth] at hnx
       dsimp only at hx3 ⊢
       have HX3 := hide hx3
       have HWT := hide hwt3
       have HNX2 := hide hnx
       clear hx3 hcd3 hbox3 hwt3 hw3 eb hnx HBIT HNX
       go_wp2_with fail
       go_roundg (gk - 1)
       case measure => omega
       case rel =>
        refine .inr ⟨unhide HNX2, s.at_ + j, hat, ?_, ((unhide HWT).setNew hZw _).setNew hZw _⟩
        refine (unhide HX3).step (((Step.refl (· = Z) w3).setCell (p := ⟨Z, 0, none⟩) rfl _).setCell (p := ⟨Z, 1, none⟩) rfl _) (fun e => hZx e.symm) (fun k hk e => hZo.2 (e ▸ hk))
     ·have ha : am = false := by
       cases h9 : am with
       | false => rfl
       | true => exact absurd (hsome.1 h9) hjl
      subst ha
      have hend := leftX_end (dealAll L) (bytesOf b) s.at_ j hnone (by omega)
      rw [unhide HRES] at hend
      have HEND := hide hend
      have HR2 := hide hR2
      clear hend hR2 hno' hnone hsome HNOT HNO
      go_wp2_with fail
      refine (fail_any x base 9 b _ wr (unhide HR2).xat).mono ?_
      rintro e w3 ⟨rfl, hx3, hw3⟩
      dsimp only at hx3 hw3
      rw [if_pos h0] at hx3
      have HX3 := hide hx3
      have HW3 := hide ((unhide HR2).wrt.trans hw3)
      clear hx3 hw3
      go_wp2_with fail
      go_ret
      exact ⟨0, _, rfl, by rw [unhide HEND]; exact ⟨by decide, s.at_ + j, hat, rfl⟩, unhide HX3, unhide HW3, fun _ => rfl⟩
  ·obtain ⟨_, _, c2, _⟩ := hx.cell
   dsimp only at c2
   have HX := hide hx
   have HW := hide hw
   have HRES := hide hres
   clear hx hw hres
   go_wp2_with fail
   go_ret
   exact ⟨0, rfl, _, by rw [unhide HRES]; exact ⟨by decide, a, ha, rfl⟩, unhide HX, unhide HW, fun _ => rfl⟩
end Go.Proofs.YtbpahojchgpdnaaGreatDoor
