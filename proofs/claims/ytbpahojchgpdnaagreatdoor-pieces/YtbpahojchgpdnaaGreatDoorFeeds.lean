/- Proved here: what the feed's Number and a table's Read do where bits are missing, and where the bits are no code. -/
import Derived.Test.YtbpahojchgpdnaaGreatDoorFrame
import Derived.RegionDies
import Derived.Test.YtbpahojchgpdnaaGreatDoorCodesDeal2
set_option maxRecDepth 20000
set_option maxHeartbeats 4000000
namespace Go.Proofs.YtbpahojchgpdnaaGreatDoor
open Go.RowKit Go.Bel Go.Maps
abbrev lost : Ending := .panicked [{ v := missing, recovered := false }]
theorem feedNum_miss (f g off cap z p n : Nat) (B : List Nat) (w : World)
  (hF : w.heap[f]? = some (.cells #[.slice (fedA g off B.length) B.length cap, .int .i64 (p : Nat), .int .i64 (z : Nat)] 91 (0, 0))) (hS : Src w g off B) (hgf : g ≠ f) (hn : n ≤ 60) (hp : p ≤ 8 * B.length) (hlt : 8 * B.length < p + n) :
  Calls Tryz.prog 119 #[.pointer (some ⟨f, 0, none⟩), .int .i64 (n : Nat)] w fun e w' => e = lost ∧ Fed f w w' (8 * B.length) := by
 have hm := hS.much
 have HF := hide hF
 clear hF
 go_enter Tryz.func119, Tryz.ntmps119
 go_wp2
 go_loopw [5, 8] (fun x i wr => ∃ k : Nat, p + k ≤ 8 * B.length ∧ i = .int .i64 (k : Nat) ∧ x = .int .i64 (numAt B p k : Nat) ∧ Fed f w wr (p + k)) (fun _ i _ => n - (intOf i).toNat)
 case atStart => exact ⟨0, hp, rfl, rfl, Fed.refl (unhide HF)⟩
 case round =>
  obtain ⟨k, hk, rfl, rfl, hfed⟩ := hrel
  have hkn : k < n := by omega
  by_cases hlt2 : p + k < 8 * B.length
  ·have hor := or_bit (numAt B p k) (bitAt B (p + k)) k (by omega) (bitAt_lt _ _) (numAt_lt _ _ _)
   have HO := hide hor
   clear hor
   go_wp2_with fail
   refine (feedBit_ok f g off cap z (p + k) B wr (hfed.feed _ _ _ _ (unhide HF)) (hS.step hfed.step hgf) (by omega)).mono ?_
   rintro e w1 ⟨rfl, hfed1⟩
   have hb := bitAt_lt B (p + k)
   go_wp2
   go_roundw
   case rel => exact ⟨k + 1, by omega, by go_num, by rw [unhide HO]; rfl, hfed.trans hfed1⟩
   case measure => simp [intOf]; omega
  ·go_wp2_with fail
   refine (feedBit_miss f B.length cap (p + k) (fedA g off B.length) wr (hfed.feed _ _ _ _ (unhide HF)) hm (by omega) (by omega)).mono ?_
   rintro e w1 ⟨rfl, m, rfl⟩
   have hk8 : p + k = 8 * B.length := by omega
   have hfin : Fed f w (wr.drewN m) (8 * B.length) := by
    rw [← hk8]
    exact ⟨hfed.step.drewN m, fun s x z' t hx => hfed.feed s x z' t hx⟩
   have HFIN := hide hfin
   clear hfin hfed
   go_wp2_with fail
   exact ⟨rfl, rfl, unhide HFIN⟩
def RP {α : Type} (r : R α) (val : α → Value) (z : Value) (f : Nat) (w : World) (e : Ending) (w' : World) : Prop :=
 match r with
 | .ok a q => e = .returned (.tuple #[val a, .int .i64 0]) ∧ Fed f w w' q
 | .no x => e = .returned (.tuple #[z, .int .i64 (x : Nat)]) ∧ ∃ q, Fed f w w' q
 | .miss => e = lost ∧ ∃ q, Fed f w w' q
abbrev nat (a : Nat) : Value := .int .i64 (a : Nat)
theorem read_zero {z : Nat} (f : Nat) (x : Option Nat) (w : World) (s : Value) (p : Nat)
  (hF : w.heap[f]? = some (.cells #[s, .int .i64 (p : Nat), .int .i64 (z : Nat)] 91 (0, 0))) :
  Calls Tryz.prog 191 #[.agg #[.map x, .int .i64 0], .pointer (some ⟨f, 0, none⟩)] w
   fun e w' => e = .returned (.tuple #[.int .i64 0, .int .i64 9]) ∧ ∃ q, Fed f w w' q := by
 have hfin := fun o => Fed.alloc0 hF o
 have HF := hide hfin
 clear hfin hF
 go_enter Tryz.func191, Tryz.ntmps191
 go_wp2_with fail
 go_loopw [6, 11] (fun c i wr => i = .int .i64 0 ∧ c = .int .u32 1 ∧ wr = w.alloc (.cells #[.map x, .int .i64 0] 123)) (fun _ _ _ => 0)
 case atStart => exact ⟨rfl, rfl, rfl⟩
 case round =>
  obtain ⟨rfl, rfl, rfl⟩ := hrel
  go_wp2_with fail
  go_ret2
  exact ⟨rfl, _, unhide HF _⟩
theorem read_any (f g off cap z p mb : Nat) (D : Dealt) (B : List Nat) (w : World)
  (hF : w.heap[f]? = some (.cells #[.slice (fedA g off B.length) B.length cap, .int .i64 (p : Nat), .int .i64 (z : Nat)] 91 (0, 0))) (hS : Src w g off B) (hgf : g ≠ f) (hT : TabAt w mb D.tab) (hmf : mb ≠ f) (hl : D.longest ≤ 15) (hp : p ≤ 8 * B.length) :
  Calls Tryz.prog 191 #[.agg #[.map (some mb), .int .i64 (D.longest : Nat)], .pointer (some ⟨f, 0, none⟩)] w
   fun e w' => RP (rSym D B p) nat (nat 0) f w e w' := by
 have HF := hide hF
 have hTlt := hT.lt
 have hFlt := lt_of_block hF
 have hm := hS.much
 obtain ⟨longest, hlo⟩ : ∃ l, l = D.longest := ⟨_, rfl⟩
 have hres : rSymF D B p (longest - 0) 0 = rSym D B p := by rw [hlo]; rfl
 obtain ⟨res, hre⟩ : ∃ r, r = rSym D B p := ⟨_, rfl⟩
 rw [← hre] at hres ⊢
 rw [← hlo] at hl ⊢
 have HRES := hide hres
 clear hF hlo hre hres
 go_enter Tryz.func191, Tryz.ntmps191
 go_wp2_with fail
 obtain ⟨box, hbox⟩ : ∃ o, o = Obj.cells #[.map (some mb), .int .i64 (longest : Nat)] 123 := ⟨_, rfl⟩
 have hFa := Fed.alloc0 (unhide HF) box
 have hF1 := hFa.feed _ _ _ _ (unhide HF)
 have hT1 := hT.step hFa.step hmf
 have hS1 := hS.step hFa.step hgf
 have hb1 : (w.alloc box).heap[w.heap.size]? = some (.cells #[.map (some mb), .int .i64 (longest : Nat)] 123 (0, 0)) := by rw [hbox]; exact heap_alloc_new _ _
 have hbf : w.heap.size ≠ f := by omega
 rw [← hbox]
 have HFA := hide hFa
 have HF1 := hide hF1
 generalize hW1 : w.alloc box = w1 at *
 clear hbox hW1 hFa hF1 hT hS HF hTlt hFlt
 go_loopw [6, 11] (fun c i wr => ∃ j : Nat, j ≤ longest ∧ i = .int .i64 (j : Nat) ∧ c = .int .u32 (keyAt B p j : Nat) ∧ p + j ≤ 8 * B.length ∧ rSymF D B p (longest - j) j = res ∧ Fed f w1 wr (p + j)) (fun _ i _ => longest - (intOf i).toNat)
 case atStart => exact ⟨0, by omega, rfl, rfl, hp, unhide HRES, Fed.refl (unhide HF1)⟩
 case round =>
  clear HRES
  obtain ⟨j, hj, rfl, rfl, hpj, hres, hfed⟩ := hrel
  by_cases hjl : j < longest
  ·rw [show longest - j = (longest - (j + 1)) + 1 by omega, rSymF] at hres
   by_cases hthere : p + j < 8 * B.length
   ·rw [if_pos hthere] at hres
    have hkl := keyAt_lt B p j (by omega)
    have hkl1 := keyAt_lt B p (j + 1) (by omega)
    have hbt := bitAt_lt B (p + j)
    have HRES := hide hres
    clear hres
    go_wp2_with fail
    refine (feedBit_ok f g off cap z (p + j) B wr (hfed.feed _ _ _ _ (unhide HF1)) (hS1.step hfed.step hgf) (by omega)).mono ?_
    rintro e w2 ⟨rfl, hfed2⟩
    have hfed12 := hfed.trans hfed2
    obtain ⟨hc0, _, _, _⟩ := blk_two (hfed12.step.at_ hb1 hbf)
    obtain ⟨n, DD, hn, hown, hD⟩ := hT1.step hfed12.step hmf
    clear hfed hfed2
    have hor : bits BinOp.or IntKind.u32 ((keyAt B p j : Int) * 2) (bitAt B (p + j) : Int) = ((keyAt B p (j + 1) : Nat) : Int) := by
     have := bits_or_u32 (2 * keyAt B p j) (bitAt B (p + j)) (by omega) (by omega)
     rw [or_two _ _ hbt] at this
     rw [Int.mul_comm]
     exact this
    have hDk := hD (keyAt B p (j + 1))
    obtain ⟨K1, hK1⟩ : ∃ K1, K1 = keyAt B p (j + 1) := ⟨_, rfl⟩
    have hres := unhide HRES
    rw [← hK1] at hor hkl1 hDk hres
    have HK1 := hide hK1
    have hlit : (Lit.int IntKind.u32 (K1 : Int)).wf = true := WalkArith.wf_u32 (by omega)
    clear HRES
    cases hM : D.tab K1 with
    | none =>
     rw [hM] at hres
     have hnone := hDk.2 hM
     have HRES := hide hres
     clear hK1 hD hDk hres hM
     have tok : True := trivial
     go_wp2_with (first | (at_lookup; refine wpList_lookup_own_ok_int _ rfl _ _ 121 rfl 198 3 .i64 keyLaw Tryz.underlying121 Tryz.underlying3 (zeroInt _) mb n DD rfl hown _ (.int .u32 (K1 : Int)) rfl (keyOf_int_mk Tryz.underlying198 hlit) ?_; intro c hat hwc; clear hat hwc))
     go_roundw
     case rel => exact ⟨j + 1, by omega, by go_num, by rw [unhide HK1], by omega, unhide HRES, hfed12⟩
     case measure => simp [intOf]; omega
    | some s =>
     rw [hM] at hres
     have hyes := hDk.1 s hM
     obtain ⟨hhas, hatk⟩ := hyes
     have HAT := hide hatk
     have HRES := hide hres
     clear hK1 hD hDk hatk hres hM
     go_wp2_with (first | (at_lookup; refine wpList_lookup_own_ok_int _ rfl _ _ 121 rfl 198 3 .i64 keyLaw Tryz.underlying121 Tryz.underlying3 (zeroInt _) mb n DD rfl hown _ (.int .u32 (K1 : Int)) rfl (keyOf_int_mk Tryz.underlying198 hlit) ?_; intro c hat hwc; have hcs : c = (s : Int) := (by have h3 := hat.symm.trans (unhide HAT); simpa using h3); clear hat hwc))
     go_ret2
     rw [← unhide HRES]
     exact ⟨rfl, (unhide HFA).trans hfed12⟩
   ·rw [if_neg hthere] at hres
    have HRES := hide hres
    clear hres
    go_wp2_with fail
    refine (feedBit_miss f B.length cap (p + j) (fedA g off B.length) wr (hfed.feed _ _ _ _ (unhide HF1)) hm (by omega) (by omega)).mono ?_
    rintro e w2 ⟨rfl, m, rfl⟩
    have hfin : Fed f w (wr.drewN m) (p + j) := (unhide HFA).trans ⟨hfed.step.drewN m, fun s x z' t hx => hfed.feed s x z' t hx⟩
    have HFIN := hide hfin
    clear hfin hfed
    go_wp2_with fail
    rw [← unhide HRES]
    exact ⟨rfl, rfl, _, unhide HFIN⟩
  ·have : j = longest := by omega
   subst this
   rw [Nat.sub_self, rSymF] at hres
   have HRES := hide hres
   have hfin := hide ((unhide HFA).trans hfed)
   clear hres hfed
   go_wp2_with fail
   go_ret2
   rw [← unhide HRES]
   exact ⟨rfl, _, unhide hfin⟩
end Go.Proofs.YtbpahojchgpdnaaGreatDoor
namespace Go.Proofs.YtbpahojchgpdnaaGreatDoor
open Go.RowKit Go.Bel Go.Maps
def LP (r : R (Nat × Nat)) (f : Nat) (w : World) (e : Ending) (w' : World) : Prop :=
 match r with
 | .ok lt q => e = .returned (.tuple #[nat lt.1, nat lt.2]) ∧ Fed f w w' q
 | .no _ => False
 | .miss => e = lost ∧ ∃ q, Fed f w w' q
theorem fed_drew {f p : Nat} {w w1 : World} (h : Fed f w.drew w1 p) : Fed f w w1 p := ⟨(Step.refl (· = f) w).drew.trans h.step, fun s x z' t hx => h.feed s x z' t hx⟩
theorem readTimes_ok (f g off cap z q a l k : Nat) (B : List Nat) (w : World)
  (hF : w.heap[f]? = some (.cells #[.slice (fedA g off B.length) B.length cap, .int .i64 (q : Nat), .int .i64 (z : Nat)] 91 (0, 0))) (hS : Src w g off B) (hgf : g ≠ f) (hk : k ≤ 20) (hl : l ≤ 100) (hthere : q + k ≤ 8 * B.length) :
  Calls Tryz.prog 224 #[.agg #[nat a, nat l, nat k], .pointer (some ⟨f, 0, none⟩)] w fun e w' => e = .returned (nat (l + numAt B q k)) ∧ Fed f w w' (q + k) := by
 have hfa := Fed.alloc0 hF (.cells #[nat a, nat l, nat k] 258)
 have hnum := feedNum_ok f g off cap z q k B (w.alloc (.cells #[nat a, nat l, nat k] 258)).drew (hfa.feed _ _ _ _ hF) ((hS.step hfa.step hgf).step ((Step.refl (fun _ => False) _).drew) (fun x => x)) hgf (by omega) hthere
 have hnl := numAt_lt B q k
 have hp : 2 ^ k ≤ 2 ^ 20 := Nat.pow_le_pow_right (by omega) hk
 obtain ⟨m, hm⟩ : ∃ m, m = numAt B q k := ⟨_, rfl⟩
 rw [← hm] at hnum hnl ⊢
 have hsum : IntKind.i64.wrap ((l : Int) + (m : Int)) = ((l + m : Nat) : Int) := by rw [IntKind.wrap_i64]; omega
 have hflt := lt_of_block hF
 have HN := hide hnum
 have HFA := hide hfa
 clear hnum hF hS hm hfa hnl hp
 go_enter Tryz.func224, Tryz.ntmps224
 go_wp2_with fail
 have hb1 : (w.alloc (.cells #[nat a, nat l, nat k] 258)).heap[w.heap.size]? = some (.cells #[nat a, nat l, nat k] 258 (0, 0)) := heap_alloc_new _ _
 generalize w.alloc (.cells #[nat a, nat l, nat k] 258) = w1 at *
 have c1 := (show w1.cell? ⟨w.heap.size, 1, none⟩ = some (nat l) from blk_cell hb1 1 _ rfl)
 have c2 := (show w1.cell? ⟨w.heap.size, 2, none⟩ = some (nat k) from blk_cell hb1 2 _ rfl)
 clear hb1
 have hne : ¬ (w.heap.size = f) := by omega
 go_region_held3 (fun w' => w'.cell? ⟨w.heap.size, 1, none⟩ = some (nat l) ∧ w'.cell? ⟨w.heap.size, 2, none⟩ = some (nat k)) (go_keep)
  (first | (go_at_call 119; refine (unhide HN).mono ?_; rintro e w2 ⟨rfl, hf2⟩; have k1 := hf2.step.cell (p := ⟨w.heap.size, 1, none⟩) c1 hne; have k2 := hf2.step.cell (p := ⟨w.heap.size, 2, none⟩) c2 hne))
 all_goals
  go_wp2_with fail
  go_ret
  exact ⟨rfl, (unhide HFA).trans (fed_drew hf2)⟩
theorem readTimes_miss (f g off cap z q a l k : Nat) (B : List Nat) (w : World)
  (hF : w.heap[f]? = some (.cells #[.slice (fedA g off B.length) B.length cap, .int .i64 (q : Nat), .int .i64 (z : Nat)] 91 (0, 0))) (hS : Src w g off B) (hgf : g ≠ f) (hq : q ≤ 8 * B.length) (hk : k ≤ 20) (hthere : 8 * B.length < q + k) :
  Calls Tryz.prog 224 #[.agg #[nat a, nat l, nat k], .pointer (some ⟨f, 0, none⟩)] w fun e w' => e = lost ∧ ∃ q', Fed f w w' q' := by
 have hfa := Fed.alloc0 hF (.cells #[nat a, nat l, nat k] 258)
 have hnum := feedNum_miss f g off cap z q k B (w.alloc (.cells #[nat a, nat l, nat k] 258)).drew (hfa.feed _ _ _ _ hF) ((hS.step hfa.step hgf).step ((Step.refl (fun _ => False) _).drew) (fun x => x)) hgf (by omega) hq hthere
 have HN := hide hnum
 have HFA := hide hfa
 clear hnum hF hS hfa
 go_enter Tryz.func224, Tryz.ntmps224
 go_wp2_with fail
 have hb1 : (w.alloc (.cells #[nat a, nat l, nat k] 258)).heap[w.heap.size]? = some (.cells #[nat a, nat l, nat k] 258 (0, 0)) := heap_alloc_new _ _
 generalize w.alloc (.cells #[nat a, nat l, nat k] 258) = w1 at *
 have c1 := (show w1.cell? ⟨w.heap.size, 1, none⟩ = some (nat l) from blk_cell hb1 1 _ rfl)
 have c2 := (show w1.cell? ⟨w.heap.size, 2, none⟩ = some (nat k) from blk_cell hb1 2 _ rfl)
 clear hb1
 go_region_dies
 all_goals
  refine (unhide HN).mono ?_
  rintro e w2 ⟨rfl, hf2⟩
  exact ⟨rfl, rfl, _, (unhide HFA).trans (fed_drew hf2)⟩
theorem readLengths_any (f g off cap z q s RB n : Nat) (row B : List Nat) (w : World)
  (hF : w.heap[f]? = some (.cells #[.slice (fedA g off B.length) B.length cap, .int .i64 (q : Nat), .int .i64 (z : Nat)] 91 (0, 0))) (hS : Src w g off B) (hgf : g ≠ f) (hq : q ≤ 8 * B.length)
  (hrow : s = 16 → 0 < row.length ∧ row.length ≤ 400 ∧ w.cell? ⟨RB, row.length - 1, none⟩ = some (nat (row[row.length - 1]?.getD 0))) (hRf : RB ≠ f) (hs19 : s < 19) (hO : OrderAt w) (h4f : 4 ≤ f) :
  Calls Tryz.prog 219 #[.pointer (some ⟨f, 0, none⟩), .int .i64 (s : Nat), .slice (some ⟨RB, 0, none⟩) row.length n] w fun e w' => LP (rLens B q s row) f w e w' := by
 have hm := hS.much
 have HF := hide hF
 obtain ⟨m0, m1, m2⟩ := hO.many
 obtain ⟨n0, n1, n2⟩ := hO.few
 obtain ⟨a0, a1, a2⟩ := hO.again
 clear hO
 by_cases h16 : s < 16
 ·have hr : rLens B q s row = .ok (s, 1) q := by unfold rLens; rw [if_pos h16]
  have hne1 : ((s : Int) == 16) = false := beq_eq_false_iff_ne.2 (by omega)
  have hne2 : ((s : Int) == 17) = false := beq_eq_false_iff_ne.2 (by omega)
  have hne3 : ((s : Int) == 18) = false := beq_eq_false_iff_ne.2 (by omega)
  have HR := hide hr
  have HFIN := hide (Fed.refl hF)
  clear hr hrow hF
  go_enter Tryz.func219, Tryz.ntmps219
  go_wp2_with fail
  go_ret2
  rw [unhide HR]
  exact ⟨rfl, unhide HFIN⟩
 ·by_cases he : s = 16
  ·subst he
   obtain ⟨h0, h4, hc⟩ := hrow rfl
   obtain ⟨x, hx⟩ : ∃ x, x = row[row.length - 1]?.getD 0 := ⟨_, rfl⟩
   have e1 : ((row.length : Int) - 1) = ((row.length - 1 : Nat) : Int) := by omega
   rw [← hx] at hc
   obtain ⟨k, hk⟩ : ∃ k, k = row.length - 1 := ⟨_, rfl⟩
   obtain ⟨l, hl⟩ : ∃ l, l = row.length := ⟨_, rfl⟩
   by_cases hthere : q + 2 ≤ 8 * B.length
   ·have hr : rLens B q 16 row = .ok (x, numAt B q 2 + 3) (q + 2) := by unfold rLens; rw [if_neg (by omega), if_pos rfl, if_pos hthere, hx]
    have hnum := readTimes_ok f g off cap z q 16 3 2 B w.drew hF (hS.step ((Step.refl (fun _ => False) w).drew) (fun x => x)) hgf (by omega) (by omega) hthere
    have HN := hide hnum
    have HR := hide hr
    rw [← hk] at e1 hc
    rw [← hl] at e1 h4 ⊢
    have hwr : IntKind.i64.wrap ((l : Int) - 1) = (k : Int) := by rw [IntKind.wrap_i64]; omega
    have hk0 : (0 : Int) ≤ (k : Int) := by omega
    have hkl : (k : Int) < (l : Int) := by omega
    have hf3 : ¬ (3 = f) := by omega
    clear hr hrow hF hx hnum hk hl h0 e1
    go_enter Tryz.func219, Tryz.ntmps219
    go_wp2_with fail
    go_region_held3 (fun w' => w'.cell? ⟨RB, k, none⟩ = some (nat x) ∧ w'.cell? ⟨3, 0, none⟩ = some (.int .i64 16) ∧ w'.cell? ⟨3, 1, none⟩ = some (.int .i64 3) ∧ w'.cell? ⟨3, 2, none⟩ = some (.int .i64 2)) (go_keep)
     (first | (go_at_call 224; refine (unhide HN).mono ?_; rintro e w2 ⟨rfl, hf2⟩; have k1 := hf2.step.cell (p := ⟨RB, k, none⟩) hc hRf; have k2 := hf2.step.cell (p := ⟨3, 0, none⟩) a0 hf3; have k3 := hf2.step.cell (p := ⟨3, 1, none⟩) a1 hf3; have k4 := hf2.step.cell (p := ⟨3, 2, none⟩) a2 hf3))
    all_goals
     go_wp2_with fail
     go_ret2
     rw [unhide HR, Nat.add_comm]
     exact ⟨rfl, fed_drew hf2⟩
   ·have hr : rLens B q 16 row = .miss := by unfold rLens; rw [if_neg (by omega), if_pos rfl, if_neg hthere]
    have hnum := readTimes_miss f g off cap z q 16 3 2 B w.drew hF (hS.step ((Step.refl (fun _ => False) w).drew) (fun x => x)) hgf hq (by omega) (by omega)
    have HN := hide hnum
    have HR := hide hr
    rw [← hk] at e1 hc
    rw [← hl] at e1 h4 ⊢
    have hwr : IntKind.i64.wrap ((l : Int) - 1) = (k : Int) := by rw [IntKind.wrap_i64]; omega
    have hk0 : (0 : Int) ≤ (k : Int) := by omega
    have hkl : (k : Int) < (l : Int) := by omega
    clear hr hrow hF hx hnum hk hl h0 e1
    go_enter Tryz.func219, Tryz.ntmps219
    go_wp2_with fail
    go_region_dies
    all_goals
     refine (unhide HN).mono ?_
     rintro e w2 ⟨rfl, q', hf2⟩
     refine ⟨rfl, ?_⟩
     rw [unhide HR]
     exact ⟨rfl, _, fed_drew hf2⟩
  ·by_cases h17 : s = 17
   ·subst h17
    by_cases hthere : q + 3 ≤ 8 * B.length
    ·have hr : rLens B q 17 row = .ok (0, numAt B q 3 + 3) (q + 3) := by unfold rLens; rw [if_neg (by omega), if_neg (by omega), if_pos rfl, if_pos hthere]
     have HR := hide hr
     clear hr hrow hF
     go_enter Tryz.func219, Tryz.ntmps219
     go_wp2_with fail
     refine (readTimes_ok f g off cap z q 17 3 3 B w (unhide HF) hS hgf (by omega) (by omega) hthere).mono ?_
     rintro e w1 ⟨rfl, hf1⟩
     go_wp2_with fail
     go_ret2
     rw [unhide HR, Nat.add_comm]
     exact ⟨rfl, hf1⟩
    ·have hr : rLens B q 17 row = .miss := by unfold rLens; rw [if_neg (by omega), if_neg (by omega), if_pos rfl, if_neg hthere]
     have HR := hide hr
     clear hr hrow hF
     go_enter Tryz.func219, Tryz.ntmps219
     go_wp2_with fail
     refine (readTimes_miss f g off cap z q 17 3 3 B w (unhide HF) hS hgf hq (by omega) (by omega)).mono ?_
     rintro e w1 ⟨rfl, q', hf1⟩
     go_wp2_with fail
     rw [unhide HR]
     exact ⟨rfl, rfl, _, hf1⟩
   ·have h18 : s = 18 := by omega
    subst h18
    by_cases hthere : q + 7 ≤ 8 * B.length
    ·have hr : rLens B q 18 row = .ok (0, numAt B q 7 + 11) (q + 7) := by unfold rLens; rw [if_neg h16, if_neg he, if_neg h17, if_pos hthere]
     have HR := hide hr
     clear hr hrow hF
     go_enter Tryz.func219, Tryz.ntmps219
     go_wp2_with fail
     refine (readTimes_ok f g off cap z q 18 11 7 B w (unhide HF) hS hgf (by omega) (by omega) hthere).mono ?_
     rintro e w1 ⟨rfl, hf1⟩
     go_wp2_with fail
     go_ret2
     rw [unhide HR, Nat.add_comm]
     exact ⟨rfl, hf1⟩
    ·have hr : rLens B q 18 row = .miss := by unfold rLens; rw [if_neg h16, if_neg he, if_neg h17, if_neg hthere]
     have HR := hide hr
     clear hr hrow hF
     go_enter Tryz.func219, Tryz.ntmps219
     go_wp2_with fail
     refine (readTimes_miss f g off cap z q 18 11 7 B w (unhide HF) hS hgf hq (by omega) (by omega)).mono ?_
     rintro e w1 ⟨rfl, q', hf1⟩
     go_wp2_with fail
     rw [unhide HR]
     exact ⟨rfl, rfl, _, hf1⟩
end Go.Proofs.YtbpahojchgpdnaaGreatDoor
namespace Go.Proofs.YtbpahojchgpdnaaGreatDoor
open Go.RowKit Go.Bel Go.Maps
structure RowIs (w wr : World) (f R n p mb longest : Nat) (row : List Nat) : Prop where
 own : wr.ownsRow (R + 1) 3 1 (.slice (some ⟨R + 1, 0, none⟩) row.length n) row.length (i64s row)
 fed : Fed f w wr p
 box : wr.heap[R]? = some (.cells #[.map (some mb), .int .i64 (longest : Nat)] 123 (0, 0))
theorem RowIs.fed' {w wr w2 : World} {f R n p p2 mb longest : Nat} {row : List Nat} (h : RowIs w wr f R n p mb longest row) (hf : Fed f wr w2 p2) (hRf : ¬ R = f) (hf1 : f < R + 1) : RowIs w w2 f R n p2 mb longest row :=
 ⟨ownsRow_of_block h.own (fun j hj => hf.step.block j (h.own.lt j hj).2 (fun x => by have := (h.own.lt j hj).1; omega)), h.fed.trans hf, hf.step.at_ h.box hRf⟩
theorem RowIs.last {w wr : World} {f R n p mb longest : Nat} {row : List Nat} (h : RowIs w wr f R n p mb longest row) (h0 : 0 < row.length) : wr.cell? ⟨R + 1, row.length - 1, none⟩ = some (nat (row[row.length - 1]?.getD 0)) := by
 have h9 := h.own.cellAt (row.length - 1) (by omega)
 rw [h9]
 simp [List.getElem?_eq_getElem (show row.length - 1 < row.length by omega)]
def RowP (r : R (List Nat)) (n f : Nat) (w : World) (e : Ending) (w' : World) : Prop :=
 match r with
 | .ok row q => row.length = n ∧ ∃ RB, e = .returned (.tuple #[.slice (some ⟨RB, 0, none⟩) n n, .int .i64 0]) ∧ w.heap.size ≤ RB ∧ Ints w' RB 0 row ∧ Fed f w w' q
 | .no x => e = .returned (.tuple #[.slice none 0 0, .int .i64 (x : Nat)]) ∧ ∃ q, Fed f w w' q
 | .miss => e = lost ∧ ∃ q, Fed f w w' q
theorem rSymF_no (D : Dealt) (B : List Nat) (p : Nat) : ∀ r j e, rSymF D B p r j = .no e → e = 9 := by
 intro r
 induction r with
 | zero => intro j e h; simp only [rSymF, R.no.injEq] at h; exact h.symm
 | succ r ih =>
  intro j e h
  rw [rSymF] at h
  split at h
  ·split at h
   ·simp at h
   ·exact ih _ _ h
  ·simp at h
theorem rSym_no {D : Dealt} {B : List Nat} {p e : Nat} (h : rSym D B p = .no e) : e = 9 := rSymF_no D B p _ _ _ h
theorem rLens_no {B : List Nat} {q s e : Nat} {row : List Nat} (h : rLens B q s row = .no e) : False := by
 unfold rLens at h
 split at h
 ·simp at h
 ·split at h
  ·split at h <;> simp at h
  ·split at h <;> split at h <;> simp at h
theorem rLens_le {B : List Nat} {q s : Nat} {row : List Nat} {lt : Nat × Nat} {q' : Nat} (h : rLens B q s row = .ok lt q') (hrow : ∀ i : Nat, row[i]?.getD 0 ≤ 15) : lt.1 ≤ 15 ∧ lt.2 ≤ 138 := by
 unfold rLens at h
 split at h
 ·simp only [R.ok.injEq] at h; obtain ⟨rfl, rfl⟩ := h; exact ⟨by dsimp only; omega, by simp⟩
 ·split at h
  ·split at h
   ·have := numAt_lt B q 2
    simp only [R.ok.injEq] at h; obtain ⟨rfl, rfl⟩ := h; exact ⟨hrow _, by dsimp only; omega⟩
   ·simp at h
  ·split at h
   ·split at h
    ·have := numAt_lt B q 3
     simp only [R.ok.injEq] at h; obtain ⟨rfl, rfl⟩ := h; exact ⟨by simp, by dsimp only; omega⟩
    ·simp at h
   ·split at h
    ·have := numAt_lt B q 7
     simp only [R.ok.injEq] at h; obtain ⟨rfl, rfl⟩ := h; exact ⟨by simp, by dsimp only; omega⟩
    ·simp at h
theorem getD_append_rep (row : List Nat) (t l : Nat) (hrow : ∀ i : Nat, row[i]?.getD 0 ≤ 15) (hl : l ≤ 15) : ∀ i : Nat, (row ++ List.replicate t l)[i]?.getD 0 ≤ 15 := by
 intro i
 by_cases hi : i < row.length
 ·rw [List.getElem?_append_left hi]; exact hrow i
 ·rw [List.getElem?_append_right (by omega)]
  by_cases h2 : i - row.length < t
  ·simp [h2, hl]
  ·rw [List.getElem?_eq_none (by simp; omega)]; simp
theorem readRow_any (f g off cap z n mb p : Nat) (D : Dealt) (B : List Nat) (w : World)
  (hF : w.heap[f]? = some (.cells #[.slice (fedA g off B.length) B.length cap, .int .i64 (p : Nat), .int .i64 (z : Nat)] 91 (0, 0))) (hS : Src w g off B) (hgf : g ≠ f) (hT : TabAt w mb D.tab) (hmf : mb ≠ f) (hl : D.longest ≤ 15) (hp : p ≤ 8 * B.length)
  (hn4 : n ≤ 400) (hsy : ∀ c s, D.tab c = some s → s < 19) (hO : OrderAt w) (h4f : 4 ≤ f) :
  Calls Tryz.prog 213 #[.pointer (some ⟨f, 0, none⟩), .agg #[.map (some mb), .int .i64 (D.longest : Nat)], .int .i64 (n : Nat)] w
   fun e w' => RowP (rRow D B n p) n f w e w' := by
 obtain ⟨i0, hi, hz0, hz1, hz2⟩ := info_parts Tryz.info3
 have HF := hide hF
 have hflt := lt_of_block hF
 obtain ⟨res, hre⟩ : ∃ r, r = rRow D B n p := ⟨_, rfl⟩
 have HRE := hide (show rRowF D B n n p [] = res by rw [hre]; rfl)
 have HSY := hide hsy
 rw [← hre]
 clear hF hre hsy
 go_enter Tryz.func213, Tryz.ntmps213
 go_wp2_with (at_make; refine wpList_make_own _ rfl _ _ 57 rfl (w.heap.size + 1) 3 i0 (.int .i64 0) 1 Tryz.underlying57 hi hz0 hz1 .i64 .i64 _ n rfl rfl rfl (by rw [hz2]; omega) (by unfold maxLen; omega) (by simp) ?_; intro w1 hown1 hgr1)
 obtain ⟨R, hR⟩ : ∃ R, R = w.heap.size := ⟨_, rfl⟩
 have hown1' : w1.ownsRow (R + 1) 3 1 (.slice (some ⟨R + 1, 0, none⟩) 0 n) 0 (i64s []) := by
  rw [hR]; simpa using hown1
 have h0 : RowIs w w1 f R n p mb D.longest [] := by
  refine ⟨hown1', ?_, ?_⟩
  ·have h1 := Fed.alloc0 (unhide HF) (.cells #[.map (some mb), .int .i64 (D.longest : Nat)] 123)
   refine ⟨h1.step.grown hgr1 (fun k hk => by cases hk), fun s x z' t hx => ?_⟩
   exact (hgr1.block f (by simp; omega) (by simp)).trans (h1.feed s x z' t hx)
  ·rw [hR]; exact (hgr1.block _ (by simp) (by simp)).trans (heap_alloc_new _ _)
 have hRf : ¬ R = f := by omega
 have hRf1 : R + 1 ≠ f := by omega
 have hfR : f < R := by omega
 have hRw : w.heap.size ≤ R := by omega
 have hmR : mb < R + 1 := by have := hT.lt; omega
 have hmR2 : mb ≠ R := by have := hT.lt; omega
 rw [← hR]
 clear hown1 hown1' hgr1 hR
 go_loopw [8] (fun v wr => ∃ (row : List Nat) (k p : Nat), row.length ≤ n ∧ n ≤ row.length + k ∧ p ≤ 8 * B.length ∧ (∀ i : Nat, row[i]?.getD 0 ≤ 15) ∧ rRowF D B n k p row = res ∧ v = .slice (some ⟨R + 1, 0, none⟩) row.length n ∧ RowIs w wr f R n p mb D.longest row) (fun v _ => n - lenOfV v)
 case atStart => exact ⟨[], n, p, by simp, by simp, hp, by simp, unhide HRE, rfl, h0⟩
 case round =>
  clear h0 HRE
  obtain ⟨row, k, q, hk, hkn, hq, h15, hres, rfl, hrel⟩ := hrel
  have H15 := hide h15
  clear h15
  by_cases hlt : row.length < n
  ·obtain ⟨k, rfl⟩ : ∃ j, k = j + 1 := ⟨k - 1, by omega⟩
   rw [rRowF, if_neg (by omega)] at hres
   obtain ⟨b0, b1, _, _⟩ := blk_two hrel.box
   have hrd := read_any f g off cap z q mb D B wr (hrel.fed.feed _ _ _ _ (unhide HF)) (hS.step hrel.fed.step hgf) hgf (hT.step hrel.fed.step hmf) hmf hl hq
   have HREL := hide hrel
   obtain ⟨len, hlen⟩ : ∃ l, l = row.length := ⟨_, rfl⟩
   rw [← hlen] at hk hlt ⊢
   have HLEN := hide hlen
   clear hrel hlen
   cases hs : rSym D B q with
   | no x =>
    have hx := rSym_no hs
    subst hx
    rw [hs] at hrd hres
    have HRD := hide hrd
    have HRES := hide hres
    clear hrd hres hs
    go_wp2_with fail
    refine (unhide HRD).mono ?_
    rintro e w2 ⟨rfl, q2, hfed2⟩
    have HFIN := hide ((unhide HREL).fed.trans hfed2)
    clear hfed2
    go_wp2_with fail
    go_ret2
    rw [← unhide HRES]
    exact ⟨rfl, _, unhide HFIN⟩
   | miss =>
    rw [hs] at hrd hres
    have HRD := hide hrd
    have HRES := hide hres
    clear hrd hres hs
    go_wp2_with fail
    refine (unhide HRD).mono ?_
    rintro e w2 ⟨rfl, q2, hfed2⟩
    have HFIN := hide ((unhide HREL).fed.trans hfed2)
    clear hfed2
    go_wp2_with fail
    rw [← unhide HRES]
    exact ⟨rfl, rfl, _, unhide HFIN⟩
   | ok s q1 =>
    have hso := rSym_ok hs
    rw [hs] at hrd hres
    have hs19 := unhide HSY _ _ hso.2.2.2
    have hq1 : q1 ≤ 8 * B.length := hso.2.1
    have HRD := hide hrd
    have HRES := hide hres
    clear hrd hres hs hso
    go_wp2_with fail
    refine (unhide HRD).mono ?_
    rintro e w2 ⟨rfl, hfed2⟩
    have hrel2 : RowIs w w2 f R n q1 mb D.longest row := (unhide HREL).fed' hfed2 hRf (by omega)
    have hO2 := hO.step hrel2.fed.step (fun k hk x => by omega)
    have ga := hO2.again.1
    have HO2 := hide hO2
    clear hO2
    have HREL2 := hide hrel2
    clear hfed2 HREL HRD
    by_cases h16 : s = 16 ∧ len = 0
    ·obtain ⟨hs16, hl0⟩ := h16
     subst hs16
     subst hl0
     have HFIN := hide hrel2.fed
     clear hrel2
     go_wp2_with fail
     go_ret2
     have hres := unhide HRES
     rw [if_pos (by rw [← unhide HLEN]; simp)] at hres
     rw [← hres]
     exact ⟨rfl, _, unhide HFIN⟩
    ·have hres := unhide HRES
     rw [if_neg (by rw [← unhide HLEN]; exact h16)] at hres
     have hll := readLengths_any f g off cap z q1 s (R + 1) n row B w2 (hrel2.fed.feed _ _ _ _ (unhide HF)) (hS.step hrel2.fed.step hgf) hgf hq1 (fun h => by
      have hl0 : 0 < row.length := by have := unhide HLEN; omega
      exact ⟨hl0, by have := unhide HLEN; omega, hrel2.last hl0⟩) hRf1 hs19 (unhide HO2) h4f
     rw [← unhide HLEN] at hll
     clear hrel2 HRES
     have hcond : ((s : Int) == 16) = false ∨ (((s : Int) == 16) = true ∧ ((len : Int) == 0) = false) := by
      by_cases e16 : s = 16
      ·exact .inr ⟨beq_iff_eq.2 (by omega), beq_eq_false_iff_ne.2 (by omega)⟩
      ·exact .inl (beq_eq_false_iff_ne.2 (by omega))
     clear h16
     rcases hcond with hsb | ⟨hsb, hlb⟩
     all_goals
      cases hle : rLens B q1 s row with
      | no x => exact (rLens_no hle).elim
      | miss =>
       rw [hle] at hll hres
       have HLL := hide hll
       have HRES := hide hres
       clear hll hres hle
       go_wp2_with fail
       refine (unhide HLL).mono ?_
       rintro e w3 ⟨rfl, q3, hfed3⟩
       have HFIN := hide ((unhide HREL2).fed.trans hfed3)
       clear hfed3
       go_wp2_with fail
       rw [← unhide HRES]
       exact ⟨rfl, rfl, _, unhide HFIN⟩
      | ok lt q2 =>
       have hlo := rLens_ok hle hq1
       have hl15 := rLens_le hle (unhide H15)
       rw [hle] at hll hres
       have HLL := hide hll
       have HRES := hide hres
       clear hll hres hle
       obtain ⟨l, t⟩ := lt
       dsimp only at hlo hl15
       go_wp2_with fail
       refine (unhide HLL).mono ?_
       rintro e w3 ⟨rfl, hfed3⟩
       dsimp only
       have hrel3 : RowIs w w3 f R n q2 mb D.longest row := (unhide HREL2).fed' hfed3 hRf (by omega)
       have hres := unhide HRES
       clear HREL2 hfed3 HRES HLL
       by_cases hbig : n < len + t
       ·rw [if_pos (by rw [← unhide HLEN]; exact hbig)] at hres
        have HRES := hide hres
        have HFIN := hide hrel3.fed
        clear hres hrel3
        go_wp2_with fail
        go_ret2
        rw [← unhide HRES]
        exact ⟨rfl, _, unhide HFIN⟩
       ·rw [if_neg (by rw [← unhide HLEN]; exact hbig)] at hres
        have HRES := hide hres
        have HREL3 := hide hrel3
        clear hres hrel3
        go_wp2_with fail
        go_loopw [8, 51] (fun v i wr => ∃ j : Nat, j ≤ t ∧ i = .int .i64 (j : Nat) ∧ v = .slice (some ⟨R + 1, 0, none⟩) (len + j) n ∧ RowIs w wr f R n q2 mb D.longest (row ++ List.replicate j l)) (fun _ i _ => t - (intOf i).toNat)
        case atStart => exact ⟨0, by omega, rfl, rfl, by simpa using unhide HREL3⟩
        case round =>
         clear HREL3
         obtain ⟨j, hj, rfl, rfl, hrel⟩ := hrel
         have HREL := hide hrel
         have elen : (row ++ List.replicate j l).length = len + j := by simp [unhide HLEN]
         by_cases hjt : j < t
         ·have hown := hrel.own
          rw [elen] at hown
          have HO := hide hown
          have HEL := hide elen
          clear hrel hown elen
          go_wp2_with (at_builtin; refine wpList_append_fits _ rfl _ _ 57 rfl (R + 1) 3 i0 1 Tryz.underlying57 hi hz1 (R + 1) (len + j) n (i64s (row ++ List.replicate j l)) rfl ((unhide HO).alloc _) ⟨wr.heap.size, 0, none⟩ 1 1 [.int .i64 (l : Nat)] rfl rfl ?d1 ?d2 (by omega) ?_)
          case d1 =>
           intro j u hj
           match j, hj with
           | 0, hj => simp at hj; subst hj; simp [Addr.add]
          case d2 => intro u hu; simp at hu; subst hu; rfl
          intro w4 hown4 hgr4
          have hrel4 : RowIs w w4 f R n q2 mb D.longest (row ++ List.replicate (j + 1) l) := by
           have hw := (unhide HREL)
           have e1 : row ++ List.replicate (j + 1) l = (row ++ List.replicate j l) ++ [l] := by rw [List.append_assoc, ← List.replicate_succ']
           refine ⟨?_, ⟨(hw.fed.step.alloc _).grown hgr4 (fun j hj => .inr (by simp at hj; omega)), fun s x z' t hx => ?_⟩, ?_⟩
           ·have e2 : i64s (row ++ List.replicate (j + 1) l) = List.map (fun c => Value.int IntKind.i64 (c : Nat)) row ++ (List.replicate j (Value.int .i64 (l : Nat)) ++ [Value.int .i64 (l : Nat)]) := by simp [i64s, List.replicate_succ']
            have e3 : (row ++ List.replicate (j + 1) l).length = len + j + 1 := by rw [e1, List.length_append, unhide HEL]; rfl
            rw [e2, e3]
            exact hown4
           ·have h1 := hw.fed.feed s x z' t hx
            exact (hgr4.block f (by have := lt_of_block h1; simp; omega) (by simp; omega)).trans ((Below.heap_alloc _ _ _ (lt_of_block h1)).trans h1)
           ·exact (hgr4.block R (by have := lt_of_block hw.box; simp; omega) (by simp)).trans ((Below.heap_alloc _ _ _ (lt_of_block hw.box)).trans hw.box)
          have H4 := hide hrel4
          clear hown4 hgr4 hrel4
          go_wp2_with fail
          go_roundw
          case rel => exact ⟨j + 1, by omega, by go_num, by rw [Nat.add_assoc], unhide H4⟩
          case measure => simp [intOf]; omega
         ·have hjt2 : j = t := by omega
          subst hjt2
          have HEL := hide elen
          clear hrel elen
          go_wp2_with fail
          go_roundw
          case rel => exact ⟨row ++ List.replicate j l, k, q2, by rw [unhide HEL]; omega, by rw [unhide HEL]; have := unhide HLEN; omega, hlo.2.1, getD_append_rep row j l (unhide H15) hl15.1, unhide HRES, by rw [unhide HEL], unhide HREL⟩
          case measure => simp [lenOfV]; omega
  ·have hlen : row.length = n := by omega
   have hr2 : res = .ok row q := by
    rw [← hres]
    cases k with
    | zero => rfl
    | succ k => rw [rRowF, if_pos (by omega)]
   have HRES := hide hr2
   have HREL := hide hrel
   have HLEN := hide hlen
   rw [hlen]
   clear hrel hres hr2 hlen hk hkn hlt
   go_wp2_with fail
   go_ret2
   rw [unhide HRES]
   refine ⟨unhide HLEN, R + 1, rfl, by omega, ⟨fun i hi' => ?_, unhide H15, by have := unhide HLEN; omega⟩, (unhide HREL).fed⟩
   have h9 := (unhide HREL).own.cellAt i (by omega)
   rw [Nat.zero_add, h9]
   simp [List.getElem?_eq_getElem hi']
end Go.Proofs.YtbpahojchgpdnaaGreatDoor
namespace Go.Proofs.YtbpahojchgpdnaaGreatDoor
open Go.RowKit Go.Bel Go.Maps
def TabP (L : List Nat) (q f : Nat) (w : World) (e : Ending) (w' : World) : Prop :=
 if mayB L = true then ∃ mb, e = .returned (.tuple #[.agg #[.map (some mb), .int .i64 ((dealAll L).longest : Nat)], .int .i64 0]) ∧ w.heap.size ≤ mb ∧ TabAt w' mb (dealAll L).tab ∧ Fed f w w' q
 else e = .returned (.tuple #[.agg #[.map none, .int .i64 0], .int .i64 7]) ∧ ∃ q, Fed f w w' q
theorem readFirsts_any (f g off cap z p c : Nat) (B : List Nat) (w : World)
    (hF : w.heap[f]? = some (.cells #[.slice (fedA g off B.length) B.length cap, .int .i64 (p : Nat), .int .i64 (z : Nat)] 91 (0, 0))) (hS : Src w g off B) (hgf : g ≠ f) (hp : p ≤ 8 * B.length) (hc : c ≤ 19) (hO : OrderAt w) (h0f : 4 ≤ f) :
    Calls Tryz.prog 212 #[.pointer (some ⟨f, 0, none⟩), .int .i64 (c : Nat)] w
      fun e w' => (p + 3 * c ≤ 8 * B.length ∧ TabP (firstLens B p c) (p + 3 * c) f w e w') ∨ (8 * B.length < p + 3 * c ∧ e = lost ∧ ∃ q, Fed f w w' q) := by
  have HF := hide hF
  have hflt := lt_of_block hF
  clear hF
  go_enter Tryz.func212, Tryz.ntmps212
  go_wp2_with fail
  rw [zeroF]
  obtain ⟨R, hR⟩ : ∃ R, R = w.heap.size := ⟨_, rfl⟩
  have hra : RowAt ((w.alloc (.cells #[.map none, .int .i64 0] 123)).alloc (.cells (Array.replicate 19 (.int .i64 0)) 216)) (R + 1) 216 19 (fun i => .int .i64 (fsTo B p 0 i : Nat)) := by
    have := RowAt.born (w.alloc (.cells #[.map none, .int .i64 0] 123)) (A := Array.replicate 19 (.int .i64 0)) (n := 19) (f := fun i => .int .i64 (fsTo B p 0 i : Nat)) 216 (by simp) (fun i hi => by simp [hi, fsTo])
    rw [hR]; simpa using this
  have hrt : ((w.alloc (.cells #[.map none, .int .i64 0] 123)).alloc (.cells (Array.replicate 19 (.int .i64 0)) 216)).heap[R]? = some (.cells #[.map none, .int .i64 0] 123 (0, 0)) := by
    rw [hR]; exact (Below.heap_alloc _ _ _ (by simp)).trans (heap_alloc_new _ _)
  have hfd : Fed f w ((w.alloc (.cells #[.map none, .int .i64 0] 123)).alloc (.cells (Array.replicate 19 (.int .i64 0)) 216)) p := by
    have h1 := Fed.alloc0 (unhide HF) (.cells #[.map none, .int .i64 0] 123)
    exact h1.trans (Fed.alloc0 (h1.feed _ _ _ _ (unhide HF)) _)
  have hRf : ¬ R = f := by omega
  have hRf1 : ¬ R + 1 = f := by omega
  have hRw : w.heap.size ≤ R := by omega
  rw [← hR]
  generalize (w.alloc (.cells #[.map none, .int .i64 0] 123)).alloc (.cells (Array.replicate 19 (.int .i64 0)) 216) = w1 at *
  clear hR
  go_loopw [9] (fun i wr => ∃ k : Nat, k ≤ c ∧ p + 3 * k ≤ 8 * B.length ∧ i = .int .i64 (k : Nat) ∧ Fed f w wr (p + 3 * k) ∧ RowAt wr (R + 1) 216 19 (fun i => .int .i64 (fsTo B p k i : Nat)) ∧ wr.heap[R]? = some (.cells #[.map none, .int .i64 0] 123 (0, 0))) (fun i _ => c - (intOf i).toNat)
  case atStart => exact ⟨0, by omega, by omega, rfl, hfd, hra, hrt⟩
  case round =>
    clear hfd hra hrt
    obtain ⟨k, hk, hpk, rfl, hfed, hra, hrt⟩ := hrel
    by_cases hlt : k < c
    · have hO1 := hO.step hfed.step (fun k hk x => by omega)
      have hc1 := hO1.order k (by omega)
      have hol := order_lt k
      obtain ⟨q, hq⟩ : ∃ q, q = orderList[k]?.getD 0 := ⟨_, rfl⟩
      rw [← hq] at hc1 hol
      have hqi : ((q : Nat) : Int) < 19 := by omega
      have hki : ((k : Nat) : Int) < 19 := by omega
      have hk0 : (0 : Int) ≤ ((k : Nat) : Int) := by omega
      have hq0 : (0 : Int) ≤ ((q : Nat) : Int) := by omega
      have cq := hra.cell q hol
      have fq := hra.free q
      have HQ := hide hq
      by_cases hthere : p + 3 * k + 3 ≤ 8 * B.length
      · have hnum := feedNum_ok f g off cap z (p + 3 * k) 3 B wr.drew (hfed.feed _ _ _ _ (unhide HF)) ((hS.step hfed.step hgf).step ((Step.refl (fun _ => False) wr).drew) (fun x => x)) hgf (by omega) (by omega)
        have HNUM := hide hnum
        have HRA := hide hra
        have HRT := hide hrt
        have HFED := hide hfed
        clear hq hnum hra hrt hfed hO1
        go_wp2_with fail
        refine wp_region_noPanic ?_
        go_region_held3 (fun w' => w'.cell? ⟨0, k, none⟩ = some (.int .i64 (q : Nat))) (go_keep)
          (first | (go_at_call 119; refine (unhide HNUM).mono ?_; rintro e w2 ⟨rfl, hf2⟩; have k1 := hf2.step.cell (p := ⟨0, k, none⟩) hc1 (by show ¬ (0 = f); omega); have k2 := ((unhide HRA).drew.step hf2.step hRf1).cell q hol; have k3 := ((unhide HRA).drew.step hf2.step hRf1).free q))
        all_goals
          refine NoPanic.normal ?_
          have hr2 : RowAt (w2.setCell ⟨R + 1, q, none⟩ (.int .i64 (numAt B (p + 3 * k) 3 : Nat))) (R + 1) 216 19 (fun i => .int .i64 (fsTo B p (k + 1) i : Nat)) := by
            refine (((unhide HRA).drew.step hf2.step hRf1).set q (.int .i64 (numAt B (p + 3 * k) 3 : Nat))).congr fun i _ => ?_
            rw [fsTo, ← unhide HQ]
            by_cases hi : i = q <;> simp [hi]
          have ht2 : (w2.setCell ⟨R + 1, q, none⟩ (.int .i64 (numAt B (p + 3 * k) 3 : Nat))).heap[R]? = some (.cells #[.map none, .int .i64 0] 123 (0, 0)) :=
            (Below.heap_setCell _ _ _ _ (by simp)).trans (hf2.step.at_ (w := wr.drew) (unhide HRT) hRf)
          have hfd2 : Fed f w (w2.setCell ⟨R + 1, q, none⟩ (.int .i64 (numAt B (p + 3 * k) 3 : Nat))) (p + 3 * k + 3) := by
            have h1 : Fed f wr w2 (p + 3 * k + 3) := ⟨(Step.refl (· = f) wr).drew.trans hf2.step, fun s x z' t hx => hf2.feed s x z' t hx⟩
            have h2 := (unhide HFED).trans h1
            exact ⟨h2.step.setNew (by simp; omega) _, fun s x z' t hx => (Below.heap_setCell _ _ _ _ (fun e => hRf1 e.symm)).trans (h2.feed s x z' t hx)⟩
          have H1 := hide hr2
          have H2 := hide ht2
          have H3 := hide hfd2
          clear hr2 ht2 hfd2 hf2 k1 k2 k3 cq fq hc1
          go_wp2_with fail
          go_roundw
          case rel => exact ⟨k + 1, by omega, by omega, by go_num, unhide H3, unhide H1, unhide H2⟩
          case measure => simp [intOf]; omega
      · have hnum := feedNum_miss f g off cap z (p + 3 * k) 3 B wr.drew (hfed.feed _ _ _ _ (unhide HF)) ((hS.step hfed.step hgf).step ((Step.refl (fun _ => False) wr).drew) (fun x => x)) hgf (by omega) hpk (by omega)
        have HNUM := hide hnum
        have HFED := hide hfed
        clear hq hnum hra hrt hfed hO1 cq fq
        go_wp2_with fail
        go_region_dies
        all_goals
          refine (unhide HNUM).mono ?_
          rintro e w2 ⟨rfl, hf2⟩
          refine ⟨rfl, .inr ⟨by omega, rfl, _, (unhide HFED).trans ⟨(Step.refl (· = f) wr).drew.trans hf2.step, fun s x z' t hx => hf2.feed s x z' t hx⟩⟩⟩
    · have : k = c := by omega
      subst this
      have hints : Ints wr (R + 1) 0 (firstLens B p k) := ⟨fun i hi => by
          rw [firstLens_length] at hi
          rw [firstLens_get _ _ _ _ hi, Nat.zero_add]
          exact hra.cell i hi, firstLens_le B p k, by rw [firstLens_length]; omega⟩
      have HI := hide hints
      have HRT := hide hrt
      have HFED := hide hfed
      have h1f : ∀ w3, Step (fun _ => False) wr w3 → Fed f w w3 (p + 3 * k) := fun w3 hs3 => (unhide HFED).trans ⟨hs3.mono (fun _ x => x.elim), fun s x z' t hx => by
            have h9 := (unhide HFED).feed _ _ _ _ (unhide HF)
            rw [h9] at hx
            cases hx
            exact hs3.at_ h9 (fun x => x)⟩
      have H1F := hide h1f
      clear hints hrt hfed hra h1f
      go_wp2_with fail
      by_cases hmay : mayB (firstLens B p k) = true
      · have hdl := dealUp_ok (R + 1) 0 19 (firstLens B p k) wr (unhide HI) hmay
        rw [firstLens_length] at hdl
        refine hdl.mono ?_
        clear hdl
        rintro e w3 ⟨mb, rfl, hmb, htab, hs3⟩
        obtain ⟨r0, r1, rf0, rf1⟩ := blk_two (hs3.at_ (unhide HRT) (fun x => x))
        have hRl := lt_of_block (unhide HRT)
        have HT := hide htab
        have HS3 := hide hs3
        clear htab hs3
        go_wp2_with fail
        refine bodyPost_ret (v := .tuple #[.agg #[.map (some mb), .int .i64 ((dealAll (firstLens B p k)).longest : Nat)], .int .i64 0]) (by simp [results, Tryz.results212, go_sem, r0, r1]) rfl (.inl ⟨hpk, ?_⟩)
        unfold TabP
        rw [if_pos hmay]
        refine ⟨mb, rfl, ?_, ?_, ?_⟩
        · have := (unhide HFED).step.size; omega
        · exact (unhide HT).of ((Below.heap_setCell _ _ _ _ (by simp; omega)).trans (Below.heap_setCell _ _ _ _ (by simp; omega)))
        · have h2 := unhide H1F _ (unhide HS3)
          exact ⟨(h2.step.setNew (by simpa using hRw) _).setNew (by simpa using hRw) _, fun s x z' t hx => (Below.heap_setCell _ _ _ _ (fun e => hRf e.symm)).trans ((Below.heap_setCell _ _ _ _ (fun e => hRf e.symm)).trans (h2.feed s x z' t hx))⟩
      · have hdl := dealUp_no (R + 1) 0 19 (firstLens B p k) wr (unhide HI) (by simpa using hmay)
        rw [firstLens_length] at hdl
        refine hdl.mono ?_
        clear hdl
        rintro e w3 ⟨rfl, hs3⟩
        obtain ⟨r0, r1, rf0, rf1⟩ := blk_two (hs3.at_ (unhide HRT) (fun x => x))
        have HS3 := hide hs3
        clear hs3
        go_wp2_with fail
        refine bodyPost_ret (v := .tuple #[.agg #[.map none, .int .i64 0], .int .i64 7]) (by simp [results, Tryz.results212, go_sem, r0, r1]) rfl (.inl ⟨hpk, ?_⟩)
        unfold TabP
        rw [if_neg hmay]
        refine ⟨rfl, p + 3 * k, ?_⟩
        have h2 := unhide H1F _ (unhide HS3)
        exact ⟨(h2.step.setNew (by simpa using hRw) _).setNew (by simpa using hRw) _, fun s x z' t hx => (Below.heap_setCell _ _ _ _ (fun e => hRf e.symm)).trans ((Below.heap_setCell _ _ _ _ (fun e => hRf e.symm)).trans (h2.feed s x z' t hx))⟩
end Go.Proofs.YtbpahojchgpdnaaGreatDoor
