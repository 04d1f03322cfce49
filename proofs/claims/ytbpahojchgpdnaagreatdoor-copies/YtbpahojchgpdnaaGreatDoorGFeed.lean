/- Proved here: what the feed's Number and a table's Read do where bits are missing, and where the bits are no code. -/
import Derived.Test.YtbpahojchgpdnaaGreatDoorFrame
namespace Go.Proofs.YtbpahojchgpdnaaGreatDoor
open Go.RowKit Go.Bel Go.Maps

abbrev lost : Ending := .panicked [{ v := missing, recovered := false }]

set_option maxHeartbeats 400000 in
theorem feedNum_miss (f g off cap z p n : Nat) (B : List Nat) (w : World)
    (hF : w.heap[f]? = some (.cells #[.slice (some ⟨g, off, none⟩) B.length cap, .int .i64 (p : Nat), .int .i64 (z : Nat)] 91 (0, 0))) (hS : Src w g off B) (hgf : g ≠ f) (hn : n ≤ 60) (hp : p ≤ 8 * B.length) (hlt : 8 * B.length < p + n) :
    Calls Tryz.prog 119 #[.pointer (some ⟨f, 0, none⟩), .int .i64 (n : Nat)] w fun e w' => e = lost ∧ Fed f w w' (8 * B.length) := by
  have hm := hS.much
  have HF := hide hF
  clear hF
  go_enter Tryz.func119, Tryz.ntmps119
  go_wp2
  go_loopw [5, 8] (fun x i wr => ∃ k : Nat, p + k ≤ 8 * B.length ∧ i = .int .i64 (k : Nat) ∧ x = .int .i64 (numAt B p k : Nat) ∧ Fed f w wr (p + k)) (fun _ i _ => n - (intOf i).toNat)
  case atStart => exact ⟨0, hp, rfl, rfl, Fed.refl (unhide HF)⟩
  case round =>
    obtain ⟨k, hk, rfl, rfl, hfed⟩ := hrel
    have hkn : k < n := by omega
    by_cases hlt2 : p + k < 8 * B.length
    · have hor := or_bit (numAt B p k) (bitAt B (p + k)) k (by omega) (bitAt_lt _ _) (numAt_lt _ _ _)
      have HO := hide hor
      clear hor
      go_wp2_with fail
      refine (feedBit_ok f g off cap z (p + k) B wr (hfed.feed _ _ _ _ (unhide HF)) (hS.step hfed.step hgf) (by omega)).mono ?_
      rintro e w1 ⟨rfl, hfed1⟩
      have hb := bitAt_lt B (p + k)
      go_wp2
      go_roundw
      case rel => exact ⟨k + 1, by omega, by go_num, by rw [unhide HO]; rfl, hfed.trans hfed1⟩
      case measure => simp [intOf]; omega
    · go_wp2_with fail
      refine (feedBit_miss f B.length cap (p + k) (some ⟨g, off, none⟩) wr (hfed.feed _ _ _ _ (unhide HF)) hm (by omega) (by omega)).mono ?_
      rintro e w1 ⟨rfl, m, rfl⟩
      have hk8 : p + k = 8 * B.length := by omega
      have hfin : Fed f w (wr.drewN m) (8 * B.length) := by
        rw [← hk8]
        exact ⟨hfed.step.drewN m, fun s x z' t hx => hfed.feed s x z' t hx⟩
      have HFIN := hide hfin
      clear hfin hfed
      go_wp2_with fail
      exact ⟨rfl, rfl, unhide HFIN⟩

/- what a read's call comes to: val tells the value, z is the value beside an error -/
def RP {α : Type} (r : R α) (val : α → Value) (z : Value) (f : Nat) (w : World) (e : Ending) (w' : World) : Prop :=
  match r with
  | .ok a q => e = .returned (.tuple #[val a, .int .i64 0]) ∧ Fed f w w' q
  | .no x => e = .returned (.tuple #[z, .int .i64 (x : Nat)]) ∧ ∃ q, Fed f w w' q
  | .miss => e = lost ∧ ∃ q, Fed f w w' q

abbrev nat (a : Nat) : Value := .int .i64 (a : Nat)

set_option maxRecDepth 20000 in
set_option maxHeartbeats 400000 in
theorem read_zero {z : Nat} (f : Nat) (x : Option Nat) (w : World) (s : Value) (p : Nat)
    (hF : w.heap[f]? = some (.cells #[s, .int .i64 (p : Nat), .int .i64 (z : Nat)] 91 (0, 0))) :
    Calls Tryz.prog 191 #[.agg #[.map x, .int .i64 0], .pointer (some ⟨f, 0, none⟩)] w
      fun e w' => e = .returned (.tuple #[.int .i64 0, .int .i64 9]) ∧ ∃ q, Fed f w w' q := by
  have hfin := fun o => Fed.alloc0 hF o
  have HF := hide hfin
  clear hfin hF
  go_enter Tryz.func191, Tryz.ntmps191
  go_wp2_with fail
  go_loopw [6, 11] (fun c i wr => i = .int .i64 0 ∧ c = .int .u32 1 ∧ wr = w.alloc (.cells #[.map x, .int .i64 0] 123)) (fun _ _ _ => 0)
  case atStart => exact ⟨rfl, rfl, rfl⟩
  case round =>
    obtain ⟨rfl, rfl, rfl⟩ := hrel
    go_wp2_with fail
    go_ret2
    exact ⟨rfl, _, unhide HF _⟩

set_option maxRecDepth 20000 in
set_option maxHeartbeats 1000000 in
theorem read_any (f g off cap z p mb : Nat) (D : Dealt) (B : List Nat) (w : World)
    (hF : w.heap[f]? = some (.cells #[.slice (some ⟨g, off, none⟩) B.length cap, .int .i64 (p : Nat), .int .i64 (z : Nat)] 91 (0, 0))) (hS : Src w g off B) (hgf : g ≠ f) (hT : TabAt w mb D.tab) (hmf : mb ≠ f) (hl : D.longest ≤ 15) (hp : p ≤ 8 * B.length) :
    Calls Tryz.prog 191 #[.agg #[.map (some mb), .int .i64 (D.longest : Nat)], .pointer (some ⟨f, 0, none⟩)] w
      fun e w' => RP (rSym D B p) nat (nat 0) f w e w' := by
  have HF := hide hF
  have hTlt := hT.lt
  have hFlt := lt_of_block hF
  have hm := hS.much
  obtain ⟨longest, hlo⟩ : ∃ l, l = D.longest := ⟨_, rfl⟩
  have hres : rSymF D B p (longest - 0) 0 = rSym D B p := by rw [hlo]; rfl
  obtain ⟨res, hre⟩ : ∃ r, r = rSym D B p := ⟨_, rfl⟩
  rw [← hre] at hres ⊢
  rw [← hlo] at hl ⊢
  have HRES := hide hres
  clear hF hlo hre hres
  go_enter Tryz.func191, Tryz.ntmps191
  go_wp2_with fail
  obtain ⟨box, hbox⟩ : ∃ o, o = Obj.cells #[.map (some mb), .int .i64 (longest : Nat)] 123 := ⟨_, rfl⟩
  have hFa := Fed.alloc0 (unhide HF) box
  have hF1 := hFa.feed _ _ _ _ (unhide HF)
  have hT1 := hT.step hFa.step hmf
  have hS1 := hS.step hFa.step hgf
  have hb1 : (w.alloc box).heap[w.heap.size]? = some (.cells #[.map (some mb), .int .i64 (longest : Nat)] 123 (0, 0)) := by rw [hbox]; exact heap_alloc_new _ _
  have hbf : w.heap.size ≠ f := by omega
  rw [← hbox]
  have HFA := hide hFa
  have HF1 := hide hF1
  generalize hW1 : w.alloc box = w1 at *
  clear hbox hW1 hFa hF1 hT hS HF hTlt hFlt
  go_loopw [6, 11] (fun c i wr => ∃ j : Nat, j ≤ longest ∧ i = .int .i64 (j : Nat) ∧ c = .int .u32 (keyAt B p j : Nat) ∧ p + j ≤ 8 * B.length ∧ rSymF D B p (longest - j) j = res ∧ Fed f w1 wr (p + j)) (fun _ i _ => longest - (intOf i).toNat)
  case atStart => exact ⟨0, by omega, rfl, rfl, hp, unhide HRES, Fed.refl (unhide HF1)⟩
  case round =>
    clear HRES
    obtain ⟨j, hj, rfl, rfl, hpj, hres, hfed⟩ := hrel
    by_cases hjl : j < longest
    · rw [show longest - j = (longest - (j + 1)) + 1 by omega, rSymF] at hres
      by_cases hthere : p + j < 8 * B.length
      · rw [if_pos hthere] at hres
        have hkl := keyAt_lt B p j (by omega)
        have hkl1 := keyAt_lt B p (j + 1) (by omega)
        have hbt := bitAt_lt B (p + j)
        have HRES := hide hres
        clear hres
        go_wp2_with fail
        refine (feedBit_ok f g off cap z (p + j) B wr (hfed.feed _ _ _ _ (unhide HF1)) (hS1.step hfed.step hgf) (by omega)).mono ?_
        rintro e w2 ⟨rfl, hfed2⟩
        have hfed12 := hfed.trans hfed2
        obtain ⟨hc0, _, _, _⟩ := blk_two (hfed12.step.at_ hb1 hbf)
        obtain ⟨n, DD, hn, hown, hD⟩ := hT1.step hfed12.step hmf
        clear hfed hfed2
        have hor : bits BinOp.or IntKind.u32 ((keyAt B p j : Int) * 2) (bitAt B (p + j) : Int) = ((keyAt B p (j + 1) : Nat) : Int) := by
          have := bits_or_u32 (2 * keyAt B p j) (bitAt B (p + j)) (by omega) (by omega)
          rw [or_two _ _ hbt] at this
          rw [Int.mul_comm]
          exact this
        have hDk := hD (keyAt B p (j + 1))
        obtain ⟨K1, hK1⟩ : ∃ K1, K1 = keyAt B p (j + 1) := ⟨_, rfl⟩
        have hres := unhide HRES
        rw [← hK1] at hor hkl1 hDk hres
        have HK1 := hide hK1
        have hlit : (Lit.int IntKind.u32 (K1 : Int)).wf = true := WalkArith.wf_u32 (by omega)
        clear HRES
        cases hM : D.tab K1 with
        | none =>
          rw [hM] at hres
          have hnone := hDk.2 hM
          have HRES := hide hres
          clear hK1 hD hDk hres hM
          have tok : True := trivial
          go_wp2_with (first | (at_lookup; refine wpList_lookup_own_ok_int _ rfl _ _ 121 rfl 198 3 .i64 keyLaw Tryz.underlying121 Tryz.underlying3 (zeroInt _) mb n DD rfl hown _ (.int .u32 (K1 : Int)) rfl (keyOf_int_mk Tryz.underlying198 hlit) ?_; intro c hat hwc; clear hat hwc))
          go_roundw
          case rel => exact ⟨j + 1, by omega, by go_num, by rw [unhide HK1], by omega, unhide HRES, hfed12⟩
          case measure => simp [intOf]; omega
        | some s =>
          rw [hM] at hres
          have hyes := hDk.1 s hM
          obtain ⟨hhas, hatk⟩ := hyes
          have HAT := hide hatk
          have HRES := hide hres
          clear hK1 hD hDk hatk hres hM
          go_wp2_with (first | (at_lookup; refine wpList_lookup_own_ok_int _ rfl _ _ 121 rfl 198 3 .i64 keyLaw Tryz.underlying121 Tryz.underlying3 (zeroInt _) mb n DD rfl hown _ (.int .u32 (K1 : Int)) rfl (keyOf_int_mk Tryz.underlying198 hlit) ?_; intro c hat hwc; have hcs : c = (s : Int) := (by have h3 := hat.symm.trans (unhide HAT); simpa using h3); clear hat hwc))
          go_ret2
          rw [← unhide HRES]
          exact ⟨rfl, (unhide HFA).trans hfed12⟩
      · rw [if_neg hthere] at hres
        have HRES := hide hres
        clear hres
        go_wp2_with fail
        refine (feedBit_miss f B.length cap (p + j) (some ⟨g, off, none⟩) wr (hfed.feed _ _ _ _ (unhide HF1)) hm (by omega) (by omega)).mono ?_
        rintro e w2 ⟨rfl, m, rfl⟩
        have hfin : Fed f w (wr.drewN m) (p + j) := (unhide HFA).trans ⟨hfed.step.drewN m, fun s x z' t hx => hfed.feed s x z' t hx⟩
        have HFIN := hide hfin
        clear hfin hfed
        go_wp2_with fail
        rw [← unhide HRES]
        exact ⟨rfl, rfl, _, unhide HFIN⟩
    · have : j = longest := by omega
      subst this
      rw [Nat.sub_self, rSymF] at hres
      have HRES := hide hres
      have hfin := hide ((unhide HFA).trans hfed)
      clear hres hfed
      go_wp2_with fail
      go_ret2
      rw [← unhide HRES]
      exact ⟨rfl, _, unhide hfin⟩
end Go.Proofs.YtbpahojchgpdnaaGreatDoor
