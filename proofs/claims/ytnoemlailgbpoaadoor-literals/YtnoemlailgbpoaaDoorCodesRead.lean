/- Proved here: what one call of a table's Read does where the bits are a code of the table. -/
import Derived.Test.YtnoemlailgbpoaaDoorFeedRest
import Derived.Test.YtnoemlailgbpoaaDoorCodesPure
namespace Go.Proofs.YtnoemlailgbpoaaDoor
open Go.RowKit Go.Bel Go.Maps

theorem keyLaw : Keyed Tryd.prog 125 := int_keyed Tryd.underlying125
theorem zeroInt (w : World) : (zeroValue 3).run Tryd.prog w = .ok (.int .i64 0) w := by kernel_rfl

def TabAt (w : World) (mb : Nat) (M : Tab) : Prop :=
  ∃ (n : Nat) (D : DataW Unit), n ≤ 1000000 ∧ w.ownsMap Tryd.prog 125 (plainElem Tryd.prog 3) mb n D ∧ MapIs D M

theorem TabAt.of {w w' : World} {mb : Nat} {M : Tab} (h : TabAt w mb M) (hb : w'.heap[mb]? = w.heap[mb]?) : TabAt w' mb M := by
  obtain ⟨n, D, h1, ⟨es, clock, a, r⟩, h3⟩ := h
  exact ⟨n, D, h1, ⟨es, clock, hb.trans a, r⟩, h3⟩
theorem TabAt.lt {w : World} {mb : Nat} {M : Tab} (h : TabAt w mb M) : mb < w.heap.size := by
  obtain ⟨n, D, h1, h2, h3⟩ := h
  exact h2.lt
theorem TabAt.step {S : Nat → Prop} {w w' : World} {mb : Nat} {M : Tab} (h : TabAt w mb M) (hs : Step S w w') (hn : ¬ S mb) : TabAt w' mb M := h.of (hs.block mb h.lt hn)

theorem Fed.alloc0 {f : Nat} {w : World} {s : Value} {p : Nat} {t : TypeId} (h : w.heap[f]? = some (.cells #[s, .int .i64 (p : Nat)] t (0, 0))) (o : Obj) : Fed f w (w.alloc o) p :=
  ⟨(Step.refl _ w).alloc o, fun s' p' t' hx => by
    rw [h] at hx; cases hx
    exact (Below.heap_alloc w o f (lt_of_block h)).trans h⟩

set_option maxRecDepth 20000 in
set_option maxHeartbeats 1000000 in
theorem read_ok (f g off cap p k mb longest s : Nat) (M : Tab) (B : List Nat) (w : World)
    (hF : w.heap[f]? = some (.cells #[.slice (some ⟨g, off, none⟩) B.length cap, .int .i64 (p : Nat)] 86 (0, 0))) (hS : Src w g off B) (hgf : g ≠ f) (hT : TabAt w mb M) (hmf : mb ≠ f)
    (hk1 : 1 ≤ k) (hk : k ≤ longest) (hl : longest ≤ 15) (hlt : p + k ≤ 8 * B.length) (hM : M (keyAt B p k) = some s) (hno : ∀ j, 1 ≤ j → j < k → M (keyAt B p j) = none) (_hs : s < 100000) :
    Calls Tryd.prog 74 #[.agg #[.map (some mb), .int .i64 (longest : Nat)], .pointer (some ⟨f, 0, none⟩)] w
      fun e w' => e = .returned (.tuple #[.int .i64 (s : Nat), .int .i64 0]) ∧ Fed f w w' (p + k) := by
  have HF := hide hF
  have HNO := hide hno
  have HM := hide hM
  have hTlt := hT.lt
  have hFlt := lt_of_block hF
  clear hF hno hM
  go_enter Tryd.func74, Tryd.ntmps74
  go_wp2_with fail
  obtain ⟨box, hbox⟩ : ∃ o, o = Obj.cells #[.map (some mb), .int .i64 (longest : Nat)] 92 := ⟨_, rfl⟩
  have hFa := Fed.alloc0 (unhide HF) box
  have hF1 := hFa.feed _ _ _ (unhide HF)
  have hT1 := hT.step hFa.step hmf
  have hS1 := hS.step hFa.step hgf
  have hb1 : (w.alloc box).heap[w.heap.size]? = some (.cells #[.map (some mb), .int .i64 (longest : Nat)] 92 (0, 0)) := by rw [hbox]; exact heap_alloc_new _ _
  have hbf : w.heap.size ≠ f := by omega
  rw [← hbox]
  have HFA := hide hFa
  have HF1 := hide hF1
  generalize hW1 : w.alloc box = w1 at *
  clear hbox hW1 hFa hF1 hT hS HF hTlt hFlt
  go_loopw [6, 11] (fun c i wr => ∃ j : Nat, j < k ∧ i = .int .i64 (j : Nat) ∧ c = .int .u32 (keyAt B p j : Nat) ∧ Fed f w1 wr (p + j)) (fun _ i _ => k - (intOf i).toNat)
  case atStart => exact ⟨0, by omega, rfl, rfl, Fed.refl (unhide HF1)⟩
  case round =>
    obtain ⟨j, hj, rfl, rfl, hfed⟩ := hrel
    have hkl := keyAt_lt B p j (by omega)
    have hkl1 := keyAt_lt B p (j + 1) (by omega)
    have hbt := bitAt_lt B (p + j)
    go_wp2_with fail
    refine (feedBit_ok f g off cap (p + j) B wr (hfed.feed _ _ _ (unhide HF1)) (hS1.step hfed.step hgf) (by omega)).mono ?_
    rintro e w2 ⟨rfl, hfed2⟩
    have hfed12 := hfed.trans hfed2
    obtain ⟨hc0, _, _, _⟩ := blk_two (hfed12.step.at_ hb1 hbf)
    obtain ⟨n, D, hn, hown, hD⟩ := hT1.step hfed12.step hmf
    clear hfed hfed2
    have hor : bits BinOp.or IntKind.u32 ((keyAt B p j : Int) * 2) (bitAt B (p + j) : Int) = ((keyAt B p (j + 1) : Nat) : Int) := by
      have := bits_or_u32 (2 * keyAt B p j) (bitAt B (p + j)) (by omega) (by omega)
      rw [or_two _ _ hbt] at this
      rw [Int.mul_comm]
      exact this
    have hDk := hD (keyAt B p (j + 1))
    obtain ⟨K1, hK1⟩ : ∃ K1, K1 = keyAt B p (j + 1) := ⟨_, rfl⟩
    rw [← hK1] at hor hkl1 hDk
    have HK1 := hide hK1
    have hlit : (Lit.int IntKind.u32 (K1 : Int)).wf = true := WalkArith.wf_u32 (by omega)
    by_cases hjk : j + 1 < k
    · have hnone := hDk.2 (by rw [unhide HK1]; exact unhide HNO (j + 1) (by omega) hjk)
      clear hK1 hD hDk
      have tok : True := trivial
      go_wp2_with (first | (at_lookup; refine wpList_lookup_own_ok_int _ rfl _ _ 90 rfl 125 3 .i64 keyLaw Tryd.underlying90 Tryd.underlying3 (zeroInt _) mb n D rfl hown _ (.int .u32 (K1 : Int)) rfl (keyOf_int_mk Tryd.underlying125 hlit) ?_; intro c hat hwc; clear hat hwc))
      go_roundw
      case rel => exact ⟨j + 1, hjk, by go_num, by rw [unhide HK1], hfed12⟩
      case measure => simp [intOf]; omega
    · have hje : j + 1 = k := by omega
      have hyes := hDk.1 s (by rw [unhide HK1, hje]; exact unhide HM)
      obtain ⟨hhas, hatk⟩ := hyes
      have HAT := hide hatk
      clear hK1 hD hDk hatk
      go_wp2_with (first | (at_lookup; refine wpList_lookup_own_ok_int _ rfl _ _ 90 rfl 125 3 .i64 keyLaw Tryd.underlying90 Tryd.underlying3 (zeroInt _) mb n D rfl hown _ (.int .u32 (K1 : Int)) rfl (keyOf_int_mk Tryd.underlying125 hlit) ?_; intro c hat hwc; have hcs : c = (s : Int) := (by have h3 := hat.symm.trans (unhide HAT); simpa using h3); clear hat hwc))
      go_ret2
      refine ⟨rfl, ?_⟩
      rw [← hje]
      exact (unhide HFA).trans hfed12
end Go.Proofs.YtnoemlailgbpoaaDoor
