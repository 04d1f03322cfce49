/- Proved here: what readRow does where every length is told by itself and all bits are there. -/
import Derived.Test.YtnoemlailgbpoaaDoorFirsts
import Derived.Test.YtnoemlailgbpoaaDoorDecSym
namespace Go.Proofs.YtnoemlailgbpoaaDoor
open Go.RowKit Go.Bel Go.Maps

set_option maxRecDepth 20000 in
set_option maxHeartbeats 400000 in
theorem readLengths_plain (s : Nat) (v x : Value) (w : World) (hs : s < 16) :
    Calls Tryd.prog 105 #[x, .int .i64 (s : Nat), v] w fun e w' => e = .returned (.tuple #[.int .i64 (s : Nat), .int .i64 1]) ∧ w' = w := by
  go_enter Tryd.func105, Tryd.ntmps105
  go_wp2_with fail
  go_ret2
  exact ⟨rfl, rfl⟩

theorem Tryd.info3 : (Tryd.prog.info? 3).map (fun i => (i.zero, i.size, i.bytes)) = some (some (.int .i64 0), 1, 8) := by kernel_rfl

/- from bit p up to bit q stands the code of symbol s -/
structure CodeAt (longest : Nat) (M : Tab) (B : List Nat) (p q s : Nat) : Prop where
  lt : p < q
  le : q - p ≤ longest
  there : q ≤ 8 * B.length
  is : M (keyAt B p (q - p)) = some s
  no : ∀ j, 1 ≤ j → j < q - p → M (keyAt B p j) = none

theorem CodeAt.code1 {w : World} {f mb longest : Nat} {M : Tab} {B : List Nat} {p q s : Nat} (h : CodeAt longest M B p q s) (ht : TabAt w mb M) (hf : mb ≠ f) (hl : longest ≤ 15) : Code1 w f mb longest M B p (q - p) s :=
  ⟨ht, hf, by have := h.lt; omega, h.le, hl, by have := h.lt; have := h.there; omega, h.is, h.no⟩

abbrev i64s (L : List Nat) : List Value := L.map fun c => Value.int .i64 (c : Nat)

theorem take_i64s (L : List Nat) (k q : Nat) (hk : k < L.length) (hq : q = L[k]?.getD 0) : i64s (L.take (k + 1)) = List.take k (i64s L) ++ [.int .i64 (q : Nat)] := by
  have e : i64s (L.take (k + 1)) = (i64s L).take (k + 1) := List.map_take
  rw [e, List.take_succ_eq_append_getElem (by simpa using hk), hq, List.getElem?_eq_getElem hk]
  simp only [List.getElem_map, Option.getD_some]

def lenOfV : Value → Nat | .slice _ n _ => n | _ => 0

structure RowRel (w wr : World) (f R n p k mb longest : Nat) (L : List Nat) : Prop where
  own : wr.ownsRow (R + 1) 3 1 (.slice (some ⟨R + 1, 0, none⟩) k n) k (i64s (L.take k))
  fed : Fed f w wr p
  box : wr.heap[R]? = some (.cells #[.map (some mb), .int .i64 (longest : Nat)] 92 (0, 0))

theorem RowRel.fed' {w wr w2 : World} {f R n p p2 k mb longest : Nat} {L : List Nat} (h : RowRel w wr f R n p k mb longest L) (hf : Fed f wr w2 p2) (hRf : ¬ R = f) (hf1 : f < R + 1) : RowRel w w2 f R n p2 k mb longest L :=
  ⟨ownsRow_of_block h.own (fun j hj => hf.step.block j (h.own.lt j hj).2 (fun x => by have := (h.own.lt j hj).1; omega)), h.fed.trans hf, hf.step.at_ h.box hRf⟩

set_option maxRecDepth 20000 in
set_option maxHeartbeats 2000000 in
theorem readRow_plain (f g off cap n mb longest : Nat) (pos : Nat → Nat) (L : List Nat) (M : Tab) (B : List Nat) (w : World)
    (hF : w.heap[f]? = some (.cells #[.slice (some ⟨g, off, none⟩) B.length cap, .int .i64 (pos 0 : Nat)] 86 (0, 0))) (hS : Src w g off B) (hgf : g ≠ f) (hT : TabAt w mb M) (hmf : mb ≠ f) (hl : longest ≤ 15)
    (hn : L.length = n) (hn4 : n ≤ 400) (hL : ∀ i : Nat, L[i]?.getD 0 < 16) (hC : ∀ i, i < n → CodeAt longest M B (pos i) (pos (i + 1)) (L[i]?.getD 0)) :
    Calls Tryd.prog 99 #[.pointer (some ⟨f, 0, none⟩), .agg #[.map (some mb), .int .i64 (longest : Nat)], .int .i64 (n : Nat)] w
      fun e w' => ∃ RB, e = .returned (.tuple #[.slice (some ⟨RB, 0, none⟩) n n, .int .i64 0]) ∧ w.heap.size ≤ RB ∧ Ints w' RB 0 L ∧ Fed f w w' (pos n) := by
  obtain ⟨i0, hi, hz0, hz1, hz2⟩ := info_parts Tryd.info3
  have HF := hide hF
  have HC := hide hC
  have hflt := lt_of_block hF
  clear hF hC
  go_enter Tryd.func99, Tryd.ntmps99
  go_wp2_with (at_make; refine wpList_make_own _ rfl _ _ 119 rfl (w.heap.size + 1) 3 i0 (.int .i64 0) 1 Tryd.underlying119 hi hz0 hz1 .i64 .i64 _ n rfl rfl rfl (by rw [hz2]; omega) (by unfold maxLen; omega) (by simp) ?_; intro w1 hown1 hgr1)
  obtain ⟨R, hR⟩ : ∃ R, R = w.heap.size := ⟨_, rfl⟩
  have hown1' : w1.ownsRow (R + 1) 3 1 (.slice (some ⟨R + 1, 0, none⟩) 0 n) 0 (i64s (L.take 0)) := by
    rw [hR]; simpa using hown1
  have h0 : RowRel w w1 f R n (pos 0) 0 mb longest L := by
    refine ⟨hown1', ?_, ?_⟩
    · have h1 := Fed.alloc0 (unhide HF) (.cells #[.map (some mb), .int .i64 (longest : Nat)] 92)
      refine ⟨h1.step.grown hgr1 (fun k hk => by cases hk), fun s x t hx => ?_⟩
      exact (hgr1.block f (by simp; omega) (by simp)).trans (h1.feed s x t hx)
    · rw [hR]; exact (hgr1.block _ (by simp) (by simp)).trans (heap_alloc_new _ _)
  have hRf : ¬ R = f := by omega
  have hfR : f < R := by omega
  have hRw : w.heap.size ≤ R := by omega
  have hmR : mb < R + 1 := by have := hT.lt; omega
  have hmR2 : mb ≠ R := by have := hT.lt; omega
  rw [← hR]
  clear hown1 hown1' hgr1 hR
  go_loopw [8] (fun row wr => ∃ k : Nat, k ≤ n ∧ row = .slice (some ⟨R + 1, 0, none⟩) k n ∧ RowRel w wr f R n (pos k) k mb longest L) (fun row _ => n - lenOfV row)
  case atStart => exact ⟨0, by omega, rfl, h0⟩
  case round =>
    clear h0
    obtain ⟨k, hk, rfl, hrel⟩ := hrel
    by_cases hlt : k < n
    · obtain ⟨b0, b1, _, _⟩ := blk_two hrel.box
      have hcode := ((unhide HC) k hlt).code1 (hT.step hrel.fed.step hmf) hmf hl
      have hsL := hL k
      have hpp : pos k + (pos (k + 1) - pos k) = pos (k + 1) := by have := ((unhide HC) k hlt).lt; omega
      obtain ⟨q, hq⟩ : ∃ q, q = L[k]?.getD 0 := ⟨_, rfl⟩
      rw [← hq] at hcode hsL
      have hrd := read1 f g off cap (pos k) (pos (k + 1) - pos k) mb longest q M B wr (hrel.fed.feed _ _ _ (unhide HF)) (hS.step hrel.fed.step hgf) hgf hcode (by omega)
      rw [hpp] at hrd
      have HRD := hide hrd
      have HQ := hide hq
      have HREL := hide hrel
      clear hcode hrd hpp hq hrel
      have hq16 : ((q : Int) == 16) = false := beq_eq_false_iff_ne.2 (by omega)
      go_wp2_with fail
      refine (unhide HRD).mono ?_
      rintro e w2 ⟨rfl, hfed2⟩
      have hrel2 : RowRel w w2 f R n (pos (k + 1)) k mb longest L := (unhide HREL).fed' hfed2 hRf (by omega)
      have HREL2 := hide hrel2
      clear hrel2 hfed2
      go_wp2_with fail
      refine (readLengths_plain q _ _ w2 (by omega)).mono ?_
      rintro e w3 ⟨rfl, rfl⟩
      go_wp2_with fail
      clear HREL HRD
      go_loopw [8, 49] (fun row i wr => ∃ j : Nat, j ≤ 1 ∧ i = .int .i64 (j : Nat) ∧ row = .slice (some ⟨R + 1, 0, none⟩) (k + j) n ∧ RowRel w wr f R n (pos (k + 1)) (k + j) mb longest L) (fun _ i _ => 1 - (intOf i).toNat)
      case atStart => exact ⟨0, by omega, rfl, rfl, unhide HREL2⟩
      case round =>
        clear HREL2
        obtain ⟨j, hj, rfl, rfl, hrel⟩ := hrel
        have HREL := hide hrel
        by_cases hj0 : j < 1
        · have : j = 0 := by omega
          subst this
          have hown := hrel.own
          have HO := hide hown
          clear hrel hown
          go_wp2_with (at_builtin; refine wpList_append_fits _ rfl _ _ 119 rfl (R + 1) 3 i0 1 Tryd.underlying119 hi hz1 (R + 1) (k + 0) n (i64s (L.take (k + 0))) rfl ((unhide HO).alloc _) ⟨wr.heap.size, 0, none⟩ 1 1 [.int .i64 (q : Nat)] rfl rfl ?d1 ?d2 (by omega) ?_)
          case d1 =>
            intro j u hj
            match j, hj with
            | 0, hj => simp at hj; subst hj; simp [Addr.add]
          case d2 => intro u hu; simp at hu; subst hu; rfl
          intro w4 hown4 hgr4
          have hrel4 : RowRel w w4 f R n (pos (k + 1)) (k + 1) mb longest L := by
            have hw := (unhide HREL)
            refine ⟨?_, ⟨(hw.fed.step.alloc _).grown hgr4 (fun j hj => .inr (by simp at hj; omega)), fun s x t hx => ?_⟩, ?_⟩
            · rw [take_i64s L k q (by omega) (unhide HQ)]; exact hown4
            · have h1 := hw.fed.feed s x t hx
              exact (hgr4.block f (by have := lt_of_block h1; simp; omega) (by simp; omega)).trans ((Below.heap_alloc _ _ _ (lt_of_block h1)).trans h1)
            · exact (hgr4.block R (by have := lt_of_block hw.box; simp; omega) (by simp)).trans ((Below.heap_alloc _ _ _ (lt_of_block hw.box)).trans hw.box)
          have H4 := hide hrel4
          clear hown4 hgr4 hrel4
          go_wp2_with fail
          go_roundw
          case rel => exact ⟨1, by omega, rfl, rfl, unhide H4⟩
          case measure => simp [intOf]
        · have : j = 1 := by omega
          subst this
          clear hrel
          go_wp2_with fail
          go_roundw
          case rel => exact ⟨k + 1, by omega, rfl, unhide HREL⟩
          case measure => simp [lenOfV]; omega
    · have : k = n := by omega
      subst this
      have HREL := hide hrel
      clear hrel
      go_wp2_with fail
      go_ret2
      refine ⟨R + 1, rfl, by omega, ⟨fun i hi' => ?_, fun i => by have := hL i; omega, by omega⟩, (unhide HREL).fed⟩
      have h9 := (unhide HREL).own.cellAt i (by omega)
      rw [Nat.zero_add, h9, List.take_of_length_le (by omega)]
      simp [List.getElem?_eq_getElem hi']
end Go.Proofs.YtnoemlailgbpoaaDoor
