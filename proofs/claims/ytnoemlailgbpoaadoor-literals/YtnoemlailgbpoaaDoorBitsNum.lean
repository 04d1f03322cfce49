/- Proved here: what the writer's number and code do. -/
import Derived.Test.YtnoemlailgbpoaaDoorBitsBit
namespace Go.Proofs.YtnoemlailgbpoaaDoor
open Go.RowKit Go.Bel

/- a call that writes the bits 'add' at the writer of block b -/
def Adds (b base : Nat) (w : World) (v : Value) (bs add : List Bool) (e : Ending) (w' : World) : Prop :=
  e = .returned (.tuple #[]) ∧ ∃ v', Bw w' b base 31 5 v' (bs ++ add) ∧ Wrt b w v w' v'

abbrev Pen (w : World) (b base : Nat) (v : Value) (bs : List Bool) : Prop := Bw w b base 31 5 v bs ∧ base ≤ w.heap.size

theorem bit_adds (b base x : Nat) (v : Value) (bs : List Bool) (w : World) (h : Pen w b base v bs) (hl : bs.length < 70368744177664) :
    Calls Tryd.prog 16 #[.pointer (some ⟨b, 0, none⟩), .int .i64 (x : Nat)] w (Adds b base w v bs [decide (x % 2 = 1)]) := by
  obtain ⟨⟨B, hB⟩, hbase⟩ := h
  refine (bit_any b base x v bs B w hB hl hbase).mono ?_
  rintro e w' ⟨rfl, v', B', h1, h2⟩
  exact ⟨rfl, v', ⟨B', h1⟩, h2⟩

theorem pen_of {b base : Nat} {w w' : World} {v v' : Value} {bs bs' : List Bool} (h : Pen w b base v bs) (h1 : Bw w' b base 31 5 v' bs') (h2 : Wrt b w v w' v') : Pen w' b base v' bs' :=
  ⟨h1, Nat.le_trans h.2 h2.step.size⟩

set_option maxHeartbeats 400000 in
theorem number_adds (b base x n : Nat) (v : Value) (bs : List Bool) (w : World) (h : Pen w b base v bs) (hl : bs.length + n < 70368744177664) (_hx : x < 4611686018427387904) (hn : n ≤ 60) :
    Calls Tryd.prog 17 #[.pointer (some ⟨b, 0, none⟩), .int .i64 (x : Nat), .int .i64 (n : Nat)] w (Adds b base w v bs (numBits x n)) := by
  go_enter Tryd.func17, Tryd.ntmps17
  go_wp2
  go_loopw [6] (fun i wr => ∃ k : Nat, k ≤ n ∧ i = .int .i64 (k : Nat) ∧ ∃ v', Bw wr b base 31 5 v' (bs ++ numBits x k) ∧ Wrt b w v wr v') (fun i _ => n - (intOf i).toNat)
  case atStart => exact ⟨0, Nat.zero_le _, rfl, v, by simpa [numBits] using h.1, Wrt.refl _ _ _⟩
  case round =>
    obtain ⟨k, hk, rfl, v', hb, hw⟩ := hrel
    by_cases hlt : k < n
    · go_wp2_with fail
      rw [show ((x : Int) / 2 ^ k) = ((x / 2 ^ k : Nat) : Int) by simp]
      refine (bit_adds b base (x / 2 ^ k) v' (bs ++ numBits x k) wr (pen_of h hb hw) (by simp [numBits_length]; omega)).mono ?_
      rintro e w1 ⟨rfl, v1, hb1, hw1⟩
      go_wp2
      go_roundw
      case rel => exact ⟨k + 1, by omega, by go_num, v1, by rw [numBits_succ, ← List.append_assoc]; exact hb1, hw.trans hw1⟩
      case measure => simp [intOf]; omega
    · go_wp2
      go_end0
      have : k = n := by omega
      subst this
      exact ⟨rfl, v', hb, hw⟩

set_option maxHeartbeats 400000 in
theorem code_adds (b base x n : Nat) (v : Value) (bs : List Bool) (w : World) (h : Pen w b base v bs) (hl : bs.length + n < 70368744177664) (_hx : x < 4611686018427387904) (hn : n ≤ 60) :
    Calls Tryd.prog 20 #[.pointer (some ⟨b, 0, none⟩), .int .i64 (x : Nat), .int .i64 (n : Nat)] w (Adds b base w v bs (codeBits x n)) := by
  go_enter Tryd.func20, Tryd.ntmps20
  go_wp2
  go_loopw [6] (fun i wr => ∃ k : Nat, k ≤ n ∧ i = .int .i64 ((n : Int) - 1 - k) ∧ ∃ v', Bw wr b base 31 5 v' (bs ++ codeTo x n k) ∧ Wrt b w v wr v') (fun i _ => (intOf i + 1).toNat)
  case atStart => exact ⟨0, Nat.zero_le _, by go_num, v, by simpa [codeTo] using h.1, Wrt.refl _ _ _⟩
  case round =>
    obtain ⟨k, hk, rfl, v', hb, hw⟩ := hrel
    by_cases hlt : k < n
    · go_wp2_with fail
      rw [show ((x : Int) / 2 ^ (n - 1 - k)) = ((x / 2 ^ (n - 1 - k) : Nat) : Int) by simp]
      refine (bit_adds b base (x / 2 ^ (n - 1 - k)) v' (bs ++ codeTo x n k) wr (pen_of h hb hw) (by simp [codeTo_length]; omega)).mono ?_
      rintro e w1 ⟨rfl, v1, hb1, hw1⟩
      go_wp2
      go_roundw
      case rel => exact ⟨k + 1, by omega, by go_num, v1, by rw [codeTo_succ, ← List.append_assoc]; exact hb1, hw.trans hw1⟩
      case measure => simp [intOf]; omega
    · go_wp2
      go_end0
      have : k = n := by omega
      subst this
      exact ⟨rfl, v', hb, hw⟩
end Go.Proofs.YtnoemlailgbpoaaDoor
