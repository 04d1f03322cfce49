/- Proved here: what the writer's fixed, begin, literals and stored do. -/
import Derived.Test.YtnoemlailgbpoaaDoorBitsNum
namespace Go.Proofs.YtnoemlailgbpoaaDoor
open Go.RowKit Go.Bel

/- the code of a symbol in a block of type 1 -/
def fixedBits (s : Nat) : List Bool :=
  if s < 144 then codeBits (48 + s) 8 else if s < 256 then codeBits (400 + s - 144) 9 else if s < 280 then codeBits (s - 256) 7 else codeBits (192 + s - 280) 8
theorem fixedBits_length (s : Nat) : (fixedBits s).length ≤ 9 := by
  unfold fixedBits; split
  · simp [codeBits_length]
  · split
    · simp [codeBits_length]
    · split <;> simp [codeBits_length]

set_option maxRecDepth 20000 in
set_option maxHeartbeats 400000 in
theorem fixed_adds (b base s : Nat) (v : Value) (bs : List Bool) (w : World) (h : Pen w b base v bs) (hl : bs.length + 9 < 70368744177664) (hs : s < 288) :
    Calls Tryd.prog 18 #[.pointer (some ⟨b, 0, none⟩), .int .i64 (s : Nat)] w (Adds b base w v bs (fixedBits s)) := by
  by_cases h1 : s < 144
  · go_enter Tryd.func18, Tryd.ntmps18
    go_wp2_with fail
    rw [show ((48 : Int) + (s : Int)) = ((48 + s : Nat) : Int) by omega]
    refine (code_adds b base (48 + s) 8 v bs w h (by omega) (by omega) (by omega)).mono ?_
    rintro e w1 ⟨rfl, v1, hb1, hw1⟩
    go_wp2
    go_end0
    exact ⟨rfl, v1, by rw [fixedBits, if_pos h1]; exact hb1, hw1⟩
  by_cases h2 : s < 256
  · go_enter Tryd.func18, Tryd.ntmps18
    go_wp2_with fail
    rw [show ((400 : Int) + (s : Int) - 144) = ((400 + s - 144 : Nat) : Int) by omega]
    refine (code_adds b base (400 + s - 144) 9 v bs w h (by omega) (by omega) (by omega)).mono ?_
    rintro e w1 ⟨rfl, v1, hb1, hw1⟩
    go_wp2
    go_end0
    exact ⟨rfl, v1, by rw [fixedBits, if_neg h1, if_pos h2]; exact hb1, hw1⟩
  by_cases h3 : s < 280
  · go_enter Tryd.func18, Tryd.ntmps18
    go_wp2_with fail
    rw [show ((s : Int) - 256) = ((s - 256 : Nat) : Int) by omega]
    refine (code_adds b base (s - 256) 7 v bs w h (by omega) (by omega) (by omega)).mono ?_
    rintro e w1 ⟨rfl, v1, hb1, hw1⟩
    go_wp2
    go_end0
    exact ⟨rfl, v1, by rw [fixedBits, if_neg h1, if_neg h2, if_pos h3]; exact hb1, hw1⟩
  · go_enter Tryd.func18, Tryd.ntmps18
    go_wp2_with fail
    rw [show ((192 : Int) + (s : Int) - 280) = ((192 + s - 280 : Nat) : Int) by omega]
    refine (code_adds b base (192 + s - 280) 8 v bs w h (by omega) (by omega) (by omega)).mono ?_
    rintro e w1 ⟨rfl, v1, hb1, hw1⟩
    go_wp2
    go_end0
    exact ⟨rfl, v1, by rw [fixedBits, if_neg h1, if_neg h2, if_neg h3]; exact hb1, hw1⟩

def beginBits (last : Bool) (kind : Nat) : List Bool := last :: numBits kind 2

set_option maxHeartbeats 400000 in
theorem begin_adds (b base kind : Nat) (last : Bool) (v : Value) (bs : List Bool) (w : World) (h : Pen w b base v bs) (hl : bs.length + 3 < 70368744177664) (hk : kind < 4) :
    Calls Tryd.prog 15 #[.pointer (some ⟨b, 0, none⟩), .bool last, .int .i64 (kind : Nat)] w (Adds b base w v bs (beginBits last kind)) := by
  cases last with
  | true =>
    go_enter Tryd.func15, Tryd.ntmps15
    go_wp2_with fail
    refine (bit_adds b base 1 v bs w h (by omega)).mono ?_
    rintro e w1 ⟨rfl, v1, hb1, hw1⟩
    go_wp2_with fail
    refine (number_adds b base kind 2 v1 _ w1 (pen_of h hb1 hw1) (by simp; omega) (by omega) (by omega)).mono ?_
    rintro e w2 ⟨rfl, v2, hb2, hw2⟩
    go_wp2
    go_end0
    exact ⟨rfl, v2, by simpa [beginBits] using hb2, hw1.trans hw2⟩
  | false =>
    go_enter Tryd.func15, Tryd.ntmps15
    go_wp2_with fail
    refine (bit_adds b base 0 v bs w h (by omega)).mono ?_
    rintro e w1 ⟨rfl, v1, hb1, hw1⟩
    go_wp2_with fail
    refine (number_adds b base kind 2 v1 _ w1 (pen_of h hb1 hw1) (by simp; omega) (by omega) (by omega)).mono ?_
    rintro e w2 ⟨rfl, v2, hb2, hw2⟩
    go_wp2
    go_end0
    exact ⟨rfl, v2, by simpa [beginBits] using hb2, hw1.trans hw2⟩
end Go.Proofs.YtnoemlailgbpoaaDoor
