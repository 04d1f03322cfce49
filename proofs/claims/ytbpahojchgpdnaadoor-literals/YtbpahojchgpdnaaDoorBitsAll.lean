/- Proved here: what the writer's number and code do. Proved here: what the writer's fixed, begin, literals and stored do. Proved here: what the writer's literals and stored do. -/
import Derived.Test.YtbpahojchgpdnaaDoorBitsBit
import Derived.Test.YtbpahojchgpdnaaDoorGround
namespace Go.Proofs.YtbpahojchgpdnaaDoor
open Go.RowKit Go.Bel

/- a call that writes the bits 'add' at the writer of block b -/
def Adds (b base : Nat) (w : World) (v : Value) (bs add : List Bool) (e : Ending) (w' : World) : Prop :=
  e = .returned (.tuple #[]) ∧ ∃ v', Bw w' b base 25 5 v' (bs ++ add) ∧ Wrt b w v w' v'

abbrev Pen (w : World) (b base : Nat) (v : Value) (bs : List Bool) : Prop := Bw w b base 25 5 v bs ∧ base ≤ w.heap.size

theorem bit_adds (b base x : Nat) (v : Value) (bs : List Bool) (w : World) (h : Pen w b base v bs) (hl : bs.length < 70368744177664) :
    Calls Tryd.prog 11 #[.pointer (some ⟨b, 0, none⟩), .int .i64 (x : Nat)] w (Adds b base w v bs [decide (x % 2 = 1)]) := by
  obtain ⟨⟨B, hB⟩, hbase⟩ := h
  refine (bit_any b base x v bs B w hB hl hbase).mono ?_
  rintro e w' ⟨rfl, v', B', h1, h2⟩
  exact ⟨rfl, v', ⟨B', h1⟩, h2⟩

theorem pen_of {b base : Nat} {w w' : World} {v v' : Value} {bs bs' : List Bool} (h : Pen w b base v bs) (h1 : Bw w' b base 25 5 v' bs') (h2 : Wrt b w v w' v') : Pen w' b base v' bs' :=
  ⟨h1, Nat.le_trans h.2 h2.step.size⟩

set_option maxHeartbeats 400000 in
theorem number_adds (b base x n : Nat) (v : Value) (bs : List Bool) (w : World) (h : Pen w b base v bs) (hl : bs.length + n < 70368744177664) (_hx : x < 4611686018427387904) (hn : n ≤ 60) :
    Calls Tryd.prog 12 #[.pointer (some ⟨b, 0, none⟩), .int .i64 (x : Nat), .int .i64 (n : Nat)] w (Adds b base w v bs (numBits x n)) := by
  go_enter Tryd.func12, Tryd.ntmps12
  go_wp2
  go_loopw [6] (fun i wr => ∃ k : Nat, k ≤ n ∧ i = .int .i64 (k : Nat) ∧ ∃ v', Bw wr b base 25 5 v' (bs ++ numBits x k) ∧ Wrt b w v wr v') (fun i _ => n - (intOf i).toNat)
  case atStart => exact ⟨0, Nat.zero_le _, rfl, v, by simpa [numBits] using h.1, Wrt.refl _ _ _⟩
  case round =>
    obtain ⟨k, hk, rfl, v', hb, hw⟩ := hrel
    by_cases hlt : k < n
    · go_wp2_with fail
      rw [show ((x : Int) / 2 ^ k) = ((x / 2 ^ k : Nat) : Int) by simp]
      refine (bit_adds b base (x / 2 ^ k) v' (bs ++ numBits x k) wr (pen_of h hb hw) (by simp [numBits_length]; omega)).mono ?_
      rintro e w1 ⟨rfl, v1, hb1, hw1⟩
      go_wp2
      go_roundw
      case rel => exact ⟨k + 1, by omega, by go_num, v1, by rw [numBits_succ, ← List.append_assoc]; exact hb1, hw.trans hw1⟩
      case measure => simp [intOf]; omega
    · go_wp2
      go_end0
      have : k = n := by omega
      subst this
      exact ⟨rfl, v', hb, hw⟩

set_option maxHeartbeats 400000 in
theorem code_adds (b base x n : Nat) (v : Value) (bs : List Bool) (w : World) (h : Pen w b base v bs) (hl : bs.length + n < 70368744177664) (_hx : x < 4611686018427387904) (hn : n ≤ 60) :
    Calls Tryd.prog 15 #[.pointer (some ⟨b, 0, none⟩), .int .i64 (x : Nat), .int .i64 (n : Nat)] w (Adds b base w v bs (codeBits x n)) := by
  go_enter Tryd.func15, Tryd.ntmps15
  go_wp2
  go_loopw [6] (fun i wr => ∃ k : Nat, k ≤ n ∧ i = .int .i64 ((n : Int) - 1 - k) ∧ ∃ v', Bw wr b base 25 5 v' (bs ++ codeTo x n k) ∧ Wrt b w v wr v') (fun i _ => (intOf i + 1).toNat)
  case atStart => exact ⟨0, Nat.zero_le _, by go_num, v, by simpa [codeTo] using h.1, Wrt.refl _ _ _⟩
  case round =>
    obtain ⟨k, hk, rfl, v', hb, hw⟩ := hrel
    by_cases hlt : k < n
    · go_wp2_with fail
      rw [show ((x : Int) / 2 ^ (n - 1 - k)) = ((x / 2 ^ (n - 1 - k) : Nat) : Int) by simp]
      refine (bit_adds b base (x / 2 ^ (n - 1 - k)) v' (bs ++ codeTo x n k) wr (pen_of h hb hw) (by simp [codeTo_length]; omega)).mono ?_
      rintro e w1 ⟨rfl, v1, hb1, hw1⟩
      go_wp2
      go_roundw
      case rel => exact ⟨k + 1, by omega, by go_num, v1, by rw [codeTo_succ, ← List.append_assoc]; exact hb1, hw.trans hw1⟩
      case measure => simp [intOf]; omega
    · go_wp2
      go_end0
      have : k = n := by omega
      subst this
      exact ⟨rfl, v', hb, hw⟩
end Go.Proofs.YtbpahojchgpdnaaDoor

namespace Go.Proofs.YtbpahojchgpdnaaDoor
open Go.RowKit Go.Bel

/- the code of a symbol in a block of type 1 -/
def fixedBits (s : Nat) : List Bool :=
  if s < 144 then codeBits (48 + s) 8 else if s < 256 then codeBits (400 + s - 144) 9 else if s < 280 then codeBits (s - 256) 7 else codeBits (192 + s - 280) 8
theorem fixedBits_length (s : Nat) : (fixedBits s).length ≤ 9 := by
  unfold fixedBits; split
  · simp [codeBits_length]
  · split
    · simp [codeBits_length]
    · split <;> simp [codeBits_length]

set_option maxRecDepth 20000 in
set_option maxHeartbeats 400000 in
theorem fixed_adds (b base s : Nat) (v : Value) (bs : List Bool) (w : World) (h : Pen w b base v bs) (hl : bs.length + 9 < 70368744177664) (hs : s < 288) :
    Calls Tryd.prog 13 #[.pointer (some ⟨b, 0, none⟩), .int .i64 (s : Nat)] w (Adds b base w v bs (fixedBits s)) := by
  by_cases h1 : s < 144
  · go_enter Tryd.func13, Tryd.ntmps13
    go_wp2_with fail
    rw [show ((48 : Int) + (s : Int)) = ((48 + s : Nat) : Int) by omega]
    refine (code_adds b base (48 + s) 8 v bs w h (by omega) (by omega) (by omega)).mono ?_
    rintro e w1 ⟨rfl, v1, hb1, hw1⟩
    go_wp2
    go_end0
    exact ⟨rfl, v1, by rw [fixedBits, if_pos h1]; exact hb1, hw1⟩
  by_cases h2 : s < 256
  · go_enter Tryd.func13, Tryd.ntmps13
    go_wp2_with fail
    rw [show ((400 : Int) + (s : Int) - 144) = ((400 + s - 144 : Nat) : Int) by omega]
    refine (code_adds b base (400 + s - 144) 9 v bs w h (by omega) (by omega) (by omega)).mono ?_
    rintro e w1 ⟨rfl, v1, hb1, hw1⟩
    go_wp2
    go_end0
    exact ⟨rfl, v1, by rw [fixedBits, if_neg h1, if_pos h2]; exact hb1, hw1⟩
  by_cases h3 : s < 280
  · go_enter Tryd.func13, Tryd.ntmps13
    go_wp2_with fail
    rw [show ((s : Int) - 256) = ((s - 256 : Nat) : Int) by omega]
    refine (code_adds b base (s - 256) 7 v bs w h (by omega) (by omega) (by omega)).mono ?_
    rintro e w1 ⟨rfl, v1, hb1, hw1⟩
    go_wp2
    go_end0
    exact ⟨rfl, v1, by rw [fixedBits, if_neg h1, if_neg h2, if_pos h3]; exact hb1, hw1⟩
  · go_enter Tryd.func13, Tryd.ntmps13
    go_wp2_with fail
    rw [show ((192 : Int) + (s : Int) - 280) = ((192 + s - 280 : Nat) : Int) by omega]
    refine (code_adds b base (192 + s - 280) 8 v bs w h (by omega) (by omega) (by omega)).mono ?_
    rintro e w1 ⟨rfl, v1, hb1, hw1⟩
    go_wp2
    go_end0
    exact ⟨rfl, v1, by rw [fixedBits, if_neg h1, if_neg h2, if_neg h3]; exact hb1, hw1⟩

def beginBits (last : Bool) (kind : Nat) : List Bool := last :: numBits kind 2

set_option maxHeartbeats 400000 in
theorem begin_adds (b base kind : Nat) (last : Bool) (v : Value) (bs : List Bool) (w : World) (h : Pen w b base v bs) (hl : bs.length + 3 < 70368744177664) (hk : kind < 4) :
    Calls Tryd.prog 10 #[.pointer (some ⟨b, 0, none⟩), .bool last, .int .i64 (kind : Nat)] w (Adds b base w v bs (beginBits last kind)) := by
  cases last with
  | true =>
    go_enter Tryd.func10, Tryd.ntmps10
    go_wp2_with fail
    refine (bit_adds b base 1 v bs w h (by omega)).mono ?_
    rintro e w1 ⟨rfl, v1, hb1, hw1⟩
    go_wp2_with fail
    refine (number_adds b base kind 2 v1 _ w1 (pen_of h hb1 hw1) (by simp; omega) (by omega) (by omega)).mono ?_
    rintro e w2 ⟨rfl, v2, hb2, hw2⟩
    go_wp2
    go_end0
    exact ⟨rfl, v2, by simpa [beginBits] using hb2, hw1.trans hw2⟩
  | false =>
    go_enter Tryd.func10, Tryd.ntmps10
    go_wp2_with fail
    refine (bit_adds b base 0 v bs w h (by omega)).mono ?_
    rintro e w1 ⟨rfl, v1, hb1, hw1⟩
    go_wp2_with fail
    refine (number_adds b base kind 2 v1 _ w1 (pen_of h hb1 hw1) (by simp; omega) (by omega) (by omega)).mono ?_
    rintro e w2 ⟨rfl, v2, hb2, hw2⟩
    go_wp2
    go_end0
    exact ⟨rfl, v2, by simpa [beginBits] using hb2, hw1.trans hw2⟩
end Go.Proofs.YtbpahojchgpdnaaDoor

namespace Go.Proofs.YtbpahojchgpdnaaDoor
open Go.RowKit Go.Bel

def fixedAll (l : List Nat) : List Bool := l.flatMap fixedBits
theorem fixedAll_snoc (l : List Nat) (x : Nat) : fixedAll (l ++ [x]) = fixedAll l ++ fixedBits x := by simp [fixedAll]
theorem fixedAll_length (l : List Nat) : (fixedAll l).length ≤ 9 * l.length := by
  induction l with
  | nil => simp [fixedAll]
  | cons a l ih => 
    have e : fixedAll (a :: l) = fixedBits a ++ fixedAll l := by simp [fixedAll]
    rw [e, List.length_append, List.length_cons]; have := fixedBits_length a; omega

def litBits (l : List Nat) (last : Bool) : List Bool := beginBits last 1 ++ fixedAll l ++ fixedBits 256

set_option maxRecDepth 20000 in
set_option maxHeartbeats 400000 in
theorem literals_adds (b base : Nat) (s : ByteArray) (last : Bool) (v : Value) (bs : List Bool) (w : World) (h : Pen w b base v bs) (hl : bs.length + 600000 < 70368744177664) (hs : s.size ≤ 65535) :
    Calls Tryd.prog 6 #[.pointer (some ⟨b, 0, none⟩), .string s, .bool last] w (Adds b base w v bs (litBits (bytesOf s) last)) := by
  go_enter Tryd.func6, Tryd.ntmps6
  go_wp2_with fail
  refine (begin_adds b base 1 last v bs w h (by omega) (by omega)).mono ?_
  rintro e w1 ⟨rfl, v1, hb1, hw1⟩
  go_wp2
  go_loopw [6] (fun i wr => ∃ k : Nat, k ≤ s.size ∧ i = .int .i64 (k : Nat) ∧ ∃ v', Bw wr b base 25 5 v' (bs ++ beginBits last 1 ++ fixedAll ((bytesOf s).take k)) ∧ Wrt b w v wr v') (fun i _ => s.size - (intOf i).toNat)
  case atStart => exact ⟨0, Nat.zero_le _, rfl, v1, by simpa [fixedAll] using hb1, hw1⟩
  case round =>
    obtain ⟨k, hk, rfl, v', hb, hw⟩ := hrel
    by_cases hlt : k < s.size
    · have hts := bytesOf_take s k hlt
      have HT := hide hts
      clear hts
      have hc := s[k].toNat_lt
      have hfl := fixedAll_length ((bytesOf s).take k)
      have htl : ((bytesOf s).take k).length ≤ k := List.length_take_le _ _
      go_wp2_with fail
      refine (fixed_adds b base s[k].toNat v' _ wr (pen_of h hb hw) (by simp [beginBits, numBits_length]; omega) (by omega)).mono ?_
      rintro e w2 ⟨rfl, v2, hb2, hw2⟩
      go_wp2
      go_roundw
      case rel => exact ⟨k + 1, by omega, by go_num, v2, by rw [unhide HT, fixedAll_snoc, ← List.append_assoc]; exact hb2, hw.trans hw2⟩
      case measure => simp [intOf]; omega
    · have hfl := fixedAll_length ((bytesOf s).take k)
      have htl : ((bytesOf s).take k).length ≤ k := List.length_take_le _ _
      go_wp2_with fail
      refine (fixed_adds b base 256 v' _ wr (pen_of h hb hw) (by simp [beginBits, numBits_length]; omega) (by omega)).mono ?_
      rintro e w2 ⟨rfl, v2, hb2, hw2⟩
      go_wp2
      go_end0
      rw [List.take_of_length_le (by rw [bytesOf_length]; omega)] at hb2
      exact ⟨rfl, v2, by simpa [litBits, List.append_assoc] using hb2, hw.trans hw2⟩

def padBits (n : Nat) : List Bool := List.replicate ((8 - n % 8) % 8) false
def byteBits (l : List Nat) : List Bool := l.flatMap (numBits · 8)
theorem byteBits_snoc (l : List Nat) (x : Nat) : byteBits (l ++ [x]) = byteBits l ++ numBits x 8 := by simp [byteBits]
theorem byteBits_length (l : List Nat) : (byteBits l).length = 8 * l.length := by
  induction l with
  | nil => simp [byteBits]
  | cons a l ih =>
    have e : byteBits (a :: l) = numBits a 8 ++ byteBits l := by simp [byteBits]
    rw [e, List.length_append, List.length_cons, numBits_length]; omega
def storedBits (n : Nat) (l : List Nat) (last : Bool) : List Bool :=
  beginBits last 0 ++ padBits (n + 3) ++ numBits l.length 16 ++ numBits (65535 - l.length) 16 ++ byteBits l
theorem beginBits_length (last : Bool) (k : Nat) : (beginBits last k).length = 3 := by simp [beginBits, numBits_length]

theorem bw_cells {w : World} {b base t e : Nat} {v : Value} {bs : List Bool} (h : Bw w b base t e v bs) : w.cell? ⟨b, 1, none⟩ = some (.int .i64 (bs.length : Nat)) := by
  obtain ⟨B, hB⟩ := h
  exact (blk_two hB.row.blk).2.1

set_option maxRecDepth 20000 in
set_option maxHeartbeats 800000 in
theorem stored_adds (b base : Nat) (s : ByteArray) (last : Bool) (v : Value) (bs : List Bool) (w : World) (h : Pen w b base v bs) (hl : bs.length + 600000 < 70368744177664) (hs : s.size ≤ 65535) :
    Calls Tryd.prog 5 #[.pointer (some ⟨b, 0, none⟩), .string s, .bool last] w (Adds b base w v bs (storedBits bs.length (bytesOf s) last)) := by
  go_enter Tryd.func5, Tryd.ntmps5
  go_wp2_with fail
  refine (begin_adds b base 0 last v bs w h (by omega) (by omega)).mono ?_
  rintro e w1 ⟨rfl, v1, hb1, hw1⟩
  go_wp2
  go_loopw [] (fun wr => ∃ k : Nat, k ≤ (8 - (bs.length + 3) % 8) % 8 ∧ ∃ v', Bw wr b base 25 5 v' (bs ++ beginBits last 0 ++ List.replicate k false) ∧ Wrt b w v wr v') (fun wr => (8 - (intOf ((wr.cell? ⟨b, 1, none⟩).getD (.int .i64 0))).toNat % 8) % 8)
  case atStart => exact ⟨0, Nat.zero_le _, v1, by simpa using hb1, hw1⟩
  case round =>
    obtain ⟨k, hk, v', hb, hw⟩ := hrel
    have hc := bw_cells hb
    simp only [List.length_append, beginBits_length, List.length_replicate] at hc
    by_cases hlt : k < (8 - (bs.length + 3) % 8) % 8
    · have hne : (((bs.length + 3 + k : Nat) : Int) % 8 != 0) = true := by rw [bne_iff_ne]; omega
      go_wp2_with fail
      refine (bit_adds b base 0 v' _ wr (pen_of h hb hw) (by simp [beginBits_length]; omega)).mono ?_
      rintro e w2 ⟨rfl, v2, hb2, hw2⟩
      have hc2 := bw_cells hb2
      simp only [List.length_append, beginBits_length, List.length_replicate, List.length_cons, List.length_nil] at hc2
      go_wp2
      go_roundw
      case rel => exact ⟨k + 1, by omega, v2, by rw [List.replicate_succ', ← List.append_assoc]; exact hb2, hw.trans hw2⟩
      case measure => rw [hc, hc2]; simp only [Option.getD_some, intOf]; omega
    · have hne : (((bs.length + 3 + k : Nat) : Int) % 8 != 0) = false := by rw [bne_eq_false_iff_eq]; omega
      have hk' : k = (8 - (bs.length + 3) % 8) % 8 := by omega
      have hk7 : k ≤ 7 := by omega
      have HK := hide hk'
      clear hk'
      go_wp2_with fail
      refine (number_adds b base s.size 16 v' _ wr (pen_of h hb hw) (by simp [beginBits_length]; omega) (by omega) (by omega)).mono ?_
      rintro e w2 ⟨rfl, v2, hb2, hw2⟩
      go_wp2_with fail
      rw [show ((65535 : Int) - (s.size : Int)) = ((65535 - s.size : Nat) : Int) by omega]
      refine (number_adds b base (65535 - s.size) 16 v2 _ w2 (pen_of (pen_of h hb hw) hb2 hw2) (by simp [beginBits_length, numBits_length]; omega) (by omega) (by omega)).mono ?_
      rintro e w3 ⟨rfl, v3, hb3, hw3⟩
      have hw13 := (hw.trans hw2).trans hw3
      have HP := hide (pen_of (pen_of (pen_of h hb hw) hb2 hw2) hb3 hw3)
      clear hb hw hb2 hw2 hw3 hc hne
      go_wp2
      go_loopw [6] (fun i wr => ∃ j : Nat, j ≤ s.size ∧ i = .int .i64 (j : Nat) ∧ ∃ v', Bw wr b base 25 5 v' (bs ++ beginBits last 0 ++ List.replicate k false ++ numBits s.size 16 ++ numBits (65535 - s.size) 16 ++ byteBits ((bytesOf s).take j)) ∧ Wrt b w v wr v') (fun i _ => s.size - (intOf i).toNat)
      case atStart => exact ⟨0, Nat.zero_le _, rfl, v3, by simpa [byteBits] using hb3, hw13⟩
      case round =>
        obtain ⟨j, hj, rfl, v4, hb4, hw4⟩ := hrel
        by_cases hlt : j < s.size
        · have hts := bytesOf_take s j hlt
          have HT := hide hts
          clear hts
          have hc := s[j].toNat_lt
          have htl : ((bytesOf s).take j).length ≤ j := List.length_take_le _ _
          go_wp2_with fail
          refine (number_adds b base s[j].toNat 8 v4 _ _ (pen_of h hb4 hw4) (by simp [beginBits_length, numBits_length, byteBits_length]; omega) (by omega) (by omega)).mono ?_
          rintro e w5 ⟨rfl, v5, hb5, hw5⟩
          go_wp2
          go_roundw
          case rel => exact ⟨j + 1, by omega, by go_num, v5, by rw [unhide HT, byteBits_snoc, ← List.append_assoc]; exact hb5, hw4.trans hw5⟩
          case measure => simp [intOf]; omega
        · go_wp2
          go_end0
          rw [List.take_of_length_le (by rw [bytesOf_length]; omega)] at hb4
          refine ⟨rfl, v4, ?_, hw4⟩
          rw [unhide HK] at hb4
          rw [storedBits, bytesOf_length, padBits]
          simpa [List.append_assoc] using hb4
end Go.Proofs.YtbpahojchgpdnaaDoor
