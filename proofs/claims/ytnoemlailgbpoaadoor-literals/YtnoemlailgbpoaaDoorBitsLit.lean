/- Proved here: what the writer's literals and stored do. -/
import Derived.Test.YtnoemlailgbpoaaDoorBitsBlk
namespace Go.Proofs.YtnoemlailgbpoaaDoor
open Go.RowKit Go.Bel

def bytesOf (s : ByteArray) : List Nat := s.data.toList.map (·.toNat)
theorem bytesOf_length (s : ByteArray) : (bytesOf s).length = s.size := by
  unfold bytesOf; rw [List.length_map, Array.length_toList]; rfl
theorem bytesOf_lt (s : ByteArray) : ∀ x ∈ bytesOf s, x < 256 := by
  intro x hx
  simp only [bytesOf, List.mem_map] at hx
  obtain ⟨c, _, rfl⟩ := hx
  exact c.toNat_lt
theorem bytesOf_take (s : ByteArray) (k : Nat) (h : k < s.size) : (bytesOf s).take (k + 1) = (bytesOf s).take k ++ [s[k].toNat] := by
  rw [List.take_succ_eq_append_getElem (by rw [bytesOf_length]; exact h)]
  simp [bytesOf]
  rfl

def fixedAll (l : List Nat) : List Bool := l.flatMap fixedBits
theorem fixedAll_snoc (l : List Nat) (x : Nat) : fixedAll (l ++ [x]) = fixedAll l ++ fixedBits x := by simp [fixedAll]
theorem fixedAll_length (l : List Nat) : (fixedAll l).length ≤ 9 * l.length := by
  induction l with
  | nil => simp [fixedAll]
  | cons a l ih => 
    have e : fixedAll (a :: l) = fixedBits a ++ fixedAll l := by simp [fixedAll]
    rw [e, List.length_append, List.length_cons]; have := fixedBits_length a; omega

def litBits (l : List Nat) (last : Bool) : List Bool := beginBits last 1 ++ fixedAll l ++ fixedBits 256

set_option maxRecDepth 20000 in
set_option maxHeartbeats 400000 in
theorem literals_adds (b base : Nat) (s : ByteArray) (last : Bool) (v : Value) (bs : List Bool) (w : World) (h : Pen w b base v bs) (hl : bs.length + 600000 < 70368744177664) (hs : s.size ≤ 65535) :
    Calls Tryd.prog 9 #[.pointer (some ⟨b, 0, none⟩), .string s, .bool last] w (Adds b base w v bs (litBits (bytesOf s) last)) := by
  go_enter Tryd.func9, Tryd.ntmps9
  go_wp2_with fail
  refine (begin_adds b base 1 last v bs w h (by omega) (by omega)).mono ?_
  rintro e w1 ⟨rfl, v1, hb1, hw1⟩
  go_wp2
  go_loopw [6] (fun i wr => ∃ k : Nat, k ≤ s.size ∧ i = .int .i64 (k : Nat) ∧ ∃ v', Bw wr b base 31 5 v' (bs ++ beginBits last 1 ++ fixedAll ((bytesOf s).take k)) ∧ Wrt b w v wr v') (fun i _ => s.size - (intOf i).toNat)
  case atStart => exact ⟨0, Nat.zero_le _, rfl, v1, by simpa [fixedAll] using hb1, hw1⟩
  case round =>
    obtain ⟨k, hk, rfl, v', hb, hw⟩ := hrel
    by_cases hlt : k < s.size
    · have hts := bytesOf_take s k hlt
      have HT := hide hts
      clear hts
      have hc := s[k].toNat_lt
      have hfl := fixedAll_length ((bytesOf s).take k)
      have htl : ((bytesOf s).take k).length ≤ k := List.length_take_le _ _
      go_wp2_with fail
      refine (fixed_adds b base s[k].toNat v' _ wr (pen_of h hb hw) (by simp [beginBits, numBits_length]; omega) (by omega)).mono ?_
      rintro e w2 ⟨rfl, v2, hb2, hw2⟩
      go_wp2
      go_roundw
      case rel => exact ⟨k + 1, by omega, by go_num, v2, by rw [unhide HT, fixedAll_snoc, ← List.append_assoc]; exact hb2, hw.trans hw2⟩
      case measure => simp [intOf]; omega
    · have hfl := fixedAll_length ((bytesOf s).take k)
      have htl : ((bytesOf s).take k).length ≤ k := List.length_take_le _ _
      go_wp2_with fail
      refine (fixed_adds b base 256 v' _ wr (pen_of h hb hw) (by simp [beginBits, numBits_length]; omega) (by omega)).mono ?_
      rintro e w2 ⟨rfl, v2, hb2, hw2⟩
      go_wp2
      go_end0
      rw [List.take_of_length_le (by rw [bytesOf_length]; omega)] at hb2
      exact ⟨rfl, v2, by simpa [litBits, List.append_assoc] using hb2, hw.trans hw2⟩

def padBits (n : Nat) : List Bool := List.replicate ((8 - n % 8) % 8) false
def byteBits (l : List Nat) : List Bool := l.flatMap (numBits · 8)
theorem byteBits_snoc (l : List Nat) (x : Nat) : byteBits (l ++ [x]) = byteBits l ++ numBits x 8 := by simp [byteBits]
theorem byteBits_length (l : List Nat) : (byteBits l).length = 8 * l.length := by
  induction l with
  | nil => simp [byteBits]
  | cons a l ih =>
    have e : byteBits (a :: l) = numBits a 8 ++ byteBits l := by simp [byteBits]
    rw [e, List.length_append, List.length_cons, numBits_length]; omega
def storedBits (n : Nat) (l : List Nat) (last : Bool) : List Bool :=
  beginBits last 0 ++ padBits (n + 3) ++ numBits l.length 16 ++ numBits (65535 - l.length) 16 ++ byteBits l
theorem beginBits_length (last : Bool) (k : Nat) : (beginBits last k).length = 3 := by simp [beginBits, numBits_length]

theorem bw_cells {w : World} {b base t e : Nat} {v : Value} {bs : List Bool} (h : Bw w b base t e v bs) : w.cell? ⟨b, 1, none⟩ = some (.int .i64 (bs.length : Nat)) := by
  obtain ⟨B, hB⟩ := h
  exact (blk_two hB.row.blk).2.1

set_option maxRecDepth 20000 in
set_option maxHeartbeats 800000 in
theorem stored_adds (b base : Nat) (s : ByteArray) (last : Bool) (v : Value) (bs : List Bool) (w : World) (h : Pen w b base v bs) (hl : bs.length + 600000 < 70368744177664) (hs : s.size ≤ 65535) :
    Calls Tryd.prog 8 #[.pointer (some ⟨b, 0, none⟩), .string s, .bool last] w (Adds b base w v bs (storedBits bs.length (bytesOf s) last)) := by
  go_enter Tryd.func8, Tryd.ntmps8
  go_wp2_with fail
  refine (begin_adds b base 0 last v bs w h (by omega) (by omega)).mono ?_
  rintro e w1 ⟨rfl, v1, hb1, hw1⟩
  go_wp2
  go_loopw [] (fun wr => ∃ k : Nat, k ≤ (8 - (bs.length + 3) % 8) % 8 ∧ ∃ v', Bw wr b base 31 5 v' (bs ++ beginBits last 0 ++ List.replicate k false) ∧ Wrt b w v wr v') (fun wr => (8 - (intOf ((wr.cell? ⟨b, 1, none⟩).getD (.int .i64 0))).toNat % 8) % 8)
  case atStart => exact ⟨0, Nat.zero_le _, v1, by simpa using hb1, hw1⟩
  case round =>
    obtain ⟨k, hk, v', hb, hw⟩ := hrel
    have hc := bw_cells hb
    simp only [List.length_append, beginBits_length, List.length_replicate] at hc
    by_cases hlt : k < (8 - (bs.length + 3) % 8) % 8
    · have hne : (((bs.length + 3 + k : Nat) : Int) % 8 != 0) = true := by rw [bne_iff_ne]; omega
      go_wp2_with fail
      refine (bit_adds b base 0 v' _ wr (pen_of h hb hw) (by simp [beginBits_length]; omega)).mono ?_
      rintro e w2 ⟨rfl, v2, hb2, hw2⟩
      have hc2 := bw_cells hb2
      simp only [List.length_append, beginBits_length, List.length_replicate, List.length_cons, List.length_nil] at hc2
      go_wp2
      go_roundw
      case rel => exact ⟨k + 1, by omega, v2, by rw [List.replicate_succ', ← List.append_assoc]; exact hb2, hw.trans hw2⟩
      case measure => rw [hc, hc2]; simp only [Option.getD_some, intOf]; omega
    · have hne : (((bs.length + 3 + k : Nat) : Int) % 8 != 0) = false := by rw [bne_eq_false_iff_eq]; omega
      have hk' : k = (8 - (bs.length + 3) % 8) % 8 := by omega
      have hk7 : k ≤ 7 := by omega
      have HK := hide hk'
      clear hk'
      go_wp2_with fail
      refine (number_adds b base s.size 16 v' _ wr (pen_of h hb hw) (by simp [beginBits_length]; omega) (by omega) (by omega)).mono ?_
      rintro e w2 ⟨rfl, v2, hb2, hw2⟩
      go_wp2_with fail
      rw [show ((65535 : Int) - (s.size : Int)) = ((65535 - s.size : Nat) : Int) by omega]
      refine (number_adds b base (65535 - s.size) 16 v2 _ w2 (pen_of (pen_of h hb hw) hb2 hw2) (by simp [beginBits_length, numBits_length]; omega) (by omega) (by omega)).mono ?_
      rintro e w3 ⟨rfl, v3, hb3, hw3⟩
      have hw13 := (hw.trans hw2).trans hw3
      have HP := hide (pen_of (pen_of (pen_of h hb hw) hb2 hw2) hb3 hw3)
      clear hb hw hb2 hw2 hw3 hc hne
      go_wp2
      go_loopw [6] (fun i wr => ∃ j : Nat, j ≤ s.size ∧ i = .int .i64 (j : Nat) ∧ ∃ v', Bw wr b base 31 5 v' (bs ++ beginBits last 0 ++ List.replicate k false ++ numBits s.size 16 ++ numBits (65535 - s.size) 16 ++ byteBits ((bytesOf s).take j)) ∧ Wrt b w v wr v') (fun i _ => s.size - (intOf i).toNat)
      case atStart => exact ⟨0, Nat.zero_le _, rfl, v3, by simpa [byteBits] using hb3, hw13⟩
      case round =>
        obtain ⟨j, hj, rfl, v4, hb4, hw4⟩ := hrel
        by_cases hlt : j < s.size
        · have hts := bytesOf_take s j hlt
          have HT := hide hts
          clear hts
          have hc := s[j].toNat_lt
          have htl : ((bytesOf s).take j).length ≤ j := List.length_take_le _ _
          go_wp2_with fail
          refine (number_adds b base s[j].toNat 8 v4 _ _ (pen_of h hb4 hw4) (by simp [beginBits_length, numBits_length, byteBits_length]; omega) (by omega) (by omega)).mono ?_
          rintro e w5 ⟨rfl, v5, hb5, hw5⟩
          go_wp2
          go_roundw
          case rel => exact ⟨j + 1, by omega, by go_num, v5, by rw [unhide HT, byteBits_snoc, ← List.append_assoc]; exact hb5, hw4.trans hw5⟩
          case measure => simp [intOf]; omega
        · go_wp2
          go_end0
          rw [List.take_of_length_le (by rw [bytesOf_length]; omega)] at hb4
          refine ⟨rfl, v4, ?_, hw4⟩
          rw [unhide HK] at hb4
          rw [storedBits, bytesOf_length, padBits]
          simpa [List.append_assoc] using hb4
end Go.Proofs.YtnoemlailgbpoaaDoor
