/- Proved here: a Gzip whatever its head has is read to what is in it, with its name; nothing of the program. Proved here: what pick and check answer. Proved here: rows of bytes, texts up to a 0, for Named. Proved here: what the program's own variables hold, by what the row says of them. -/
import Derived.Test.YtbpahojchgpdnaaGreatDoorAgain
import Derived.Test.YtbpahojchgpdnaaGreatDoorSummed
import Derived.Test.YtbpahojchgpdnaaGreatDoorGround
import Derived.Test.YtbpahojchgpdnaaGreatDoorOwn
import Derived.Deep.DeepCutAuto
import Derived.Lib.AppendStr
import Derived.Test.YtbpahojchgpdnaaGreatDoorFrame
import Derived.Lib.LaidTab
namespace Go.Proofs.YtbpahojchgpdnaaGreatDoor
open Go.RowKit Go.Bel Go.Maps

theorem text_read {A N C : List Nat} (hB : AllB (A ++ (N ++ ([0] ++ C)))) (hN : ∀ y ∈ N, y ≠ 0) : TextR (A ++ (N ++ ([0] ++ C))) (8 * A.length) N true (8 * (A.length + N.length + 1)) := by
  induction N generalizing A with
  | nil =>
    have h0 := get_mid A ([] ++ ([0] ++ C)) 0
    rw [Nat.add_zero] at h0
    have := TextR.zero (B := A ++ ([] ++ ([0] ++ C))) (8 * A.length) (by simp; omega) (by rw [num_at, h0]; rfl)
    rw [show 8 * (A.length + ([] : List Nat).length + 1) = 8 * A.length + 8 by simp; omega]
    exact this
  | cons x N ih =>
    have e : A ++ (x :: N ++ ([0] ++ C)) = (A ++ [x]) ++ (N ++ ([0] ++ C)) := by simp
    have h0 := get_mid A (x :: N ++ ([0] ++ C)) 0
    rw [Nat.add_zero] at h0
    have hx : x < 256 := hB x (by simp)
    have hn : numAt (A ++ (x :: N ++ ([0] ++ C))) (8 * A.length) 8 = x := by
      rw [num_at, h0]
      simp
      omega
    have h2 := ih (A := A ++ [x]) (by rw [← e]; exact hB) (fun y hy => hN y (by simp [hy]))
    rw [← e, List.length_append, show ([x] : List Nat).length = 1 from rfl] at h2
    have := TextR.more (B := A ++ (x :: N ++ ([0] ++ C))) (8 * A.length) N true _ (by simp; omega) (by rw [hn]; exact hN x (by simp)) (by rw [show 8 * A.length + 8 = 8 * (A.length + 1) by omega]; exact h2)
    rw [hn] at this
    rw [show A.length + (x :: N).length + 1 = A.length + 1 + N.length + 1 by simp; omega]
    exact this

/- a Gzip's head, part by part -/
def hd10 (f : Nat) : List Nat := [31, 139, 8, f, 1, 2, 3, 4, 5, 6]
def hdExtra (f : Nat) (E : List Nat) : List Nat := if f / 4 % 2 = 1 then [E.length % 256, E.length / 256] ++ E else []
def hdText (b : Nat) (N : List Nat) : List Nat := if b % 2 = 1 then N ++ [0] else []
def hdCheck (f : Nat) (A : List Nat) : List Nat := if f / 2 % 2 = 1 then [crcWith 0 A % 256, crcWith 0 A / 256 % 256] else []
def hdA (f : Nat) (E N R : List Nat) : List Nat := hd10 f ++ hdExtra f E ++ hdText (f / 8) N ++ hdText (f / 16) R
def hdAll (f : Nat) (E N R : List Nat) : List Nat := hdA f E N R ++ hdCheck f (hdA f E N R)

theorem nm_check {f : Nat} {A P ys : List Nat} {most : Nat} {nm : List Nat} (hR : ReadsAs P ys) (hB : AllB ((A ++ hdCheck f A) ++ gzEnd P ys [])) (hy : ys.length < 4294967296) (hm : ys.length ≤ most) : gzCheck ((A ++ hdCheck f A) ++ gzEnd P ys []) most f (8 * A.length) nm 0 ys ((A ++ hdCheck f A) ++ gzEnd P ys []).length nm := by
  have hb := (gz_body (most := most) (nm := nm) hR hB hy).1 hm
  have hl : ((A ++ hdCheck f A) ++ gzEnd P ys []).length = (A ++ hdCheck f A).length + P.length + 8 := by simp [gzEnd, le4]; omega
  rw [hl]
  unfold gzCheck
  by_cases h : f / 2 % 2 = 1
  · rw [if_pos h]
    have e : hdCheck f A = [crcWith 0 A % 256, crcWith 0 A / 256 % 256] := by unfold hdCheck; rw [if_pos h]
    rw [e] at hb hl ⊢
    have n := num_le2 A (gzEnd P ys []) (crcWith 0 A % 256) (crcWith 0 A / 256 % 256) (by omega) (by omega)
    rw [← List.append_assoc] at n
    rw [if_pos (by rw [hl]; simp; omega)]
    have et : (A ++ [crcWith 0 A % 256, crcWith 0 A / 256 % 256] ++ gzEnd P ys []).take (8 * A.length / 8) = A := by
      rw [show 8 * A.length / 8 = A.length by omega, List.append_assoc, List.take_left]
    rw [if_pos (by rw [n, et]; omega)]
    rw [List.length_append] at hb ⊢
    rw [show 8 * A.length + 16 = 8 * (A.length + ([crcWith 0 A % 256, crcWith 0 A / 256 % 256] : List Nat).length) by simp; omega]
    exact hb
  · rw [if_neg h]
    have e : hdCheck f A = [] := by unfold hdCheck; rw [if_neg h]
    rw [e, List.append_nil] at hb ⊢
    exact hb

theorem nm_read {f : Nat} {E N R P ys : List Nat} {most : Nat} (hf : f < 32) (hE : E.length ≤ 65535) (hN : ∀ y ∈ N, y ≠ 0) (hR0 : ∀ y ∈ R, y ≠ 0) (hR : ReadsAs P ys) (hB : AllB (hdAll f E N R ++ gzEnd P ys [])) (hy : ys.length < 4294967296) (hm : ys.length ≤ most) :
    gzAll (hdAll f E N R ++ gzEnd P ys []) most 0 ys (hdAll f E N R ++ gzEnd P ys []).length (if f / 8 % 2 = 1 then latinB N else []) := by
  obtain ⟨B, hBd⟩ : ∃ B, B = hdAll f E N R ++ gzEnd P ys [] := ⟨_, rfl⟩
  have hck := fun nm => nm_check (f := f) (A := hdA f E N R) (most := most) (nm := nm) hR hB hy hm
  have hall : hdAll f E N R = hdA f E N R ++ hdCheck f (hdA f E N R) := rfl
  rw [← hall, ← hBd] at hck
  rw [← hBd] at hB ⊢
  -- behind the remark
  have hrm : ∀ nm, gzRemark B most f (8 * (hd10 f ++ hdExtra f E ++ hdText (f / 8) N).length) nm 0 ys B.length nm := by
    intro nm
    unfold gzRemark
    by_cases h : f / 16 % 2 = 1
    · rw [if_pos h]
      have e : hdText (f / 16) R = R ++ [0] := by unfold hdText; rw [if_pos h]
      have eB : B = (hd10 f ++ hdExtra f E ++ hdText (f / 8) N) ++ (R ++ ([0] ++ (hdCheck f (hdA f E N R) ++ gzEnd P ys []))) := by
        rw [hBd, hall]
        unfold hdA
        rw [e]
        simp only [List.append_assoc]
      refine ⟨R, true, 8 * ((hd10 f ++ hdExtra f E ++ hdText (f / 8) N).length + R.length + 1), ?_, ?_⟩
      · rw [eB] at hB ⊢
        exact text_read hB hR0
      · rw [if_pos rfl]
        have := hck nm
        rw [show (hdA f E N R).length = (hd10 f ++ hdExtra f E ++ hdText (f / 8) N).length + R.length + 1 by unfold hdA; rw [e]; simp only [List.length_append, List.length_cons, List.length_nil]; omega] at this
        exact this
    · rw [if_neg h]
      have e : hdText (f / 16) R = [] := by unfold hdText; rw [if_neg h]
      have := hck nm
      rw [show (hdA f E N R).length = (hd10 f ++ hdExtra f E ++ hdText (f / 8) N).length by unfold hdA; rw [e, List.append_nil]] at this
      exact this
  have hnm : gzName B most f (8 * (hd10 f ++ hdExtra f E).length) [] 0 ys B.length (if f / 8 % 2 = 1 then latinB N else []) := by
    unfold gzName
    by_cases h : f / 8 % 2 = 1
    · rw [if_pos h, if_pos h]
      have e : hdText (f / 8) N = N ++ [0] := by unfold hdText; rw [if_pos h]
      have eB : B = (hd10 f ++ hdExtra f E) ++ (N ++ ([0] ++ (hdText (f / 16) R ++ (hdCheck f (hdA f E N R) ++ gzEnd P ys [])))) := by
        rw [hBd, hall]
        unfold hdA
        rw [e]
        simp only [List.append_assoc]
      refine ⟨N, true, 8 * ((hd10 f ++ hdExtra f E).length + N.length + 1), ?_, ?_⟩
      · rw [eB] at hB ⊢
        exact text_read hB hN
      · rw [if_pos rfl, List.nil_append]
        have := hrm (latinB N)
        rw [show (hd10 f ++ hdExtra f E ++ hdText (f / 8) N).length = (hd10 f ++ hdExtra f E).length + N.length + 1 by rw [e]; simp only [List.length_append, List.length_cons, List.length_nil]; omega] at this
        exact this
    · rw [if_neg h, if_neg h]
      have e : hdText (f / 8) N = [] := by unfold hdText; rw [if_neg h]
      have := hrm []
      rw [show (hd10 f ++ hdExtra f E ++ hdText (f / 8) N).length = (hd10 f ++ hdExtra f E).length by rw [e, List.append_nil]] at this
      exact this
  have hBl : B.length = (hdAll f E N R).length + (P.length + 8) := by rw [hBd]; simp [gzEnd, le4]
  have eB : B = hd10 f ++ (hdExtra f E ++ (hdText (f / 8) N ++ (hdText (f / 16) R ++ (hdCheck f (hdA f E N R) ++ gzEnd P ys [])))) := by
    rw [hBd, hall]
    unfold hdA
    simp only [List.append_assoc]
  have g0 : ∀ i, i < 10 → B[i]?.getD 0 = (hd10 f)[i]?.getD 0 := fun i hi => by rw [eB, List.getElem?_append_left (by exact hi)]
  refine gz_start (f := f) (by rw [eB]; simp [hd10]) (g0 0 (by omega)) (g0 1 (by omega)) (g0 2 (by omega)) (g0 3 (by omega)) hf ?_
  unfold gzExtra
  by_cases h : f / 4 % 2 = 1
  · rw [if_pos h]
    have e : hdExtra f E = [E.length % 256, E.length / 256] ++ E := by unfold hdExtra; rw [if_pos h]
    rw [e] at eB hnm
    have n := num_le2 (hd10 f) (E ++ (hdText (f / 8) N ++ (hdText (f / 16) R ++ (hdCheck f (hdA f E N R) ++ gzEnd P ys [])))) (E.length % 256) (E.length / 256) (by omega) (by omega)
    have eB2 : B = hd10 f ++ ([E.length % 256, E.length / 256] ++ (E ++ (hdText (f / 8) N ++ (hdText (f / 16) R ++ (hdCheck f (hdA f E N R) ++ gzEnd P ys []))))) := by rw [eB]; simp only [List.append_assoc]
    rw [← eB2, show 8 * (hd10 f).length = 80 from rfl, show E.length % 256 + 256 * (E.length / 256) = E.length by omega] at n
    have hl : B.length = 12 + E.length + (hdText (f / 8) N ++ (hdText (f / 16) R ++ (hdCheck f (hdA f E N R) ++ gzEnd P ys []))).length := by rw [eB2]; simp only [List.length_append]; simp [hd10]; omega
    rw [if_pos (by omega), n]
    unfold gzPass
    rw [if_pos h, if_pos (by omega)]
    rw [show 8 * (hd10 f ++ ([E.length % 256, E.length / 256] ++ E)).length = 80 + 16 + 8 * E.length by simp [hd10]; omega] at hnm
    exact hnm
  · rw [if_neg h]
    have e : hdExtra f E = [] := by unfold hdExtra; rw [if_neg h]
    rw [e, List.append_nil] at hnm
    exact hnm

theorem nm_no {B : List Nat} {most f' : Nat} (h10 : 10 ≤ B.length) (h : ∀ i, i < 3 → B[i]?.getD 0 = (hd10 0)[i]?.getD 0) (h3 : B[3]?.getD 0 = f') (hf : 32 ≤ f') (hf2 : f' < 256) : gzAll B most 4 [] 0 [] :=
  gz_flags h10 (h 0 (by omega)) (h 1 (by omega)) (h 2 (by omega)) h3 hf hf2
end Go.Proofs.YtbpahojchgpdnaaGreatDoor

namespace Go.Proofs.YtbpahojchgpdnaaGreatDoor
open Go.RowKit Go.Bel

set_option maxRecDepth 20000 in
set_option maxHeartbeats 1000000 in
theorem checkB_any (g off cap : Nat) (B : List Nat) (w : World) (hS : Go.Bel.Src w g off B) (hl : B.length ≤ 140737488355328) :
    Calls Tryz.prog 27 #[.slice (some ⟨g, off, none⟩) B.length cap] w fun r w' => r = .returned (.int .u32 (crcWith 0 B : Nat)) ∧ w' = w := by
  have hall : ∀ y ∈ B, y < 256 := fun y hy => by
    obtain ⟨i, hi, rfl⟩ := List.getElem_of_mem hy
    have := hS.byte i
    rw [List.getElem?_eq_getElem hi] at this
    exact this
  go_enter Tryz.func27, Tryz.ntmps27
  go_wp2_with fail
  go_loopg [3, 4, 5, 6] B.length (fun k u3 u4 u5 u6 wr => ∃ i : Nat, u4 = .int .i64 (i : Nat) ∧ k + i = B.length ∧ u3 = .int .u32 (crcFold 4294967295 (B.take i) : Nat) ∧ wr = w)
  case atStart => exact ⟨0, rfl, by omega, rfl, rfl⟩
  case round =>
    obtain ⟨i, rfl, hk, rfl, rfl⟩ := hrel
    have b1 : crcFold 4294967295 (B.take i) < 4294967296 := crcFold_lt _ _ (by omega) (fun y hy => hall y (List.mem_of_mem_take hy))
    by_cases hend : i = B.length
    · have hnl : ¬ ((i : Int) < (B.length : Int)) := by omega
      have HE := hide (show crcWith 0 B = 4294967295 - crcFold 4294967295 B from rfl)
      rw [List.take_of_length_le (by omega)] at b1 ⊢
      clear hend
      generalize crcFold 4294967295 B = Q at *
      have hn : bits .xor .u32 (Q : Int) 4294967295 = ((4294967295 - Q : Nat) : Int) := by
        rw [show (4294967295 : Int) = ((4294967295 : Nat) : Int) from rfl, u32_xor_nat Q 4294967295 b1 (by omega), Nat.xor_comm, ← u32_xor_nat 4294967295 Q (by omega) b1]
        exact not_u32 Q b1
      go_wp2_with fail
      go_ret
      refine ⟨?_, rfl⟩
      rw [unhide HE]
      rfl
    · have hnl : (i : Int) < (B.length : Int) := by omega
      have hi0 : (0 : Int) ≤ (i : Int) := by omega
      have hlt : i < B.length := by omega
      have hcell := hS.cell i hlt
      have hx := hS.byte i
      have hT0 : B.take (i + 1) = B.take i ++ [B[i]?.getD 0] := by
        rw [List.take_succ_eq_append_getElem hlt, List.getElem?_eq_getElem hlt]
        rfl
      have HT := hide (show crcFold 4294967295 (B.take (i + 1)) = crcBits 8 (crcFold 4294967295 (B.take i) ^^^ B[i]?.getD 0) from by
        rw [hT0, crcFold_snoc]
        rfl)
      clear hT0
      generalize B[i]?.getD 0 = bx at *
      generalize crcFold 4294967295 (B.take i) = Q at *
      have e1 := u32_xor_nat Q bx b1 (by omega)
      have b2 := crcXor_lt Q bx b1 hx
      have hx2 : (bx : Int) < 4294967296 := by omega
      go_wp2_with fail
      clear e1
      generalize Q ^^^ bx = C0 at *
      go_loopg [3, 5, 6] 8 (fun k u3 u5 u6 wr2 => ∃ j : Nat, u5 = .int .i64 (j : Nat) ∧ k + j = 8 ∧ u3 = .int .u32 (crcBits j C0 : Nat) ∧ wr2 = wr)
      case atStart => exact ⟨0, rfl, by omega, rfl, rfl⟩
      case round =>
        obtain ⟨j, rfl, hkj, rfl, rfl⟩ := hrel
        by_cases hj : j = 8
        · subst hj
          go_wp2_with fail
          go_roundg (B.length - (i + 1))
          case measure => omega
          case rel => exact ⟨i + 1, rfl, by omega, by rw [unhide HT], rfl⟩
        · have hj8 : (j : Int) < 8 := by omega
          have b3 := crcBits_lt j C0 b2
          have HT2 := hide (show crcBits (j + 1) C0 = crcBit (crcBits j C0) from rfl)
          generalize crcBits j C0 = C at *
          by_cases ho : C % 2 = 1
          · have hoi : ((C : Int) % 2 == 1) = true := by rw [beq_iff_eq]; omega
            have e2 : bits .xor .u32 ((C : Int) / 2) 3988292384 = ((crcBit C : Nat) : Int) := by
              rw [crcBit_odd C ho, ← u32_xor_nat (C / 2) 3988292384 (by omega) (by omega)]
              simp
            go_wp2_with fail
            go_roundg (gk - 1)
            case measure => omega
            case rel => exact ⟨j + 1, rfl, by omega, by rw [unhide HT2], rfl⟩
          · have hoi : ((C : Int) % 2 == 1) = false := by rw [beq_eq_false_iff_ne]; omega
            have e2 : (C : Int) / 2 = ((crcBit C : Nat) : Int) := by rw [crcBit_even C ho]; omega
            have HE2 := hide e2
            clear e2
            go_wp2_with fail
            go_roundg (gk - 1)
            case measure => omega
            case rel => exact ⟨j + 1, rfl, by omega, by rw [unhide HT2, unhide HE2], rfl⟩

set_option maxRecDepth 20000 in
theorem pick_ex (c : Int) (n : Nat) (h1 : -9223372036854775808 ≤ c) (h2 : c ≤ 9223372036854775807) (hn : 0 < n) (hn2 : n ≤ 4294967296) :
    ∃ k : Nat, k < n ∧ ∀ w : World, Calls Tryz.prog 19 #[.int .i64 c, .int .i64 (n : Nat)] w fun e w' => e = .returned (.int .i64 (k : Nat)) ∧ w' = w := by
  have hne : ¬ (n : Int) = 0 := by omega
  have hneb : ((n : Int) == 0) = false := beq_eq_false_iff_ne.2 hne
  by_cases hc : c < 0
  · obtain ⟨m, hm⟩ : ∃ m : Nat, -(c + 1) = (m : Int) := ⟨(-(c + 1)).toNat, by omega⟩
    have HR := hide (show (m : Int) % (n : Int) = ((m % n : Nat) : Int) by simp)
    refine ⟨m % n, Nat.mod_lt m hn, fun w => ?_⟩
    go_enter Tryz.func19, Tryz.ntmps19
    go_wp2
    go_ret
    first | exact ⟨rfl, rfl⟩ | exact ⟨by rw [← unhide HR]; rfl, rfl⟩
  · obtain ⟨m, rfl⟩ : ∃ m : Nat, c = (m : Int) := ⟨c.toNat, by omega⟩
    have HR := hide (show (m : Int) % (n : Int) = ((m % n : Nat) : Int) by simp)
    refine ⟨m % n, Nat.mod_lt m hn, fun w => ?_⟩
    go_enter Tryz.func19, Tryz.ntmps19
    go_wp2
    go_ret
    first | exact ⟨rfl, rfl⟩ | exact ⟨by rw [← unhide HR]; rfl, rfl⟩
theorem pick_any (c : Int) (n : Nat) (w : World) (h1 : -9223372036854775808 ≤ c) (h2 : c ≤ 9223372036854775807) (hn : 0 < n) (hn2 : n ≤ 4294967296) :
    Calls Tryz.prog 19 #[.int .i64 c, .int .i64 (n : Nat)] w fun e w' => ∃ k : Nat, k < n ∧ e = .returned (.int .i64 (k : Nat)) ∧ w' = w := by
  obtain ⟨k, hk, h⟩ := pick_ex c n h1 h2 hn hn2
  exact (h w).mono (by rintro e w' ⟨rfl, rfl⟩; exact ⟨k, hk, rfl, rfl⟩)
end Go.Proofs.YtbpahojchgpdnaaGreatDoor

namespace Go.Proofs.YtbpahojchgpdnaaGreatDoor
open Go.RowKit Go.Bel Go.Maps

/- the head as far as it is made -/
structure HdAt (w1 wr : World) (v : Value) (L : List Nat) : Prop where
  row : wr.ownsRow w1.heap.size 5 1 v L.length (u8s L)
  st : Step (fun _ => False) w1 wr

theorem strCells_u8s (s : ByteArray) : Lib.strCells s = u8s (bytesOf s) := by
  unfold Lib.strCells u8s bytesOf
  simp
theorem u8s_append (a b : List Nat) : u8s (a ++ b) = u8s a ++ u8s b := by simp [u8s]

theorem baOf_size (l : List Nat) : (baOf l).size = l.length := by simp [baOf, ByteArray.size]
theorem nm_snoc (l : List Nat) (c : Nat) : latinB (l ++ [c]) = latinB l ++ latinC c := by simp [latinB]
theorem nm_len (l : List Nat) : (latinB l).length ≤ 2 * l.length := by
  induction l with
  | nil => simp [latinB]
  | cons c l ih =>
    have h1 : (latinC c).length ≤ 2 := by unfold latinC; split <;> simp
    have h2 : latinB (c :: l) = latinC c ++ latinB l := by simp [latinB]
    rw [h2, List.length_append, List.length_cons]
    omega
theorem baOf_append (a b : List Nat) : baOf (a ++ b) = baOf a ++ baOf b := by
  apply ByteArray.ext
  simp [baOf]
theorem nm_get (s : ByteArray) (j : Nat) (h : j < s.size) (h2 : j < (bytesOf s).length) : (bytesOf s)[j] = s[j].toNat := by simp [bytesOf]; rfl
theorem bytesOf_step (s : ByteArray) (j : Nat) (h : j < s.size) : (bytesOf s).take (j + 1) = (bytesOf s).take j ++ [s[j].toNat] := by
  rw [List.take_succ_eq_append_getElem (by rw [bytesOf_length]; exact h), nm_get s j h]

theorem tw_len (q : Nat → Bool) (l : List Nat) : (l.takeWhile q).length ≤ l.length := by
  induction l with
  | nil => simp
  | cons a l ih => rw [List.takeWhile_cons]; split <;> simp; omega

theorem tw_nz (l : List Nat) : ∀ y ∈ l.takeWhile (fun x => x != 0), y ≠ 0 := by
  induction l with
  | nil => simp
  | cons a l ih =>
    intro y hy
    rw [List.takeWhile_cons] at hy
    split at hy
    · rename_i ha
      rcases List.mem_cons.1 hy with rfl | hy
      · simpa using ha
      · exact ih y hy
    · simp at hy
theorem or_32 : ∀ f : Nat, f < 32 → bits .or .u8 (f : Int) 32 = ((f + 32 : Nat) : Int) ∧ bits .or .u8 (f : Int) 64 = ((f + 64 : Nat) : Int) ∧ bits .or .u8 (f : Int) 128 = ((f + 128 : Nat) : Int) := by decide +kernel
theorem or_k (f k : Nat) (hf : f < 32) (hk : k < 3) : bits .or .u8 (f : Int) (IntKind.u8.wrap (32 * 2 ^ k)) = ((f + 32 * 2 ^ k : Nat) : Int) ∧ bits .or .u8 (f : Int) (32 * 2 ^ k % 256) = ((f + 32 * 2 ^ k : Nat) : Int) ∧ f + 32 * 2 ^ k < 256 ∧ 32 ≤ f + 32 * 2 ^ k := by
  obtain ⟨h1, h2, h3⟩ := or_32 f hf
  have hk3 : k = 0 ∨ k = 1 ∨ k = 2 := by omega
  rcases hk3 with rfl | rfl | rfl
  · exact ⟨h1, h1, by omega, by omega⟩
  · exact ⟨h2, h2, by omega, by omega⟩
  · exact ⟨h3, h3, by omega, by omega⟩
theorem src_set {w : World} {g i x : Nat} {B : List Nat} (h : Go.Bel.Src w g 0 B) (hi : i < B.length) (hx : x < 256) : Go.Bel.Src (w.setCell ⟨g, i, none⟩ (.int .u8 (x : Nat))) g 0 (B.set i x) := by
  refine ⟨fun j hj => ?_, fun j => ?_, by rw [List.length_set]; exact h.much⟩
  · rw [List.length_set] at hj
    have hc := h.cell i hi
    rw [Nat.zero_add] at hc ⊢
    by_cases e : j = i
    · subst e
      rw [World.cell?_setCell_same' _ _ _ (by rw [hc]; rfl), List.getElem?_set_self hi]
      rfl
    · rw [World.cell?_setCell_other _ _ _ _ (by simp), List.getElem?_set_ne (Ne.symm e)]
      have := h.cell j hj
      rwa [Nat.zero_add] at this
  · by_cases e : j = i
    · subst e
      rw [List.getElem?_set_self hi]; exact hx
    · rw [List.getElem?_set_ne (Ne.symm e)]; exact h.byte j
theorem u8s_length (l : List Nat) : (u8s l).length = l.length := by simp [u8s]

/- a text up to its first 0 -/
theorem cut_more (l : List Nat) (j : Nat) (hj : j < l.length) (h : ∀ y ∈ l.take j, y ≠ 0) (hx : l[j] ≠ 0) : ∀ y ∈ l.take (j + 1), y ≠ 0 := by
  intro y hy
  rw [List.take_succ_eq_append_getElem hj] at hy
  rcases List.mem_append.1 hy with hy | hy
  · exact h y hy
  · simp at hy; rw [hy]; exact hx
theorem cut_end (l : List Nat) (j : Nat) (hj : j ≤ l.length) (h : ∀ y ∈ l.take j, y ≠ 0) (hx : ∀ hj : j < l.length, l[j] = 0) : l.takeWhile (fun x => x != 0) = l.take j := by
  induction l generalizing j with
  | nil => simp
  | cons a l ih =>
    cases j with
    | zero =>
      have := hx (by simp)
      simp at this
      simp [this]
    | succ j =>
      have ha : a ≠ 0 := h a (by simp)
      have := ih j (by simpa using hj) (fun y hy => h y (by simp [hy])) (fun hj => by have := hx (by simpa using hj); simpa using this)
      simp [ha, this]

theorem HdAt.grown {w1 wr w2 w3 : World} {v v' : Value} {L N : List Nat} (h : HdAt w1 wr v L) (hs : Step (fun _ => False) wr w2) (hg : w2.grownBy w3 v.ownBlock) (hn : w3.ownsRow w1.heap.size 5 1 v' (L.length + N.length) (u8s L ++ u8s N)) : HdAt w1 w3 v' (L ++ N) := by
  refine ⟨by rw [List.length_append, u8s_append]; exact hn, (h.st.trans hs).grown hg (fun k hk => .inr (h.row.lt k hk).1)⟩
theorem HdAt.step {w1 wr w2 : World} {v : Value} {L : List Nat} (h : HdAt w1 wr v L) (hs : Step (fun _ => False) wr w2) : HdAt w1 w2 v L :=
  ⟨ownsRow_of_block h.row (fun k hk => hs.block k (h.row.lt k hk).2 (fun x => x)), h.st.trans hs⟩
theorem HdAt.form {w1 wr : World} {v : Value} {L : List Nat} (h : HdAt w1 wr v L) (h0 : 0 < L.length) : ∃ g c, v = .slice (some ⟨g, 0, none⟩) L.length c := by
  rcases h.row.2 with ⟨_, h1⟩ | ⟨g, cap, _, hv, _⟩
  · omega
  · exact ⟨g, cap, hv⟩
theorem row_two (w : World) (x y : Int) (t : TypeId) (j : Nat) (u : Value) (h : ([.int .u8 x, .int .u8 y] : List Value)[j]? = some u) : (w.alloc (.cells #[.int .u8 x, .int .u8 y] t)).cell? ((⟨w.heap.size, 0, none⟩ : Addr).add j) = some u := by
  have e : (⟨w.heap.size, 0, none⟩ : Addr).add j = ⟨w.heap.size, j, none⟩ := by unfold Addr.add; split <;> simp_all
  rw [e, cell_of_row _ _ j _ _ _ (heap_alloc_new _ _)]
  simpa using h
theorem row_one (w : World) (x : Int) (t : TypeId) (j : Nat) (u : Value) (h : ([.int .u8 x] : List Value)[j]? = some u) : (w.alloc (.cells #[.int .u8 x] t)).cell? ((⟨w.heap.size, 0, none⟩ : Addr).add j) = some u := by
  have e : (⟨w.heap.size, 0, none⟩ : Addr).add j = ⟨w.heap.size, j, none⟩ := by unfold Addr.add; split <;> simp_all
  rw [e, cell_of_row _ _ j _ _ _ (heap_alloc_new _ _)]
  simpa using h

/- the code from a region on -/
def leftmost (n : Nat) : Code → Bool
  | .region k _ _ => k == n
  | .seq a _ => leftmost n a
  | _ => false
def codeFrom (n : Nat) : Code → Option Code
  | .seq a b => if leftmost n (.seq a b) then some (.seq a b) else match codeFrom n b with
    | some c => some c
    | none => codeFrom n a
  | .block _ c => codeFrom n c
  | .scope c => codeFrom n c
  | _ => none
end Go.Proofs.YtbpahojchgpdnaaGreatDoor

namespace Go.Proofs.YtbpahojchgpdnaaGreatDoor
open Go.RowKit Go.Bel

theorem cellsRep : Tryz.prog.cellsOf 258 = 3 := by kernel_rfl
theorem cellsInt : Tryz.prog.cellsOf 3 = 1 := by kernel_rfl
theorem cellsOrd : Tryz.prog.cellsOf 216 = 19 := by kernel_rfl

theorem three3 {α : Type} (l : List α) (h : l.length = 3) : ∃ a b c, l = [a, b, c] := by
  match l, h with
  | [a, b, c], _ => exact ⟨a, b, c, rfl⟩

theorem rep_cells {W : World} {fuel : Nat} {cs : List Value} {a b c : Int} {p : List MemPlace} (h : DataW.trod (fun _ => ()) Tryz.prog W 0 (fun _ => true) false fuel 258 cs = some (.agg [.lit (.int .i64 a), .lit (.int .i64 b), .lit (.int .i64 c)], p)) :
    cs = [.int .i64 a, .int .i64 b, .int .i64 c] := by
  obtain ⟨xs, n, rfl, hx, hl, hxl, hf⟩ := DataW.trod_struct Tryz.underlying258 h
  rw [cellsRep] at hl
  have h0 : DataW.trod (fun _ => ()) Tryz.prog W 0 (fun _ => true) false n 3 ((cs.drop 0).take (Tryz.prog.cellsOf 3)) = xs[0]? := hf 0 _ rfl
  have h1 : DataW.trod (fun _ => ()) Tryz.prog W 0 (fun _ => true) false n 3 ((cs.drop 1).take (Tryz.prog.cellsOf 3)) = xs[1]? := hf 1 _ rfl
  have h2 : DataW.trod (fun _ => ()) Tryz.prog W 0 (fun _ => true) false n 3 ((cs.drop 2).take (Tryz.prog.cellsOf 3)) = xs[2]? := hf 2 _ rfl
  rw [cellsInt] at h0 h1 h2
  obtain ⟨x0, x1, x2, rfl⟩ := three3 xs hxl
  obtain ⟨n0, e0, y0, _⟩ := DataW.trod_int Tryz.underlying3 h0
  obtain ⟨n1, e1, y1, _⟩ := DataW.trod_int Tryz.underlying3 h1
  obtain ⟨n2, e2, y2, _⟩ := DataW.trod_int Tryz.underlying3 h2
  clear h h0 h1 h2 hf hxl
  obtain ⟨c0, c1, c2, rfl⟩ := three3 cs hl
  simp only [List.drop, List.take, List.cons.injEq, and_true] at e0 e1 e2
  subst e0 e1 e2 y0 y1 y2
  have hx1 := congrArg Prod.fst hx
  simp only [List.map, DataW.agg.injEq, List.cons.injEq, DataW.lit.injEq, Lit.int.injEq, true_and, and_true] at hx1
  obtain ⟨rfl, rfl, rfl⟩ := hx1
  rfl

theorem rep_head {W : World} {name : String} {a b c : Int} {rest : List (String × DataW Unit)} {ps : List MemPlace} {g : Nat} (hg : Tryz.prog.globalNamed name = some g) (hty : (Tryz.prog.globals[g]?).map (·.type) = some 258)
    (h : DataW.LaidVars Tryz.prog W ((name, .agg [.lit (.int .i64 a), .lit (.int .i64 b), .lit (.int .i64 c)]) :: rest) ps) :
    (W.cell? ⟨g, 0, none⟩ = some (.int .i64 a) ∧ W.cell? ⟨g, 1, none⟩ = some (.int .i64 b) ∧ W.cell? ⟨g, 2, none⟩ = some (.int .i64 c)) ∧ ∃ q, DataW.LaidVars Tryz.prog W rest q := by
  obtain ⟨g', t', cs, fuel, p, q, hg', ht', hvar, hd, hr, _⟩ := h
  obtain rfl := Option.some.inj (hg.symm.trans hg')
  obtain rfl := Option.some.inj (hty.symm.trans ht')
  have hc := rep_cells hd
  have e : cs = #[.int .i64 a, .int .i64 b, .int .i64 c] := by
    apply Array.toList_inj.1
    exact hc
  subst e
  exact ⟨⟨World.var?_cell hg hvar 0, World.var?_cell hg hvar 1, World.var?_cell hg hvar 2⟩, q, hr⟩

theorem ord_head {W : World} {rest : List (String × DataW Unit)} {ps : List MemPlace} (hg : Tryz.prog.globalNamed "bellows/bare.firstOrder" = some 0) (hty : (Tryz.prog.globals[0]?).map (·.type) = some 216)
    (h : DataW.LaidVars Tryz.prog W (("bellows/bare.firstOrder", Lib.tabData .i64 [16, 17, 18, 0, 8, 7, 9, 6, 10, 5, 11, 4, 12, 3, 13, 2, 14, 1, 15]) :: rest) ps) :
    (∀ i : Nat, i < 19 → W.cell? ⟨0, i, none⟩ = some (.int .i64 (orderList[i]?.getD 0 : Nat))) ∧ ∃ q, DataW.LaidVars Tryz.prog W rest q := by
  obtain ⟨g', t', cs, fuel, p, q, hg', ht', hvar, hd, hr, _⟩ := h
  obtain rfl := Option.some.inj (hg.symm.trans hg')
  obtain rfl := Option.some.inj (hty.symm.trans ht')
  have hc := Lib.cells_of_tab Tryz.underlying216 Tryz.underlying3 cellsInt cellsOrd hd
  refine ⟨fun i hi => ?_, q, hr⟩
  rw [World.var?_cell hg hvar i, ← Array.getElem?_toList, hc]
  match i, hi with
  | 0, _ => rfl | 1, _ => rfl | 2, _ => rfl | 3, _ => rfl | 4, _ => rfl | 5, _ => rfl | 6, _ => rfl | 7, _ => rfl | 8, _ => rfl | 9, _ => rfl
  | 10, _ => rfl | 11, _ => rfl | 12, _ => rfl | 13, _ => rfl | 14, _ => rfl | 15, _ => rfl | 16, _ => rfl | 17, _ => rfl | 18, _ => rfl
  | n + 19, h => omega
end Go.Proofs.YtbpahojchgpdnaaGreatDoor
