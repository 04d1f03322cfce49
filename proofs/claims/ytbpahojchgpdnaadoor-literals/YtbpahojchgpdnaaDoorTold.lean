/- Proved here: what the writer's told does. -/
import Derived.Test.YtbpahojchgpdnaaDoorUsed
import Derived.Test.YtbpahojchgpdnaaDoorTold5
import Derived.Deep.DeepCutAuto
namespace Go.Proofs.YtbpahojchgpdnaaDoor
open Go.RowKit Go.Bel

def orderCells : Array Value := #[.int .i64 16, .int .i64 17, .int .i64 18, .int .i64 0, .int .i64 8, .int .i64 7, .int .i64 9, .int .i64 6, .int .i64 10, .int .i64 5, .int .i64 11, .int .i64 4, .int .i64 12, .int .i64 3, .int .i64 13, .int .i64 2, .int .i64 14, .int .i64 1, .int .i64 15]
def toldBits (l : List Nat) (last : Bool) : List Bool :=
  beginBits last 2 ++ numBits 0 5 ++ numBits 0 5 ++ numBits 15 4 ++ firstBits 19 ++ lensBits (inText l) 257 ++ codeBits 0 4 ++ textBits (inText l) l ++ symBits (inText l) 256
theorem zeroI : Tryd.zeroCells41 = Array.replicate 257 (.int .i64 0) := by kernel_rfl
theorem sizeO : (Tryd.prog.info? 40).map (·.size) = some orderCells.size := by kernel_rfl
theorem orderOne : orderCells.all (·.oneCell') = true := by kernel_rfl
theorem orderCell (i : Nat) (h : i < 19) : orderCells[i]? = some (.int .i64 (orderList[i]?.getD 0 : Nat)) := by
  have : i = 0 ∨ i = 1 ∨ i = 2 ∨ i = 3 ∨ i = 4 ∨ i = 5 ∨ i = 6 ∨ i = 7 ∨ i = 8 ∨ i = 9 ∨ i = 10 ∨ i = 11 ∨ i = 12 ∨ i = 13 ∨ i = 14 ∨ i = 15 ∨ i = 16 ∨ i = 17 ∨ i = 18 := by omega
  rcases this with rfl | rfl | rfl | rfl | rfl | rfl | rfl | rfl | rfl | rfl | rfl | rfl | rfl | rfl | rfl | rfl | rfl | rfl | rfl <;> rfl

set_option maxRecDepth 20000 in
set_option maxHeartbeats 1000000 in
theorem told_adds (b base : Nat) (s : ByteArray) (last : Bool) (v : Value) (bs : List Bool) (w : World) (h : Pen w b base v bs) (hl : bs.length + 700000 < 70368744177664) (hs : s.size ≤ 65535) :
    Calls Tryd.prog 7 #[.pointer (some ⟨b, 0, none⟩), .string s, .bool last] w (Adds b base w v bs (toldBits (bytesOf s) last)) := by
  have hzs := sizeB
  have HZS := hide hzs
  clear hzs
  go_enter Tryd.func7, Tryd.ntmps7
  go_wp2_with fail
  refine (begin_adds b base 2 last v bs w h (by omega) (by omega)).mono ?_
  rintro e w1 ⟨rfl, v1, hb1, hw1⟩
  go_wp2_with fail
  refine (used_any s w1 hs).mono ?_
  rintro e w2 ⟨A, rfl, hA, hAf, hst2⟩
  have hone : A.all (·.oneCell') = true := all_one hA hAf (fun i => rfl)
  have hiA : (Tryd.prog.info? 38).map (·.size) = some A.size := by rw [hA]; exact sizeB
  have hz : Tryd.zeroCells38.size = A.size := by rw [zeroB, hA]; simp
  have HI := hide hiA
  have HO := hide hone
  have HZ := hide hz
  have HA := hide hA
  have HAF := hide hAf
  clear hiA hone hz hA hAf
  go_wp2_with (refine wpList_store_row rfl 38 (.tmp 6) (.tmp 22) rfl w2.heap.size A rfl rfl 38 Tryd.zeroCells38 (heap_alloc_new _ _) (unhide HI) (unhide HZ) (unhide HO) ?_)
  rw [World.setRow_alloc_new]
  obtain ⟨N, hN⟩ : ∃ N, N = w2.heap.size := ⟨_, rfl⟩
  obtain ⟨f, hf⟩ : ∃ f, f = inText (bytesOf s) := ⟨_, rfl⟩
  have hrN : RowAt (w2.alloc (.cells A 38)) N 38 257 (fun i => .bool (f i)) := by rw [hN, hf]; exact RowAt.born _ _ (unhide HA) (unhide HAF)
  have hbN := (hb1.step0 hst2).alloc (.cells A 38)
  have hwN := (hw1.step0 hst2).alloc (.cells A 38)
  have hoN : Off b v1 N := Off.new (hb1.step0 hst2) (by omega)
  have hNw : w.heap.size ≤ N := by rw [hN]; exact (hw1.step0 hst2).step.size
  rw [← hN]
  have HF := hide hf
  generalize hW3 : w2.alloc (.cells A 38) = w3 at *
  clear hW3 hb1 hw1 hst2 hN HI HO HZ HA HAF hf
  have HRN := hide hrN
  clear hrN
  go_loop [7, 8] (fun m i => ∃ k : Nat, k ≤ 257 ∧ i = .int .i64 (k : Nat) ∧ m = .int .i64 (manyTo f k : Nat)) (fun _ i => 257 - (intOf i).toNat)
  case atStart => exact ⟨0, by omega, rfl, rfl⟩
  case round =>
    obtain ⟨k, hk, rfl, rfl⟩ := hrel
    have hmk := manyTo_le f k
    by_cases hlt : k < 257
    · have hc := (unhide HRN).cell k hlt
      by_cases hfk : f k = true
      · rw [hfk] at hc
        go_wp2_with fail
        go_round
        case rel => exact ⟨k + 1, by omega, by go_num, by rw [manyTo, if_pos hfk]; go_num⟩
        case measure => simp [intOf]; omega
      · have hfk' : f k = false := by simpa using hfk
        rw [hfk'] at hc
        go_wp2_with fail
        go_round
        case rel => exact ⟨k + 1, by omega, by go_num, by rw [manyTo, if_neg hfk]; go_num⟩
        case measure => simp [intOf]; omega
    · have hk7 : k = 257 := by omega
      subst hk7
      clear hlt hk
      go_upto_if 33 with fail
      go_cut [7] (fun m wc => m = .int .i64 (manyOf f : Nat) ∧ RowAt wc N 38 257 (fun i => .bool (need f i)) ∧ Bw wc b base 25 5 v1 (bs ++ beginBits last 2) ∧ Wrt b w v wc v1)
      case first =>
        by_cases h1 : manyTo f 257 = 1
        · have h1' : (((manyTo f 257 : Nat) : Int) == 1) = true := beq_iff_eq.2 (by omega)
          have hc := (unhide HRN).cell 0 (by omega)
          have hfr := (unhide HRN).free 0
          go_wp2_with fail
          go_meet
          case rel =>
            refine ⟨by rw [manyOf, if_pos h1]; rfl, ?_, hbN.setCell hoN _, hwN.setNew hNw _⟩
            refine ((unhide HRN).set 0 (.bool true)).congr fun i _ => ?_
            by_cases h0 : i = 0
            · simp [h0, need, h1]
            · simp [h0, need]
        · have h1' : (((manyTo f 257 : Nat) : Int) == 1) = false := beq_eq_false_iff_ne.2 (by omega)
          go_wp2_with fail
          go_meet
          case rel =>
            refine ⟨by rw [manyOf, if_neg h1], ?_, hbN, hwN⟩
            refine (unhide HRN).congr fun i _ => ?_
            simp [need, h1]
      case rest =>
        obtain ⟨rfl, hrN, hbc, hwc⟩ := hcut
        have HRN := hide hrN
        clear hrN hbN hwN hmk
        have hM := manyOf_le f
        have hM1 : 1 ≤ manyOf f := by
          have := manyTo_pos f 257 256 (by omega) (by rw [unhide HF]; rfl)
          unfold manyOf; split <;> omega
        go_wp2_with fail
        go_loop [9] (fun n => ∃ k : Nat, 2 ^ k ≤ manyOf f ∧ k ≤ 8 ∧ n = .int .i64 (k : Nat)) (fun n => 9 - (intOf n).toNat)
        case atStart => exact ⟨0, by simpa using hM1, by omega, rfl⟩
        case round =>
          obtain ⟨k, hk1, hk2, rfl⟩ := hrel
          obtain ⟨P, hPe, hP⟩ : ∃ P : Nat, P = 2 ^ (k + 1) ∧ wrap64 (2 * 2 ^ k) = (P : Int) := ⟨_, rfl, two_pow_wrap k hk2⟩
          have HP := hide hPe
          have HK1 := hide hk1
          clear hPe hk1
          by_cases hc : P ≤ manyOf f
          · have hk8 : k < 8 := by
              have := unhide HP
              rcases Nat.lt_or_ge k 8 with h | h
              · exact h
              · have : k = 8 := by omega
                subst this
                omega
            go_wp2_with fail
            go_round
            case rel => exact ⟨k + 1, by rw [← unhide HP]; exact hc, by omega, by go_num⟩
            case measure => simp [intOf]; omega
          · have hsl : k = shortLen f := (log2_of _ _ (unhide HK1) (by have := unhide HP; omega)).symm
            subst hsl
            have hsm : (P : Int) - (manyOf f : Int) = ((shortMany f : Nat) : Int) := by
              have e : shortMany f = P - manyOf f := by rw [shortMany, ← unhide HP]
              omega
            have HSM := hide hsm
            clear hsm
            have hP512 : P ≤ 512 := by rw [unhide HP]; exact Nat.pow_le_pow_right (by omega) (show shortLen f + 1 ≤ 9 by omega)
            go_wp2_with fail
            refine (number_adds b base 0 5 v1 _ _ (pen_of h hbc hwc) (by simp [beginBits_length]; omega) (by omega) (by omega)).mono ?_
            rintro e w4 ⟨rfl, v4, hb4, hw4⟩
            go_wp2_with fail
            refine (number_adds b base 0 5 v4 _ _ (pen_of (pen_of h hbc hwc) hb4 hw4) (by simp [beginBits_length, numBits_length]; omega) (by omega) (by omega)).mono ?_
            rintro e w5 ⟨rfl, v5, hb5, hw5⟩
            go_wp2_with fail
            refine (number_adds b base 15 4 v5 _ _ (pen_of (pen_of (pen_of h hbc hwc) hb4 hw4) hb5 hw5) (by simp [beginBits_length, numBits_length]; omega) (by omega) (by omega)).mono ?_
            rintro e w6 ⟨rfl, v6, hb6, hw6⟩
            have hw46 := (hw4.trans hw5).trans hw6
            have hoN6 : Off b v6 N := hoN.wrt (unhide HRN).lt hw46
            have HRN6 := hide ((unhide HRN).wrt hoN hw46)
            have hwc6 := hwc.trans hw46
            clear hw4 hw5 hw6 hw46 hb4 hb5 hbc hwc HRN hoN
            go_upto_region 18 with fail
            go_cut [11] (fun p wc => p = .pointer (some ⟨w6.heap.size, 0, none⟩) ∧ wc = w6.alloc (.cells orderCells 40))
            case first =>
              go_wp2_with (refine wpList_store_row rfl 40 (.tmp 11) (.tmp 51) rfl w6.heap.size orderCells rfl rfl 40 _ (heap_alloc_new _ _) sizeO rfl orderOne ?_)
              go_meet
              case rel => exact ⟨rfl, by rw [World.setRow_alloc_new]⟩
            case rest =>
              obtain ⟨rfl, rfl⟩ := hcut
              obtain ⟨O, hO⟩ : ∃ O, O = w6.heap.size := ⟨_, rfl⟩
              obtain ⟨H, hH⟩ : ∃ H, H = bs ++ beginBits last 2 ++ numBits 0 5 ++ numBits 0 5 ++ numBits 15 4 := ⟨_, rfl⟩
              have hHl : H.length ≤ bs.length + 17 := by rw [hH]; simp [beginBits_length, numBits_length]
              rw [← hH] at hb6
              have hrO : RowAt (w6.alloc (.cells orderCells 40)) O 40 19 (fun i => .int .i64 (orderList[i]?.getD 0 : Nat)) := by
                rw [hO]; exact RowAt.born _ _ rfl orderCell
              have hoO : Off b v6 O := Off.new hb6 (by omega)
              have hb7 := hb6.alloc (.cells orderCells 40)
              have hw7 := hwc6.alloc (.cells orderCells 40)
              have hrN7 := (unhide HRN6).alloc (.cells orderCells 40)
              rw [← hO]
              have HH := hide hH
              clear hH
              generalize hW7 : w6.alloc (.cells orderCells 40) = w7 at *
              clear hW7 hO hb6 hwc6 HRN6
              have HRN := hide hrN7
              have HRO := hide hrO
              clear hrN7 hrO
              go_wp2_with fail
              go_loopw [12] (fun i wr => ∃ j : Nat, j ≤ 19 ∧ i = .int .i64 (j : Nat) ∧ ∃ v', Bw wr b base 25 5 v' (H ++ firstBits j) ∧ Wrt b w v wr v' ∧ RowAt wr O 40 19 (fun i => .int .i64 (orderList[i]?.getD 0 : Nat)) ∧ Off b v' O ∧ RowAt wr N 38 257 (fun i => .bool (need f i)) ∧ Off b v' N) (fun i _ => 19 - (intOf i).toNat)
              case atStart => exact ⟨0, by omega, rfl, v6, by simpa [firstBits] using hb7, hw7, unhide HRO, hoO, unhide HRN, hoN6⟩
              case round =>
                obtain ⟨j, hj, rfl, v8, hb8, hw8, hrO8, hoO8, hrN8, hoN8⟩ := hrel
                by_cases hlt : j < 19
                · have hc := hrO8.cell j hlt
                  obtain ⟨q, hq⟩ : ∃ q : Nat, q = orderList[j]?.getD 0 := ⟨_, rfl⟩
                  rw [← hq] at hc
                  have H1 := hide hrO8
                  have H2 := hide hrN8
                  have HQ := hide hq
                  clear hrO8 hrN8 hq
                  by_cases h16 : q < 16
                  · go_wp2_with fail
                    refine (number_adds b base 4 3 v8 _ _ (pen_of h hb8 hw8) (by simp [firstBits_length]; omega) (by omega) (by omega)).mono ?_
                    rintro e w9 ⟨rfl, v9, hb9, hw9⟩
                    go_wp2_with fail
                    go_roundw
                    case rel => exact ⟨j + 1, by omega, by go_num, v9, by rw [firstBits_succ, firstNum, ← unhide HQ, if_pos h16, ← List.append_assoc]; exact hb9, hw8.trans hw9, (unhide H1).wrt hoO8 hw9, hoO8.wrt (unhide H1).lt hw9, (unhide H2).wrt hoN8 hw9, hoN8.wrt (unhide H2).lt hw9⟩
                    case measure => simp [intOf]; omega
                  · go_wp2_with fail
                    refine (number_adds b base 0 3 v8 _ _ (pen_of h hb8 hw8) (by simp [firstBits_length]; omega) (by omega) (by omega)).mono ?_
                    rintro e w9 ⟨rfl, v9, hb9, hw9⟩
                    go_wp2_with fail
                    go_roundw
                    case rel => exact ⟨j + 1, by omega, by go_num, v9, by rw [firstBits_succ, firstNum, ← unhide HQ, if_neg h16, ← List.append_assoc]; exact hb9, hw8.trans hw9, (unhide H1).wrt hoO8 hw9, hoO8.wrt (unhide H1).lt hw9, (unhide H2).wrt hoN8 hw9, hoN8.wrt (unhide H2).lt hw9⟩
                    case measure => simp [intOf]; omega
                · have : j = 19 := by omega
                  subst this
                  clear hlt hj hrO8 hoO8 HRO HRN hoO hoN6 hb7 hw7
                  have HRN := hide hrN8
                  clear hrN8
                  go_wp2_with fail
                  rw [unhide HSM]
                  obtain ⟨L, hL⟩ : ∃ L, L = wr.heap.size := ⟨_, rfl⟩
                  obtain ⟨C, hC⟩ : ∃ C, C = wr.heap.size + 1 := ⟨_, rfl⟩
                  have hLC : ¬ L = C := by omega
                  have hLw : w.heap.size ≤ L := by have := hw8.step.size; omega
                  have hCw : w.heap.size ≤ C := by omega
                  have hrL : RowAt ((wr.alloc (.cells Tryd.zeroCells41 41)).alloc (.cells Tryd.zeroCells41 41)) L 41 257 (fun _ => .int .i64 0) := by
                    rw [hL, zeroI]; exact (RowAt.born wr _ (by simp) (fun i hi => by simp [hi])).alloc _
                  have hrC : RowAt ((wr.alloc (.cells Tryd.zeroCells41 41)).alloc (.cells Tryd.zeroCells41 41)) C 41 257 (fun _ => .int .i64 0) := by
                    have := RowAt.born (wr.alloc (.cells Tryd.zeroCells41 41)) (A := Tryd.zeroCells41) (n := 257) (f := fun _ => .int .i64 0) 41 (by rw [zeroI]; simp) (fun i hi => by rw [zeroI]; simp [hi])
                    rw [hC]; simpa using this
                  have hb10 := (hb8.alloc (.cells Tryd.zeroCells41 41)).alloc (.cells Tryd.zeroCells41 41)
                  have hw10 := (hw8.alloc (.cells Tryd.zeroCells41 41)).alloc (.cells Tryd.zeroCells41 41)
                  have hrN10 := ((unhide HRN).alloc (.cells Tryd.zeroCells41 41)).alloc (.cells Tryd.zeroCells41 41)
                  have hoL : Off b v8 L := Off.new hb8 (by omega)
                  have hoC : Off b v8 C := Off.new hb8 (by omega)
                  rw [← hC, ← hL]
                  generalize hW10 : (wr.alloc (.cells Tryd.zeroCells41 41)).alloc (.cells Tryd.zeroCells41 41) = w10 at *
                  clear hW10 hL hC hb8 hw8 HRN
                  refine told_loop4 b base L C N s v (H ++ firstBits 19) bs f w h (by rw [List.length_append, firstBits_length]; omega) hLC hLw hCw _ _ _ _ _ _ _ _ _ _ _ _ _ _ _ _ _ _ _ _ _ _ _ _ _ _ _ _ _ _ _ _ _ _ _ _ _ _ _ _ _ _ _ _ _ _ _ _ _ _ _ _ _ _ _ _ _ _ _ _ _ _ _ _ _ _ _ _ _ _ _ _ _ _ _ _ _ _ _ _ _ _ _ _ _ _ _ _ _ _ _ _ _ _ _ _ _ _ _ _ _ _ _ _ _ _ _ _ _ _ _ _ _ _ _ _ _ _ _ _ _ ⟨v8, by simpa [lensBits] using hb10, hw10, hrL.congr (fun i _ => by simp), hoL, hrC.congr (fun i _ => by simp), hoC, hrN10, hoN8⟩ ?_
                  clear hrL hrC hrN10 hb10 hw10 hoL hoC hoN8
                  intros
                  rename_i wr11 hr11
                  unfold LensRel at hr11
                  obtain ⟨v11, hb11, hw11, hrL, hoL, hrC, hoC, hrN, hoN⟩ := hr11
                  have H1 := hide hrL
                  have H2 := hide hrC
                  clear hrL hrC hrN hoN
                  go_wp2_with fail
                  refine (code_adds b base 0 4 v11 _ _ (pen_of h hb11 hw11) (by simp [firstBits_length, lensBits_length]; omega) (by omega) (by omega)).mono ?_
                  rintro e w12 ⟨rfl, v12, hb12, hw12⟩
                  have hr12 : TextRel b base L C w v (H ++ firstBits 19 ++ lensBits f 257 ++ codeBits 0 4) f [] w12 :=
                    ⟨v12, by simpa [textBits] using hb12, hw11.trans hw12, ((unhide H1).wrt hoL hw12).congr (fun i hi => by simp [hi]), hoL.wrt (unhide H1).lt hw12, ((unhide H2).wrt hoC hw12).congr (fun i hi => by simp [hi]), hoC.wrt (unhide H2).lt hw12⟩
                  clear hb11 hw11 hb12 hw12 H1 H2 hoL hoC
                  go_wp2_with fail
                  refine told_loop5 b base L C s v (H ++ firstBits 19 ++ lensBits f 257 ++ codeBits 0 4) bs f w h (by simp [firstBits_length, lensBits_length, codeBits_length]; omega) hs _ _ _ _ _ _ _ _ _ _ _ _ _ _ _ _ _ _ _ _ _ _ _ _ _ _ _ _ _ _ _ _ _ _ _ _ _ _ _ _ _ _ _ _ _ _ _ _ _ _ _ _ _ _ _ _ _ _ _ _ _ _ _ _ _ _ _ _ _ _ _ _ _ _ _ _ _ _ _ _ _ _ _ _ _ _ _ _ _ _ _ _ _ _ _ _ _ _ _ _ _ _ _ _ _ _ _ _ _ _ _ _ _ _ _ _ _ _ _ _ _ _ _ _ _ hr12 ?_
                  clear hr12
                  intros
                  rename_i wr13 hr13
                  unfold TextRel at hr13
                  obtain ⟨v13, hb13, hw13, hrL, hoL, hrC, hoC⟩ := hr13
                  have cL := hrL.cell 256 (by omega)
                  have cC := hrC.cell 256 (by omega)
                  have hln := lenOf_le f 256
                  have hcd := codeOf_le f 256 (by omega)
                  have htl := textBits_length f (bytesOf s)
                  rw [bytesOf_length] at htl
                  clear hrL hrC hoL hoC
                  go_wp2_with fail
                  refine (code_adds b base (codeOf f 256) (lenOf f 256) v13 _ _ (pen_of h hb13 hw13) (by simp [firstBits_length, lensBits_length, codeBits_length]; omega) (by omega) (by omega)).mono ?_
                  rintro e w14 ⟨rfl, v14, hb14, hw14⟩
                  go_wp2_with fail
                  go_end0
                  refine ⟨rfl, v14, ?_, hw13.trans hw14⟩
                  rw [unhide HH] at hb14
                  rw [unhide HF] at hb14
                  simpa [toldBits, symBits, List.append_assoc] using hb14
end Go.Proofs.YtbpahojchgpdnaaDoor
