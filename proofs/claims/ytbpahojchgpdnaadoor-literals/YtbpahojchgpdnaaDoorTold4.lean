/- Proved here: what the loop of the writer's told that tells the lengths does. -/
import Derived.Test.YtbpahojchgpdnaaDoorUsed
import Derived.Test.YtbpahojchgpdnaaDoorGround
namespace Go.Proofs.YtbpahojchgpdnaaDoor
open Go.RowKit Go.Bel

/- the loops of a function's text, the outer ahead of the inner -/
def loopsOf : Code → List Code
  | .loop c => .loop c :: loopsOf c
  | .seq a b => loopsOf a ++ loopsOf b
  | .block _ c => loopsOf c
  | .scope c => loopsOf c
  | .cond _ a b => loopsOf a ++ loopsOf b
  | _ => []
noncomputable def nthLoop (fn : Func) (i : Nat) : Code := ((fn.body.map loopsOf).getD [])[i]?.getD .skip

def LensRel (b base L C N : Nat) (w : World) (v : Value) (H : List Bool) (f : Nat → Bool) (j : Nat) (wr : World) : Prop :=
  ∃ v', Bw wr b base 25 5 v' (H ++ lensBits f j) ∧ Wrt b w v wr v' ∧ RowAt wr L 41 257 (fun i => .int .i64 ((if i < j then lenOf f i else 0 : Nat) : Int)) ∧ Off b v' L ∧ RowAt wr C 41 257 (fun i => .int .i64 ((if i < j then codeOf f i else 0 : Nat) : Int)) ∧ Off b v' C ∧ RowAt wr N 38 257 (fun i => .bool (need f i)) ∧ Off b v' N

set_option maxRecDepth 100000 in
set_option maxHeartbeats 4000000 in
theorem told_loop4 (b base L C N : Nat) (s : ByteArray) (v : Value) (H bs : List Bool) (f : Nat → Bool) (w : World) (h : Pen w b base v bs) (hl : H.length + 650000 < 70368744177664)
    (hLC : ¬ L = C) (hLw : w.heap.size ≤ L) (hCw : w.heap.size ≤ C) (Q0 : Exit → Act → World → Prop) (c2 c3 c4 c5 c7 c8 c11 c12 c17 c18 c19 c20 c21 c22 c23 c24 c25 c26 c27 c28 c29 c30 c31 c32 c33 c34 c35 c36 c37 c38 c39 c40 c41 c42 c43 c44 c45 c46 c47 c48 c49 c50 c51 c52 c53 c54 c55 c56 c57 c58 c59 c60 c61 c62 c63 c102 c103 c104 c105 c106 c107 c108 c109 c110 c111 c112 c113 c114 c115 c116 c117 c118 c119 c120 c121 c122 c123 c124 c125 c126 c127 : Value) (u64 u65 u66 u67 u68 u69 u70 u71 u72 u73 u74 u75 u76 u77 u78 u79 u80 u81 u82 u83 u84 u85 u86 u87 u88 u89 u90 u91 u92 u93 u94 u95 u96 u97 u98 u99 u100 u101 : Value) (w10 : World)
    (h0 : LensRel b base L C N w v H f 0 w10)
    (hexit : ∀ (u15 u16 u64 u65 u66 u67 u68 u69 u70 u71 u72 u73 u74 u75 u76 u77 u78 u79 u80 u81 u82 u83 u84 u85 u86 u87 u88 u89 u90 u91 u92 u93 u94 u95 u96 u97 u98 u99 u100 u101 : Value) (wr : World), LensRel b base L C N w v H f 257 wr → Q0 (.exit 6) ⟨(List.toArray ((.pointer (some ⟨b, 0, none⟩)) :: (.string s) :: c2 :: c3 :: c4 :: c5 :: (.pointer (some ⟨N, 0, none⟩)) :: c7 :: c8 :: (.int .i64 (shortLen f : Nat)) :: (.int .i64 (shortMany f : Nat)) :: c11 :: c12 :: (.pointer (some ⟨L, 0, none⟩)) :: (.pointer (some ⟨C, 0, none⟩)) :: u15 :: u16 :: c17 :: c18 :: c19 :: c20 :: c21 :: c22 :: c23 :: c24 :: c25 :: c26 :: c27 :: c28 :: c29 :: c30 :: c31 :: c32 :: c33 :: c34 :: c35 :: c36 :: c37 :: c38 :: c39 :: c40 :: c41 :: c42 :: c43 :: c44 :: c45 :: c46 :: c47 :: c48 :: c49 :: c50 :: c51 :: c52 :: c53 :: c54 :: c55 :: c56 :: c57 :: c58 :: c59 :: c60 :: c61 :: c62 :: c63 :: u64 :: u65 :: u66 :: u67 :: u68 :: u69 :: u70 :: u71 :: u72 :: u73 :: u74 :: u75 :: u76 :: u77 :: u78 :: u79 :: u80 :: u81 :: u82 :: u83 :: u84 :: u85 :: u86 :: u87 :: u88 :: u89 :: u90 :: u91 :: u92 :: u93 :: u94 :: u95 :: u96 :: u97 :: u98 :: u99 :: u100 :: u101 :: c102 :: c103 :: c104 :: c105 :: c106 :: c107 :: c108 :: c109 :: c110 :: c111 :: c112 :: c113 :: c114 :: c115 :: c116 :: c117 :: c118 :: c119 :: c120 :: c121 :: c122 :: c123 :: c124 :: c125 :: c126 :: c127 :: [])), []⟩ wr) :
    Code.wp Tryd.prog (nthLoop Tryd.f7 3) Q0 ⟨(List.toArray ((.pointer (some ⟨b, 0, none⟩)) :: (.string s) :: c2 :: c3 :: c4 :: c5 :: (.pointer (some ⟨N, 0, none⟩)) :: c7 :: c8 :: (.int .i64 (shortLen f : Nat)) :: (.int .i64 (shortMany f : Nat)) :: c11 :: c12 :: (.pointer (some ⟨L, 0, none⟩)) :: (.pointer (some ⟨C, 0, none⟩)) :: (.int .i64 0) :: (.int .i64 0) :: c17 :: c18 :: c19 :: c20 :: c21 :: c22 :: c23 :: c24 :: c25 :: c26 :: c27 :: c28 :: c29 :: c30 :: c31 :: c32 :: c33 :: c34 :: c35 :: c36 :: c37 :: c38 :: c39 :: c40 :: c41 :: c42 :: c43 :: c44 :: c45 :: c46 :: c47 :: c48 :: c49 :: c50 :: c51 :: c52 :: c53 :: c54 :: c55 :: c56 :: c57 :: c58 :: c59 :: c60 :: c61 :: c62 :: c63 :: u64 :: u65 :: u66 :: u67 :: u68 :: u69 :: u70 :: u71 :: u72 :: u73 :: u74 :: u75 :: u76 :: u77 :: u78 :: u79 :: u80 :: u81 :: u82 :: u83 :: u84 :: u85 :: u86 :: u87 :: u88 :: u89 :: u90 :: u91 :: u92 :: u93 :: u94 :: u95 :: u96 :: u97 :: u98 :: u99 :: u100 :: u101 :: c102 :: c103 :: c104 :: c105 :: c106 :: c107 :: c108 :: c109 :: c110 :: c111 :: c112 :: c113 :: c114 :: c115 :: c116 :: c117 :: c118 :: c119 :: c120 :: c121 :: c122 :: c123 :: c124 :: c125 :: c126 :: c127 :: [])), []⟩ w10 := by
  conv => arg 2; whnf
  go_loopw [15, 16] (fun r i wr => ∃ j : Nat, j ≤ 257 ∧ i = .int .i64 (j : Nat) ∧ r = .int .i64 (rank f j : Nat) ∧ LensRel b base L C N w v H f j wr) (fun _ i _ => 257 - (intOf i).toNat)
  case atStart => exact ⟨0, by omega, rfl, rfl, h0⟩
  case round =>
    obtain ⟨j, hj, rfl, rfl, hr⟩ := hrel
    unfold LensRel at hr
    obtain ⟨v11, hb11, hw11, hrL, hoL, hrC, hoC, hrN, hoN⟩ := hr
    have hsl8 := shortLen_le f
    have hsm8 := shortMany_le f
    have hrk := rank_le f j
    by_cases hlt : j < 257
    · have cL := hrL.cell j hlt
      have cC := hrC.cell j hlt
      have cN := hrN.cell j hlt
      have fL := hrL.free j
      have fC := hrC.free j
      have hLC' : ¬ C = L := fun x => hLC x.symm
      have hNL : N ≠ L := by intro x; subst x; obtain ⟨_, a1, _⟩ := hrL; obtain ⟨_, a3, _⟩ := hrN; rw [a1] at a3; simp at a3
      have hNC : N ≠ C := by intro x; subst x; obtain ⟨_, a1, _⟩ := hrC; obtain ⟨_, a3, _⟩ := hrN; rw [a1] at a3; simp at a3
      have H1 := hide hrL
      have H2 := hide hrC
      have H3 := hide hrN
      clear hrL hrC hrN h0
      rcases Bool.eq_false_or_eq_true (need f j) with hn | hn
      · rw [hn] at cN
        have HN := hide hn
        clear hn
        by_cases hsh : rank f j < shortMany f
        · have hlen : shortLen f = lenOf f j := by rw [lenOf, unhide HN, if_pos rfl, if_pos hsh]
          have hcod : rank f j = codeOf f j := by rw [codeOf, unhide HN, if_pos rfl, if_pos hsh]
          have HL := hide hlen
          have HC := hide hcod
          clear hlen hcod
          go_wp2_with fail
          have hbW := (((hb11.setCell (p := ⟨L, j, none⟩) hoL (.int .i64 ((shortLen f : Int) + 1))).setCell (p := ⟨C, j, none⟩) hoC (.int .i64 (2 * (shortMany f : Int) + (rank f j : Int) - (shortMany f : Int)))).setCell (p := ⟨L, j, none⟩) hoL (.int .i64 (shortLen f : Int))).setCell (p := ⟨C, j, none⟩) hoC (.int .i64 (rank f j : Int))
          have hwW := (((hw11.setNew (p := ⟨L, j, none⟩) hLw (.int .i64 ((shortLen f : Int) + 1))).setNew (p := ⟨C, j, none⟩) hCw (.int .i64 (2 * (shortMany f : Int) + (rank f j : Int) - (shortMany f : Int)))).setNew (p := ⟨L, j, none⟩) hLw (.int .i64 (shortLen f : Int))).setNew (p := ⟨C, j, none⟩) hCw (.int .i64 (rank f j : Int))
          have h1 := row_next2 (((((unhide H1).set j (.int .i64 ((shortLen f : Int) + 1))).other (a := ⟨C, j, none⟩) hLC (.int .i64 (2 * (shortMany f : Int) + (rank f j : Int) - (shortMany f : Int)))).set j (.int .i64 (shortLen f : Int))).other (a := ⟨C, j, none⟩) hLC (.int .i64 (rank f j : Int))) (unhide HL)
          have h2 := row_next2 (((((unhide H2).other (a := ⟨L, j, none⟩) hLC' (.int .i64 ((shortLen f : Int) + 1))).set j (.int .i64 (2 * (shortMany f : Int) + (rank f j : Int) - (shortMany f : Int)))).other (a := ⟨L, j, none⟩) hLC' (.int .i64 (shortLen f : Int))).set j (.int .i64 (rank f j : Int))) (unhide HC)
          have h3 := (((((unhide H3).other (a := ⟨L, j, none⟩) hNL (.int .i64 ((shortLen f : Int) + 1))).other (a := ⟨C, j, none⟩) hNC (.int .i64 (2 * (shortMany f : Int) + (rank f j : Int) - (shortMany f : Int)))).other (a := ⟨L, j, none⟩) hNL (.int .i64 (shortLen f : Int))).other (a := ⟨C, j, none⟩) hNC (.int .i64 (rank f j : Int)))
          refine (code_adds b base (shortLen f) 4 v11 _ _ (pen_of h hbW hwW) (by simp [lensBits_length]; omega) (by omega) (by omega)).mono ?_
          rintro e w12 ⟨rfl, v12, hb12, hw12⟩
          have R : LensRel b base L C N w v H f (j + 1) w12 := ⟨v12, by rw [lensBits_succ, ← unhide HL, ← List.append_assoc]; exact hb12, hwW.trans hw12, h1.wrt hoL hw12, hoL.wrt h1.lt hw12, h2.wrt hoC hw12, hoC.wrt h2.lt hw12, h3.wrt hoN hw12, hoN.wrt h3.lt hw12⟩
          clear h1 h2 h3 hbW hwW hw12 hb12 cL cC cN fL fC hb11 hw11
          go_wp2_with fail
          go_roundw
          case rel => exact ⟨j + 1, by omega, by go_num, by rw [rank_succ, unhide HN]; go_num, R⟩
          case measure => simp [intOf]; omega
        · have hlen : shortLen f + 1 = lenOf f j := by rw [lenOf, unhide HN, if_pos rfl, if_neg hsh]
          have hcod : shortMany f + rank f j = codeOf f j := by rw [codeOf, unhide HN, if_pos rfl, if_neg hsh]
          have HL := hide hlen
          have HC := hide hcod
          clear hlen hcod
          go_wp2_with fail
          have hbW := ((hb11.setCell (p := ⟨L, j, none⟩) hoL (.int .i64 ((shortLen f : Int) + 1))).setCell (p := ⟨C, j, none⟩) hoC (.int .i64 (2 * (shortMany f : Int) + (rank f j : Int) - (shortMany f : Int))))
          have hwW := ((hw11.setNew (p := ⟨L, j, none⟩) hLw (.int .i64 ((shortLen f : Int) + 1))).setNew (p := ⟨C, j, none⟩) hCw (.int .i64 (2 * (shortMany f : Int) + (rank f j : Int) - (shortMany f : Int))))
          have e1 : (shortLen f : Int) + 1 = ((shortLen f + 1 : Nat) : Int) := by omega
          have e2 : (2 * (shortMany f : Int) + (rank f j : Int) - (shortMany f : Int)) = ((shortMany f + rank f j : Nat) : Int) := by omega
          rw [e1, e2] at hbW hwW
          rw [e1, e2]
          have h1 := row_next (((unhide H1).set j (.int .i64 ((shortLen f + 1 : Nat) : Int))).other (a := ⟨C, j, none⟩) hLC (.int .i64 ((shortMany f + rank f j : Nat) : Int))) (unhide HL)
          have h2 := row_next ((((unhide H2).other (a := ⟨L, j, none⟩) hLC' (.int .i64 ((shortLen f + 1 : Nat) : Int))).set j (.int .i64 ((shortMany f + rank f j : Nat) : Int)))) (unhide HC)
          have h3 := (((unhide H3).other (a := ⟨L, j, none⟩) hNL (.int .i64 ((shortLen f + 1 : Nat) : Int))).other (a := ⟨C, j, none⟩) hNC (.int .i64 ((shortMany f + rank f j : Nat) : Int)))
          clear e1 e2
          refine (code_adds b base (shortLen f + 1) 4 v11 _ _ (pen_of h hbW hwW) (by simp [lensBits_length]; omega) (by omega) (by omega)).mono ?_
          rintro e w12 ⟨rfl, v12, hb12, hw12⟩
          have R : LensRel b base L C N w v H f (j + 1) w12 := ⟨v12, by rw [lensBits_succ, ← unhide HL, ← List.append_assoc]; exact hb12, hwW.trans hw12, h1.wrt hoL hw12, hoL.wrt h1.lt hw12, h2.wrt hoC hw12, hoC.wrt h2.lt hw12, h3.wrt hoN hw12, hoN.wrt h3.lt hw12⟩
          clear h1 h2 h3 hbW hwW hw12 hb12 cL cC cN fL fC hb11 hw11
          go_wp2_with fail
          go_roundw
          case rel => exact ⟨j + 1, by omega, by go_num, by rw [rank_succ, unhide HN]; go_num, R⟩
          case measure => simp [intOf]; omega
      · rw [hn] at cN
        have HN := hide hn
        clear hn
        have hlen : lenOf f j = 0 := by rw [lenOf, unhide HN]; rfl
        have hcod : codeOf f j = 0 := by rw [codeOf, unhide HN]; rfl
        have HL := hide hlen
        have HC := hide hcod
        clear hlen hcod
        go_wp2_with fail
        refine (code_adds b base 0 4 v11 _ _ (pen_of h hb11 hw11) (by simp [lensBits_length]; omega) (by omega) (by omega)).mono ?_
        rintro e w12 ⟨rfl, v12, hb12, hw12⟩
        have R : LensRel b base L C N w v H f (j + 1) w12 := ⟨v12, by rw [lensBits_succ, unhide HL, ← List.append_assoc]; exact hb12, hw11.trans hw12, row_next0 ((unhide H1).wrt hoL hw12) (unhide HL), hoL.wrt (unhide H1).lt hw12, row_next0 ((unhide H2).wrt hoC hw12) (unhide HC), hoC.wrt (unhide H2).lt hw12, (unhide H3).wrt hoN hw12, hoN.wrt (unhide H3).lt hw12⟩
        clear hw12 hb12 cL cC cN fL fC hb11 hw11
        go_wp2_with fail
        go_roundw
        case rel => exact ⟨j + 1, by omega, by go_num, by rw [rank_succ, unhide HN]; go_num, R⟩
        case measure => simp [intOf]; omega
    · have : j = 257 := by omega
      subst this
      go_wp2_with fail
      exact ⟨v11, hb11, hw11, hrL, hoL, hrC, hoC, hrN, hoN⟩
end Go.Proofs.YtbpahojchgpdnaaDoor
