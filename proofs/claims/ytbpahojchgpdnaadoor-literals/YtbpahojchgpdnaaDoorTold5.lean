/- Proved here: what the loop of the writer's told that writes the text does. -/
import Derived.Test.YtbpahojchgpdnaaDoorTold4
import Derived.Deep.RegionHeld3
namespace Go.Proofs.YtbpahojchgpdnaaDoor
open Go.RowKit Go.Bel

def TextRel (b base L C : Nat) (w : World) (v : Value) (H : List Bool) (f : Nat → Bool) (l : List Nat) (wr : World) : Prop :=
  ∃ v', Bw wr b base 25 5 v' (H ++ textBits f l) ∧ Wrt b w v wr v' ∧ RowAt wr L 41 257 (fun i => .int .i64 (lenOf f i : Nat)) ∧ Off b v' L ∧ RowAt wr C 41 257 (fun i => .int .i64 (codeOf f i : Nat)) ∧ Off b v' C

set_option maxRecDepth 100000 in
set_option maxHeartbeats 4000000 in
theorem told_loop5 (b base L C : Nat) (s : ByteArray) (v : Value) (H bs : List Bool) (f : Nat → Bool) (w : World) (h : Pen w b base v bs) (hl : H.length + 640000 < 70368744177664) (hs : s.size ≤ 65535)
    (Q0 : Exit → Act → World → Prop) (c2 c3 c4 c5 c6 c7 c8 c9 c10 c11 c12 c15 c16 c18 c19 c20 c21 c22 c23 c24 c25 c26 c27 c28 c29 c30 c31 c32 c33 c34 c35 c36 c37 c38 c39 c40 c41 c42 c43 c44 c45 c46 c47 c48 c49 c50 c51 c52 c53 c54 c55 c56 c57 c58 c59 c60 c61 c62 c63 c64 c65 c66 c67 c68 c69 c70 c71 c72 c73 c74 c75 c76 c77 c78 c79 c80 c81 c82 c83 c84 c85 c86 c87 c88 c89 c90 c91 c92 c93 c94 c95 c96 c97 c98 c99 c100 c101 c102 c103 c122 c123 c124 c125 c126 c127 : Value) (u104 u105 u106 u107 u108 u109 u110 u111 u112 u113 u114 u115 u116 u117 u118 u119 u120 u121 : Value) (w10 : World)
    (h0 : TextRel b base L C w v H f [] w10)
    (hexit : ∀ (u17 u104 u105 u106 u107 u108 u109 u110 u111 u112 u113 u114 u115 u116 u117 u118 u119 u120 u121 : Value) (wr : World), TextRel b base L C w v H f (bytesOf s) wr → Q0 (.exit 8) ⟨(List.toArray ((.pointer (some ⟨b, 0, none⟩)) :: (.string s) :: c2 :: c3 :: c4 :: c5 :: c6 :: c7 :: c8 :: c9 :: c10 :: c11 :: c12 :: (.pointer (some ⟨L, 0, none⟩)) :: (.pointer (some ⟨C, 0, none⟩)) :: c15 :: c16 :: u17 :: c18 :: c19 :: c20 :: c21 :: c22 :: c23 :: c24 :: c25 :: c26 :: c27 :: c28 :: c29 :: c30 :: c31 :: c32 :: c33 :: c34 :: c35 :: c36 :: c37 :: c38 :: c39 :: c40 :: c41 :: c42 :: c43 :: c44 :: c45 :: c46 :: c47 :: c48 :: c49 :: c50 :: c51 :: c52 :: c53 :: c54 :: c55 :: c56 :: c57 :: c58 :: c59 :: c60 :: c61 :: c62 :: c63 :: c64 :: c65 :: c66 :: c67 :: c68 :: c69 :: c70 :: c71 :: c72 :: c73 :: c74 :: c75 :: c76 :: c77 :: c78 :: c79 :: c80 :: c81 :: c82 :: c83 :: c84 :: c85 :: c86 :: c87 :: c88 :: c89 :: c90 :: c91 :: c92 :: c93 :: c94 :: c95 :: c96 :: c97 :: c98 :: c99 :: c100 :: c101 :: c102 :: c103 :: u104 :: u105 :: u106 :: u107 :: u108 :: u109 :: u110 :: u111 :: u112 :: u113 :: u114 :: u115 :: u116 :: u117 :: u118 :: u119 :: u120 :: u121 :: c122 :: c123 :: c124 :: c125 :: c126 :: c127 :: [])), []⟩ wr) :
    Code.wp Tryd.prog (nthLoop Tryd.f7 4) Q0 ⟨(List.toArray ((.pointer (some ⟨b, 0, none⟩)) :: (.string s) :: c2 :: c3 :: c4 :: c5 :: c6 :: c7 :: c8 :: c9 :: c10 :: c11 :: c12 :: (.pointer (some ⟨L, 0, none⟩)) :: (.pointer (some ⟨C, 0, none⟩)) :: c15 :: c16 :: (.int .i64 0) :: c18 :: c19 :: c20 :: c21 :: c22 :: c23 :: c24 :: c25 :: c26 :: c27 :: c28 :: c29 :: c30 :: c31 :: c32 :: c33 :: c34 :: c35 :: c36 :: c37 :: c38 :: c39 :: c40 :: c41 :: c42 :: c43 :: c44 :: c45 :: c46 :: c47 :: c48 :: c49 :: c50 :: c51 :: c52 :: c53 :: c54 :: c55 :: c56 :: c57 :: c58 :: c59 :: c60 :: c61 :: c62 :: c63 :: c64 :: c65 :: c66 :: c67 :: c68 :: c69 :: c70 :: c71 :: c72 :: c73 :: c74 :: c75 :: c76 :: c77 :: c78 :: c79 :: c80 :: c81 :: c82 :: c83 :: c84 :: c85 :: c86 :: c87 :: c88 :: c89 :: c90 :: c91 :: c92 :: c93 :: c94 :: c95 :: c96 :: c97 :: c98 :: c99 :: c100 :: c101 :: c102 :: c103 :: u104 :: u105 :: u106 :: u107 :: u108 :: u109 :: u110 :: u111 :: u112 :: u113 :: u114 :: u115 :: u116 :: u117 :: u118 :: u119 :: u120 :: u121 :: c122 :: c123 :: c124 :: c125 :: c126 :: c127 :: [])), []⟩ w10 := by
  conv => arg 2; whnf
  go_loopw [17] (fun i wr => ∃ j : Nat, j ≤ s.size ∧ i = .int .i64 (j : Nat) ∧ TextRel b base L C w v H f ((bytesOf s).take j) wr) (fun i _ => s.size - (intOf i).toNat)
  case atStart => exact ⟨0, by omega, rfl, h0⟩
  case round =>
    obtain ⟨j, hj, rfl, hr⟩ := hrel
    unfold TextRel at hr
    obtain ⟨v11, hb11, hw11, hrL, hoL, hrC, hoC⟩ := hr
    by_cases hlt : j < s.size
    · have hts := bytesOf_take s j hlt
      have HT := hide hts
      clear hts
      have hc := s[j].toNat_lt
      have cL := hrL.cell s[j].toNat (by omega)
      have cC := hrC.cell s[j].toNat (by omega)
      have hci : ((s[j].toNat : Nat) : Int) < 257 := by omega
      have hci0 : (0 : Int) ≤ ((s[j].toNat : Nat) : Int) := by omega
      have hln := lenOf_le f s[j].toNat
      have hcd := codeOf_le f s[j].toNat (by omega)
      have H1 := hide hrL
      have H2 := hide hrC
      clear hrL hrC h0
      have htl := textBits_length f ((bytesOf s).take j)
      have htk : ((bytesOf s).take j).length ≤ j := List.length_take_le _ _
      have hbd := hb11.drew
      have hwd := hw11.drew
      have hP : Pen wr.drew b base v11 (H ++ textBits f ((bytesOf s).take j)) := pen_of h hbd hwd
      have HP := hide hP
      have hlb : (H ++ textBits f ((bytesOf s).take j)).length + lenOf f s[j].toNat < 70368744177664 := by rw [List.length_append]; omega
      have HB := hide hlb
      clear hP hbd hlb htl htk hl
      go_wp2_with fail
      refine wp_region_noPanic ?_
      go_region_held3 (fun w' => w'.cell? ⟨C, s[j].toNat, none⟩ = some (.int .i64 (codeOf f s[j].toNat : Nat)) ∧ w'.cell? ⟨L, s[j].toNat, none⟩ = some (.int .i64 (lenOf f s[j].toNat : Nat))) (go_keep)
        (first | (go_at_call 15; refine (code_adds b base (codeOf f s[j].toNat) (lenOf f s[j].toNat) v11 _ _ (unhide HP) (unhide HB) (by omega) (by omega)).mono ?_; rintro e w12 ⟨rfl, v12, hb12, hw12⟩; have k1 := ((unhide H2).drew.wrt hoC hw12).cell s[j].toNat (by omega); have k2 := ((unhide H1).drew.wrt hoL hw12).cell s[j].toNat (by omega)))
      all_goals
        refine NoPanic.normal ?_
        have R : TextRel b base L C w v H f ((bytesOf s).take (j + 1)) w12 := ⟨v12, by rw [unhide HT, textBits_snoc, ← List.append_assoc]; exact hb12, hwd.trans hw12, (unhide H1).drew.wrt hoL hw12, hoL.wrt (unhide H1).drew.lt hw12, (unhide H2).drew.wrt hoC hw12, hoC.wrt (unhide H2).drew.lt hw12⟩
        clear k1 k2 hb12 hw12 hb11 hw11 hwd cL cC
        go_wp2_with fail
        go_roundw
        case rel => exact ⟨j + 1, by omega, by go_num, R⟩
        case measure => simp [intOf]; omega
    · have : j = s.size := by omega
      subst this
      go_wp2_with fail
      rw [List.take_of_length_le (by rw [bytesOf_length]; omega)] at hb11
      exact ⟨v11, hb11, hw11, hrL, hoL, hrC, hoC⟩
end Go.Proofs.YtbpahojchgpdnaaDoor
