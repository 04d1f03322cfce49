/- Proved here: Named answers true. -/
import Derived.Test.YtbpahojchgpdnaaGreatDoorTails
namespace Go.Proofs.YtbpahojchgpdnaaGreatDoor
open Go.RowKit Go.Bel Go.Maps

set_option maxRecDepth 20000 in
set_option maxHeartbeats 4000000 in
theorem named_true (c : Int) (se sn sr sb : ByteArray) (w : World) (h1 : -9223372036854775808 ≤ c) (h2 : c ≤ 9223372036854775807) (hO : OrderAt w) (h4 : 4 ≤ w.heap.size) (he : se.size ≤ 1048576) (hn : sn.size ≤ 1048576) (hr : sr.size ≤ 1048576) (hb : sb.size ≤ 1048576) :
    Calls Tryz.prog 10 #[.int .i64 c, .string se, .string sn, .string sr, .string sb] w fun e w' => e = .returned (.bool true) ∧ Step (fun _ => False) w w' := by
  have HKN := hide (known_ok w hO h4)
  by_cases hbig : 65535 < se.size ∨ 65535 < sb.size
  · go_enter Tryz.func10, Tryz.ntmps10
    go_wp2_with fail
    refine (unhide HKN).mono ?_
    rintro r w1 ⟨rfl, hs1⟩
    have HS1 := hide hs1
    clear hs1 HKN
    by_cases e0 : 65535 < se.size
    · have e1 : (se.size : Int) > 65535 := by omega
      go_wp2_with fail
      go_ret
      exact ⟨rfl, unhide HS1⟩
    · have e1 : ¬ (se.size : Int) > 65535 := by omega
      have e2 : (sb.size : Int) > 65535 := by omega
      go_wp2_with fail
      go_ret
      exact ⟨rfl, unhide HS1⟩
  · have e1 : ¬ (se.size : Int) > 65535 := by omega
    have e2 : ¬ (sb.size : Int) > 65535 := by omega
    go_enter Tryz.func10, Tryz.ntmps10
    go_wp2_with fail
    refine (unhide HKN).mono ?_
    rintro r w1 ⟨rfl, hs1⟩
    have HS1 := hide hs1
    have hz1 := hs1.size
    clear hs1 HKN
    go_wp2_with fail
    refine (pick_any c 32 w1 h1 h2 (by omega) (by omega)).mono ?_
    rintro r w2 ⟨f, hf, rfl, rfl⟩
    have hfu : IntKind.u8.wrap (f : Int) = (f : Int) := by rw [IntKind.wrap_u8]; omega
    go_upto_if 43 with fail
    obtain ⟨w3, hw3⟩ : ∃ w3, w3 = w2.alloc (.cells #[.int .u8 31, .int .u8 139, .int .u8 8, .int .u8 (f : Nat), .int .u8 1, .int .u8 2, .int .u8 3, .int .u8 4, .int .u8 5, .int .u8 6] 5) := ⟨_, rfl⟩
    have hH3 : HdAt w2 w3 (.slice (some ⟨w2.heap.size, 0, none⟩) 10 10) (hd10 f) := by
      have hst : Step (fun _ => False) w2 w3 := by rw [hw3]; exact (Step.refl _ _).alloc _
      refine ⟨⟨rfl, .inr ⟨w2.heap.size, 10, #[.int .u8 31, .int .u8 139, .int .u8 8, .int .u8 (f : Nat), .int .u8 1, .int .u8 2, .int .u8 3, .int .u8 4, .int .u8 5, .int .u8 6], rfl, Nat.le_refl _, by rw [hw3]; exact heap_alloc_new _ _, Nat.le_refl 10, by decide, rfl, rfl⟩⟩, hst⟩
    rw [← hw3]
    have HH3 := hide hH3
    clear hw3 hH3
    obtain ⟨i0, hi, hz0, hz1', hz2⟩ := info_parts Tryz.info5
    go_cut [13] (fun h wc => HdAt w2 wc h (hd10 f ++ hdExtra f (bytesOf se)))
    case first =>
      by_cases hx : f / 4 % 2 = 1
      · have hxb : ((f : Int) / 4 % 2 == 1) = true := beq_iff_eq.2 (by omega)
        have hw1 : IntKind.u8.wrap (se.size : Int) = ((se.size % 256 : Nat) : Int) := by rw [IntKind.wrap_u8]; omega
        have hw2 : IntKind.u8.wrap ((se.size : Int) / 256) = ((se.size / 256 : Nat) : Int) := by rw [IntKind.wrap_u8]; omega
        have hzz := (unhide HH3).st.size
        go_wp2_with (first
          | (at_builtin; refine wpList_append_row _ rfl (.tmp 44) (.tmp 52) 31 rfl w2.heap.size 5 i0 (.int .u8 0) 1 1 Tryz.underlying31 hi hz0 hz1' hz2 rfl (by decide) _ 10 (u8s (hd10 f)) rfl ((unhide HH3).row.alloc _) ⟨w3.heap.size, 0, none⟩ 2 2 [.int .u8 ((se.size % 256 : Nat) : Int), .int .u8 ((se.size / 256 : Nat) : Int)] rfl rfl (row_two _ _ _ _) ?a1 (by decide) (by decide) (by decide) ?a2 ?_))
        case a1 => intro u hu; simp at hu; rcases hu with rfl | rfl <;> rfl
        case a2 => simp; omega
        intro g4 c4 w4 hown4 hgr4 _
        have hH4 : HdAt w2 w4 (.slice (some ⟨g4, 0, none⟩) (10 + 2) c4) (hd10 f ++ [se.size % 256, se.size / 256]) := (unhide HH3).grown ((Step.refl _ _).alloc _) hgr4 hown4
        have HH4 := hide hH4
        clear hH4 hown4 hgr4
        go_wp2_with (first
          | (at_builtin; refine Lib.wpList_append_own_string _ rfl (.tmp 54) (.tmp 55) 31 9 rfl w2.heap.size 5 i0 Tryz.underlying31 Tryz.underlying9 hi hz0 hz1' hz2 _ 12 (u8s (hd10 f ++ [se.size % 256, se.size / 256])) rfl (unhide HH4).row se rfl ?b1 ?b2 ?b3 ?_))
        case b1 => unfold maxLen; omega
        case b2 => omega
        case b3 => exact (unhide HH4).st.size
        intro v5 w5 hown5 hgr5 _
        have hH5 := (unhide HH4).grown (N := bytesOf se) (v' := v5) (Step.refl _ _) hgr5 (by rw [← strCells_u8s, bytesOf_length]; exact hown5)
        have HH5 := hide hH5
        clear hH5 hown5 hgr5
        go_wp2_with fail
        go_meet
        unfold hdExtra
        rw [if_pos hx, bytesOf_length, ← List.append_assoc]
        exact unhide HH5
      · have hxb : ((f : Int) / 4 % 2 == 1) = false := beq_eq_false_iff_ne.2 (by omega)
        go_wp2_with fail
        go_meet
        unfold hdExtra
        rw [if_neg hx, List.append_nil]
        exact unhide HH3
    case rest =>
      clear HH3
      have hEl : (hd10 f ++ hdExtra f (bytesOf se)).length ≤ 1048588 ∧ 10 ≤ (hd10 f ++ hdExtra f (bytesOf se)).length := by
        rw [List.length_append, show (hd10 f).length = 10 from rfl]
        unfold hdExtra
        split
        · rw [List.length_append, bytesOf_length]; simp; omega
        · simp
      obtain ⟨A1, hA1⟩ : ∃ A1, A1 = hd10 f ++ hdExtra f (bytesOf se) := ⟨_, rfl⟩
      rw [← hA1] at hcut hEl
      have HA1 := hide hA1
      clear hA1
      obtain ⟨g1, c1, rfl⟩ := hcut.form (by omega)
      have HC1 := hide hcut
      clear hcut
      go_upto_if 60 with fail
      obtain ⟨N, hN⟩ : ∃ N, N = (bytesOf sn).takeWhile (fun x => x != 0) := ⟨_, rfl⟩
      have HN := hide hN
      go_cut [13, 14, 15] (fun h t i wc => HdAt w2 wc h (A1 ++ hdText (f / 8) N) ∧ t = .string (baOf (if f / 8 % 2 = 1 then latinB N else [])))
      case first =>
        by_cases hx : f / 8 % 2 = 1
        · have hxb : ((f : Int) / 8 % 2 == 1) = true := beq_iff_eq.2 (by omega)
          rw [hxb]
          go_wp2_with fail
          go_loopg [13, 14, 15] sn.size (fun k h t i wr => ∃ (j g c : Nat) (y : ByteArray), i = .int .i64 (j : Nat) ∧ k + j = sn.size ∧ h = .slice (some ⟨g, 0, none⟩) (A1.length + j) c ∧ HdAt w2 wr (.slice (some ⟨g, 0, none⟩) (A1.length + j) c) (A1 ++ (bytesOf sn).take j) ∧ t = .string y ∧ y = baOf (latinB ((bytesOf sn).take j)) ∧ ∀ x ∈ (bytesOf sn).take j, x ≠ 0)
          case atStart => exact ⟨0, g1, c1, _, rfl, by omega, rfl, by rw [List.take_zero, List.append_nil]; exact unhide HC1, rfl, rfl, by simp⟩
          case round =>
            obtain ⟨j, g, cc, y, rfl, hk, rfl, hh, rfl, hy, hnz⟩ := hrel
            have HHH := hide hh
            have HNZ := hide hnz
            have HY := hide hy
            have hzz := hh.st.size
            obtain ⟨Lj, hLj⟩ : ∃ Lj, Lj = A1 ++ (bytesOf sn).take j := ⟨_, rfl⟩
            rw [← hLj] at HHH
            have HLJ := hide hLj
            have hyl : y.size ≤ 2 * 1048576 := by
              have h9 := nm_len ((bytesOf sn).take j)
              rw [hy, baOf_size]
              rw [List.length_take, bytesOf_length] at h9
              omega
            clear hh hnz hy hLj
            by_cases hlt : j < sn.size
            · have hlt' : (j : Int) < (sn.size : Int) := by omega
              have hj0 : (0 : Int) ≤ (j : Int) := by omega
              have hlen : Lj.length = A1.length + j := by rw [unhide HLJ, List.length_append, List.length_take, bytesOf_length]; omega
              have hx256 : sn[j].toNat < 256 := sn[j].toNat_lt
              by_cases h0 : sn[j].toNat = 0
              · have h0' : ((sn[j].toNat : Int) != 0) = false := by rw [bne_eq_false_iff_eq]; omega
                have hend : N = (bytesOf sn).take j := by
                  rw [unhide HN]
                  exact cut_end _ j (by rw [bytesOf_length]; omega) (unhide HNZ) (fun h => by rw [nm_get sn j hlt]; exact h0)
                have HE := hide hend
                have hrow := (unhide HHH).row
                rw [hlen] at hrow
                have HROW := hide hrow
                clear hend hrow
                go_wp2_with (first
                  | (at_builtin; refine wpList_append_row _ rfl (.tmp 86) (.tmp 87) 31 rfl w2.heap.size 5 i0 (.int .u8 0) 1 1 Tryz.underlying31 hi hz0 hz1' hz2 rfl (by decide) _ (A1.length + j) (u8s Lj) rfl ((unhide HROW).alloc _) ⟨wr.heap.size, 0, none⟩ 1 1 [.int .u8 0] rfl rfl (row_one _ _ _) ?a1 (by decide) ?a2 ?a3 ?a4 ?_))
                case a1 => first | rfl | (intro u hu; simp at hu; rw [hu]; rfl)
                case a2 => unfold maxLen; omega
                case a3 => omega
                case a4 => first | omega | (simp; omega)
                intro g5 c5 w5 hown5 hgr5 _
                have hH5 := (unhide HHH).grown (N := [0]) (v' := .slice (some ⟨g5, 0, none⟩) (A1.length + j + 1) c5) ((Step.refl _ _).alloc _) hgr5 (by rw [hlen]; exact hown5)
                have HH5 := hide hH5
                clear hH5 hown5 hgr5
                go_wp2_with fail
                go_meet
                unfold hdText
                rw [if_pos hx, if_pos hx, unhide HE, ← List.append_assoc, ← unhide HLJ]
                exact ⟨unhide HH5, by rw [unhide HY]⟩
              · have h0' : ((sn[j].toNat : Int) != 0) = true := by rw [bne_iff_ne]; omega
                have hrow := (unhide HHH).row
                rw [hlen] at hrow
                have HROW := hide hrow
                have henc := enc_latin sn[j].toNat hx256
                have hls : (baOf (latinC sn[j].toNat)).size ≤ 2 := by rw [baOf_size]; unfold latinC; split <;> simp
                clear hrow
                go_wp2_with (first
                  | (at_builtin; refine wpList_append_row _ rfl (.tmp 73) (.tmp 77) 31 rfl w2.heap.size 5 i0 (.int .u8 0) 1 1 Tryz.underlying31 hi hz0 hz1' hz2 rfl (by decide) _ (A1.length + j) (u8s Lj) rfl ((unhide HROW).alloc _) ⟨wr.heap.size, 0, none⟩ 1 1 [.int .u8 (sn[j].toNat : Int)] rfl rfl (row_one _ _ _) ?a1 (by decide) ?a2 ?a3 ?a4 ?_))
                case a1 => first | rfl | (intro u hu; simp at hu; rw [hu]; rfl)
                case a2 => unfold maxLen; omega
                case a3 => omega
                case a4 => first | omega | (simp; omega)
                intro g5 c5 w5 hown5 hgr5 _
                have hH5 := (unhide HHH).grown (N := [sn[j].toNat]) (v' := .slice (some ⟨g5, 0, none⟩) (A1.length + j + 1) c5) ((Step.refl _ _).alloc _) hgr5 (by rw [hlen]; exact hown5)
                have HH5 := hide hH5
                clear hH5 hown5 hgr5
                go_wp2_with fail
                go_roundg (gk - 1)
                case measure => omega
                case rel =>
                  refine ⟨j + 1, g5, c5, y ++ baOf (latinC sn[j].toNat), by go_num, by omega, rfl, ?_, rfl, ?_, ?_⟩
                  · rw [bytesOf_step sn j hlt, ← List.append_assoc, ← unhide HLJ]; exact unhide HH5
                  · rw [bytesOf_step sn j hlt, nm_snoc, baOf_append, unhide HY]
                  · exact cut_more _ j (by rw [bytesOf_length]; exact hlt) (unhide HNZ) (by rw [nm_get sn j hlt]; exact h0)
            · have hlt' : ¬ (j : Int) < (sn.size : Int) := by omega
              have hlen : Lj.length = A1.length + j := by rw [unhide HLJ, List.length_append, List.length_take, bytesOf_length]; omega
              have hend : N = (bytesOf sn).take j := by
                rw [unhide HN]
                exact cut_end _ j (by rw [bytesOf_length]; omega) (unhide HNZ) (fun h => by rw [bytesOf_length] at h; omega)
              have HE := hide hend
              have hrow := (unhide HHH).row
              rw [hlen] at hrow
              have HROW := hide hrow
              clear hend hrow
              go_wp2_with (first
                | (at_builtin; refine wpList_append_row _ rfl (.tmp 86) (.tmp 87) 31 rfl w2.heap.size 5 i0 (.int .u8 0) 1 1 Tryz.underlying31 hi hz0 hz1' hz2 rfl (by decide) _ (A1.length + j) (u8s Lj) rfl ((unhide HROW).alloc _) ⟨wr.heap.size, 0, none⟩ 1 1 [.int .u8 0] rfl rfl (row_one _ _ _) ?a1 (by decide) ?a2 ?a3 ?a4 ?_))
              case a1 => first | rfl | (intro u hu; simp at hu; rw [hu]; rfl)
              case a2 => unfold maxLen; omega
              case a3 => omega
              case a4 => first | omega | (simp; omega)
              intro g5 c5 w5 hown5 hgr5 _
              have hH5 := (unhide HHH).grown (N := [0]) (v' := .slice (some ⟨g5, 0, none⟩) (A1.length + j + 1) c5) ((Step.refl _ _).alloc _) hgr5 (by rw [hlen]; exact hown5)
              have HH5 := hide hH5
              clear hH5 hown5 hgr5
              go_wp2_with fail
              go_meet
              unfold hdText
              rw [if_pos hx, if_pos hx, unhide HE, ← List.append_assoc, ← unhide HLJ]
              exact ⟨unhide HH5, by rw [unhide HY]⟩
        · have hxb : ((f : Int) / 8 % 2 == 1) = false := beq_eq_false_iff_ne.2 (by omega)
          go_wp2_with fail
          go_meet
          unfold hdText
          rw [if_neg hx, if_neg hx, List.append_nil]
          exact ⟨unhide HC1, rfl⟩
      case rest =>
        obtain ⟨hcut, ht⟩ := hcut
        subst ht
        clear HC1
        have hNl : N.length ≤ 1048576 := by
          rw [hN]
          refine Nat.le_trans (tw_len _ _) ?_
          rw [bytesOf_length]; exact hn
        have hA2l : (A1 ++ hdText (f / 8) N).length ≤ 2097200 ∧ 10 ≤ (A1 ++ hdText (f / 8) N).length := by
          rw [List.length_append]
          unfold hdText
          split
          · rw [List.length_append]; simp; omega
          · simp; omega
        obtain ⟨A2, hA2⟩ : ∃ A2, A2 = A1 ++ hdText (f / 8) N := ⟨_, rfl⟩
        rw [← hA2] at hcut hA2l
        have HA2 := hide hA2
        obtain ⟨WT, hWT⟩ : ∃ WT, WT = baOf (if f / 8 % 2 = 1 then latinB N else []) := ⟨_, rfl⟩
        rw [← hWT]
        have HWT := hide hWT
        clear hA2 hN hWT
        obtain ⟨g2, c2, rfl⟩ := hcut.form (by omega)
        have HC2 := hide hcut
        clear hcut
        go_upto_if 92 with fail
        obtain ⟨Rm, hRm⟩ : ∃ Rm, Rm = (bytesOf sr).takeWhile (fun x => x != 0) := ⟨_, rfl⟩
        have HRm := hide hRm
        go_cut [13, 16] (fun h i wc => HdAt w2 wc h (A2 ++ hdText (f / 16) Rm))
        case first =>
          by_cases hx : f / 16 % 2 = 1
          · have hxb : ((f : Int) / 16 % 2 == 1) = true := beq_iff_eq.2 (by omega)
            rw [hxb]
            go_wp2_with fail
            go_loopg [13, 16] sr.size (fun k h i wr => ∃ (j g c : Nat), i = .int .i64 (j : Nat) ∧ k + j = sr.size ∧ h = .slice (some ⟨g, 0, none⟩) (A2.length + j) c ∧ HdAt w2 wr (.slice (some ⟨g, 0, none⟩) (A2.length + j) c) (A2 ++ (bytesOf sr).take j) ∧ ∀ x ∈ (bytesOf sr).take j, x ≠ 0)
            case atStart => exact ⟨0, g2, c2, rfl, by omega, rfl, by rw [List.take_zero, List.append_nil]; exact unhide HC2, by simp⟩
            case round =>
              obtain ⟨j, g, cc, rfl, hk, rfl, hh, hnz⟩ := hrel
              have HHH := hide hh
              have HNZ := hide hnz
              have hzz := hh.st.size
              obtain ⟨Lj, hLj⟩ : ∃ Lj, Lj = A2 ++ (bytesOf sr).take j := ⟨_, rfl⟩
              rw [← hLj] at HHH
              have HLJ := hide hLj
              clear hh hnz hLj
              by_cases hlt : j < sr.size
              · have hlt' : (j : Int) < (sr.size : Int) := by omega
                have hj0 : (0 : Int) ≤ (j : Int) := by omega
                have hlen : Lj.length = A2.length + j := by rw [unhide HLJ, List.length_append, List.length_take, bytesOf_length]; omega
                have hx256 : sr[j].toNat < 256 := sr[j].toNat_lt
                by_cases h0 : sr[j].toNat = 0
                · have h0' : ((sr[j].toNat : Int) != 0) = false := by rw [bne_eq_false_iff_eq]; omega
                  have hend : Rm = (bytesOf sr).take j := by
                    rw [unhide HRm]
                    exact cut_end _ j (by rw [bytesOf_length]; omega) (unhide HNZ) (fun h => by rw [nm_get sr j hlt]; exact h0)
                  have HE := hide hend
                  have hrow := (unhide HHH).row
                  rw [hlen] at hrow
                  have HROW := hide hrow
                  clear hend hrow
                  go_wp2_with (first
                    | (at_builtin; refine wpList_append_row _ rfl (.tmp 111) (.tmp 112) 31 rfl w2.heap.size 5 i0 (.int .u8 0) 1 1 Tryz.underlying31 hi hz0 hz1' hz2 rfl (by decide) _ (A2.length + j) (u8s Lj) rfl ((unhide HROW).alloc _) ⟨wr.heap.size, 0, none⟩ 1 1 [.int .u8 0] rfl rfl (row_one _ _ _) ?a1 (by decide) ?a2 ?a3 ?a4 ?_))
                  case a1 => first | rfl | (intro u hu; simp at hu; rw [hu]; rfl)
                  case a2 => unfold maxLen; omega
                  case a3 => omega
                  case a4 => first | omega | (simp; omega)
                  intro g5 c5 w5 hown5 hgr5 _
                  have hH5 := (unhide HHH).grown (N := [0]) (v' := .slice (some ⟨g5, 0, none⟩) (A2.length + j + 1) c5) ((Step.refl _ _).alloc _) hgr5 (by rw [hlen]; exact hown5)
                  have HH5 := hide hH5
                  clear hH5 hown5 hgr5
                  go_wp2_with fail
                  go_meet
                  unfold hdText
                  rw [if_pos hx, unhide HE, ← List.append_assoc, ← unhide HLJ]
                  exact unhide HH5
                · have h0' : ((sr[j].toNat : Int) != 0) = true := by rw [bne_iff_ne]; omega
                  have hrow := (unhide HHH).row
                  rw [hlen] at hrow
                  have HROW := hide hrow
                  clear hrow
                  go_wp2_with (first
                    | (at_builtin; refine wpList_append_row _ rfl (.tmp 105) (.tmp 109) 31 rfl w2.heap.size 5 i0 (.int .u8 0) 1 1 Tryz.underlying31 hi hz0 hz1' hz2 rfl (by decide) _ (A2.length + j) (u8s Lj) rfl ((unhide HROW).alloc _) ⟨wr.heap.size, 0, none⟩ 1 1 [.int .u8 (sr[j].toNat : Int)] rfl rfl (row_one _ _ _) ?a1 (by decide) ?a2 ?a3 ?a4 ?_))
                  case a1 => first | rfl | (intro u hu; simp at hu; rw [hu]; rfl)
                  case a2 => unfold maxLen; omega
                  case a3 => omega
                  case a4 => first | omega | (simp; omega)
                  intro g5 c5 w5 hown5 hgr5 _
                  have hH5 := (unhide HHH).grown (N := [sr[j].toNat]) (v' := .slice (some ⟨g5, 0, none⟩) (A2.length + j + 1) c5) ((Step.refl _ _).alloc _) hgr5 (by rw [hlen]; exact hown5)
                  have HH5 := hide hH5
                  clear hH5 hown5 hgr5
                  go_wp2_with fail
                  go_roundg (gk - 1)
                  case measure => omega
                  case rel =>
                    refine ⟨j + 1, g5, c5, by go_num, by omega, rfl, ?_, ?_⟩
                    · rw [bytesOf_step sr j hlt, ← List.append_assoc, ← unhide HLJ]; exact unhide HH5
                    · exact cut_more _ j (by rw [bytesOf_length]; exact hlt) (unhide HNZ) (by rw [nm_get sr j hlt]; exact h0)
              · have hlt' : ¬ (j : Int) < (sr.size : Int) := by omega
                have hlen : Lj.length = A2.length + j := by rw [unhide HLJ, List.length_append, List.length_take, bytesOf_length]; omega
                have hend : Rm = (bytesOf sr).take j := by
                  rw [unhide HRm]
                  exact cut_end _ j (by rw [bytesOf_length]; omega) (unhide HNZ) (fun h => by rw [bytesOf_length] at h; omega)
                have HE := hide hend
                have hrow := (unhide HHH).row
                rw [hlen] at hrow
                have HROW := hide hrow
                clear hend hrow
                go_wp2_with (first
                  | (at_builtin; refine wpList_append_row _ rfl (.tmp 111) (.tmp 112) 31 rfl w2.heap.size 5 i0 (.int .u8 0) 1 1 Tryz.underlying31 hi hz0 hz1' hz2 rfl (by decide) _ (A2.length + j) (u8s Lj) rfl ((unhide HROW).alloc _) ⟨wr.heap.size, 0, none⟩ 1 1 [.int .u8 0] rfl rfl (row_one _ _ _) ?a1 (by decide) ?a2 ?a3 ?a4 ?_))
                case a1 => first | rfl | (intro u hu; simp at hu; rw [hu]; rfl)
                case a2 => unfold maxLen; omega
                case a3 => omega
                case a4 => first | omega | (simp; omega)
                intro g5 c5 w5 hown5 hgr5 _
                have hH5 := (unhide HHH).grown (N := [0]) (v' := .slice (some ⟨g5, 0, none⟩) (A2.length + j + 1) c5) ((Step.refl _ _).alloc _) hgr5 (by rw [hlen]; exact hown5)
                have HH5 := hide hH5
                clear hH5 hown5 hgr5
                go_wp2_with fail
                go_meet
                unfold hdText
                rw [if_pos hx, unhide HE, ← List.append_assoc, ← unhide HLJ]
                exact unhide HH5
          · have hxb : ((f : Int) / 16 % 2 == 1) = false := beq_eq_false_iff_ne.2 (by omega)
            go_wp2_with fail
            go_meet
            unfold hdText
            rw [if_neg hx, List.append_nil]
            exact unhide HC2
        case rest =>
          clear HC2
          have hRl : Rm.length ≤ 1048576 := by
            rw [hRm]
            refine Nat.le_trans (tw_len _ _) ?_
            rw [bytesOf_length]; exact hr
          have hA3l : (A2 ++ hdText (f / 16) Rm).length ≤ 3145800 ∧ 10 ≤ (A2 ++ hdText (f / 16) Rm).length := by
            rw [List.length_append]
            unfold hdText
            split
            · rw [List.length_append]; simp; omega
            · simp; omega
          obtain ⟨A3, hA3⟩ : ∃ A3, A3 = A2 ++ hdText (f / 16) Rm := ⟨_, rfl⟩
          rw [← hA3] at hcut hA3l
          have HA3 := hide hA3
          clear hA3 hRm
          obtain ⟨g3, c3, rfl⟩ := hcut.form (by omega)
          have HC3 := hide hcut
          clear hcut
          go_upto_if 117 with fail
          have hA3b : AllB A3 := by
            rw [unhide HA3, unhide HA2, unhide HA1]
            intro y hy
            simp only [List.mem_append] at hy
            have hbyte : ∀ (s : ByteArray) (y : Nat), y ∈ bytesOf s → y < 256 := fun s y hy => bytesOf_lt s y hy
            rcases hy with ((hy | hy) | hy) | hy
            · simp [hd10] at hy; omega
            · unfold hdExtra at hy
              split at hy
              · rcases List.mem_append.1 hy with hy | hy
                · rw [bytesOf_length] at hy; simp at hy; omega
                · exact hbyte se y hy
              · simp at hy
            · unfold hdText at hy
              split at hy
              · rcases List.mem_append.1 hy with hy | hy
                · rw [unhide HN] at hy; exact hbyte sn y ((List.takeWhile_sublist _).subset hy)
                · simp at hy; omega
              · simp at hy
            · unfold hdText at hy
              split at hy
              · rcases List.mem_append.1 hy with hy | hy
                · rw [unhide HRm] at hy; exact hbyte sr y ((List.takeWhile_sublist _).subset hy)
                · simp at hy; omega
              · simp at hy
          go_cut [13, 17] (fun h i wc => HdAt w2 wc h (A3 ++ hdCheck f A3))
          case first =>
            by_cases hx : f / 2 % 2 = 1
            · have hxb : ((f : Int) / 2 % 2 == 1) = true := beq_iff_eq.2 (by omega)
              rw [hxb]
              obtain ⟨gq, cq, hvq, hSq, hgq, _⟩ := src_own (unhide HC3).row hA3b (by omega) (by omega)
              simp only [Value.slice.injEq, Option.some.injEq, Addr.mk.injEq, and_true] at hvq
              have hvg := hvq.1
              subst hvg
              have HCK := hide (checkB_any g3 0 c3 A3 wc hSq (by omega))
              clear hSq hvq
              go_wp2_with fail
              refine (unhide HCK).mono ?_
              rintro r w6 ⟨rfl, rfl⟩
              have hcl := crc_lt A3
              obtain ⟨C, hC⟩ : ∃ C, C = crcWith 0 A3 := ⟨_, rfl⟩
              rw [← hC] at hcl ⊢
              have HCE := hide hC
              clear hC HCK
              have q1 : IntKind.u8.wrap (C : Int) = ((C % 256 : Nat) : Int) := by rw [IntKind.wrap_u8]; omega
              have q2 : IntKind.u8.wrap ((C : Int) / 256) = ((C / 256 % 256 : Nat) : Int) := by rw [IntKind.wrap_u8]; omega
              have hzz := (unhide HC3).st.size
              go_wp2_with (first
                | (at_builtin; refine wpList_append_row _ rfl (.tmp 120) (.tmp 126) 31 rfl w2.heap.size 5 i0 (.int .u8 0) 1 1 Tryz.underlying31 hi hz0 hz1' hz2 rfl (by decide) _ A3.length (u8s A3) rfl ((unhide HC3).row.alloc _) ⟨w6.heap.size, 0, none⟩ 2 2 [.int .u8 ((C % 256 : Nat) : Int), .int .u8 ((C / 256 % 256 : Nat) : Int)] rfl rfl (row_two _ _ _ _) ?a1 (by decide) ?a3 ?a4 ?a2 ?_))
              case a1 => intro u hu; simp at hu; rcases hu with rfl | rfl <;> rfl
              case a2 => first | omega | (simp; omega)
              case a3 => unfold maxLen; omega
              case a4 => omega
              intro g5 c5 w5 hown5 hgr5 _
              have hH5 := (unhide HC3).grown (N := [C % 256, C / 256 % 256]) (v' := .slice (some ⟨g5, 0, none⟩) (A3.length + 2) c5) ((Step.refl _ _).alloc _) hgr5 hown5
              have HH5 := hide hH5
              clear hH5 hown5 hgr5
              go_wp2_with fail
              go_meet
              unfold hdCheck
              rw [if_pos hx, ← unhide HCE]
              exact unhide HH5
            · have hxb : ((f : Int) / 2 % 2 == 1) = false := beq_eq_false_iff_ne.2 (by omega)
              rw [hxb]
              go_wp2_with fail
              go_meet
              unfold hdCheck
              rw [if_neg hx, List.append_nil]
              exact unhide HC3
          case rest =>
            have hck2 : (hdCheck f A3).length ≤ 2 ∧ AllB (hdCheck f A3) := by
              unfold hdCheck
              split
              · exact ⟨by simp, fun y hy => by simp at hy; omega⟩
              · exact ⟨by simp, fun y hy => by simp at hy⟩
            have hA4l : (A3 ++ hdCheck f A3).length ≤ 3145802 ∧ 10 ≤ (A3 ++ hdCheck f A3).length := by
              rw [List.length_append]
              omega
            obtain ⟨A4, hA4⟩ : ∃ A4, A4 = A3 ++ hdCheck f A3 := ⟨_, rfl⟩
            rw [← hA4] at hcut hA4l
            have hA4b : AllB A4 := by
              rw [hA4]
              intro y hy
              rcases List.mem_append.1 hy with hy | hy
              · exact hA3b y hy
              · exact hck2.2 y hy
            have HA4 := hide (show A4 = hdAll f (bytesOf se) N Rm by
              rw [hA4]
              have e : A3 = hdA f (bytesOf se) N Rm := by rw [unhide HA3, unhide HA2, unhide HA1]; rfl
              rw [e]
              rfl)
            clear hA4 hck2 HC3 hA3b
            obtain ⟨g4, c4, rfl⟩ := hcut.form (by omega)
            have HC4 := hide hcut
            clear hcut
            rename_i K hK
            refine hK _ _ ?_
            exact named_tail1 c se sn sr sb w w2 wc h1 h2 hO h4 (by omega) hb (by omega) f g4 c4 WT A4 N Rm hf HS1 HC4 hA4l hA4b HA4 HN HRm HWT _ _ _ _ _ _ _ _ _ _ _ _ _ _ _ _ _ _ _ _ _ _ _ _ _ _ _ _ _ _ _ _ _ _ _ _ _ _ _ _ _ _ _ _ _ _ _ _ _ _ _ _ _ _ _ _ _ _ _ _ _ _ _ _ _ _ _ _ _ _ _ _ _ _ _ _ _ _ _ _ _ _ _ _ _ _ _ _ _ _ _ _ _ _ _ _ _ _ _ _ _ _ _ _ _ _ _ _ _ _ _ _ _ _ _ _ _ _ _ _ _ _ _ _ _ _ _ _ _ _ _ _ _ _ _ _ _ _ _ _ _ _ _ _ _ _ _ _ _ _ _ _ _ _ _ _ _ _ _ _ _ _ _ _ _ _ _ _ _ _ _ _ _ _ _ _ _ _ _ _ _ _ _ _ _ _ _ _ _
end Go.Proofs.YtbpahojchgpdnaaGreatDoor
