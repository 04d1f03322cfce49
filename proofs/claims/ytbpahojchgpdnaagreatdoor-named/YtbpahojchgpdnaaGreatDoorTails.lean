/- Proved here: Named's second Unpack, whose flags may not be. Proved here: Named's Pack, and its first Unpack. -/
import Derived.Test.YtbpahojchgpdnaaGreatDoorNames
namespace Go.Proofs.YtbpahojchgpdnaaGreatDoor
open Go.RowKit Go.Bel Go.Maps

noncomputable def namedTail2 : Code := (Tryz.f10.body.bind (codeFrom 33)).getD .skip

set_option maxRecDepth 100000 in
set_option maxHeartbeats 4000000 in
theorem named_tail2 (c : Int) (se sn sr sb : ByteArray) (w w9 : World) (h1 : -9223372036854775808 ≤ c) (h2 : c ≤ 9223372036854775807) (hO : OrderAt w) (h4 : 4 ≤ w.heap.size) (f g7 c7 bn T : Nat) (WT : ByteArray) (ro : Value) (hf : f < 32) (BB : List Nat) (hBl : BB.length = bn) (hbn1 : bn ≤ 4000000 ∧ 10 ≤ bn) (hBall : AllB BB) (hB03 : ∀ i, i < 4 → BB[i]?.getD 0 = (hd10 f)[i]?.getD 0)
    (hS9 : Go.Bel.Src w9 g7 0 BB) (hf93 : w9.frozen? ⟨g7, 3, none⟩ = false) (hT9 : w9.heap[T]? = some (.cells #[.int .i64 0, ro, .int .i64 (bn : Nat), .string WT] 45 (0, 0))) (hTg : T ≠ g7) (hTw : w.heap.size ≤ T) (hgw : w.heap.size ≤ g7) (hst : Step (fun _ => False) w w9)
    (fr5 fr6 fr7 fr8 fr9 fr10 fr15 fr16 fr17 fr18 fr19 fr21 fr22 fr23 fr24 fr25 fr26 fr27 fr28 fr29 fr30 fr31 fr32 fr33 fr34 fr35 fr36 fr37 fr38 fr39 fr40 fr41 fr42 fr43 fr44 fr45 fr46 fr47 fr48 fr49 fr50 fr51 fr52 fr53 fr54 fr55 fr56 fr57 fr58 fr59 fr60 fr61 fr62 fr63 fr64 fr65 fr66 fr67 fr68 fr69 fr70 fr71 fr72 fr73 fr74 fr75 fr76 fr77 fr78 fr79 fr80 fr81 fr82 fr83 fr84 fr85 fr86 fr87 fr88 fr89 fr90 fr91 fr92 fr93 fr94 fr95 fr96 fr97 fr98 fr99 fr100 fr101 fr102 fr103 fr104 fr105 fr106 fr107 fr108 fr109 fr110 fr111 fr112 fr113 fr114 fr115 fr116 fr117 fr118 fr119 fr120 fr121 fr122 fr123 fr124 fr125 fr126 fr127 fr128 fr129 fr130 fr131 fr132 fr133 fr134 fr135 fr136 fr137 fr138 fr139 fr140 fr141 fr142 fr143 fr144 fr145 fr146 fr147 fr148 fr149 fr150 fr151 fr152 fr153 fr154 fr155 fr156 fr157 fr158 fr159 fr160 fr161 fr162 fr163 fr164 fr165 fr166 fr167 fr168 fr169 fr170 fr171 fr172 fr173 fr174 fr175 fr176 fr177 fr178 fr179 fr180 fr181 fr182 fr183 fr184 fr185 fr186 fr187 fr188 fr189 fr190 fr191 fr192 fr193 fr194 fr195 fr196 fr197 fr198 : Value) :
    namedTail2.wp Tryz.prog (bodyPost Tryz.prog Tryz.f10 (fun e w' => e = .returned (.bool true) ∧ Step (fun _ => False) w w')) ⟨(List.toArray ((.int .i64 c) :: (.string se) :: (.string sn) :: (.string sr) :: (.string sb) :: fr5 :: fr6 :: fr7 :: fr8 :: fr9 :: fr10 :: (.bool true) :: (.int .i64 (f : Nat)) :: (.slice (some ⟨g7, 0, none⟩) bn c7) :: (.string WT) :: fr15 :: fr16 :: fr17 :: fr18 :: fr19 :: (.pointer (some ⟨T, 0, none⟩)) :: fr21 :: fr22 :: fr23 :: fr24 :: fr25 :: fr26 :: fr27 :: fr28 :: fr29 :: fr30 :: fr31 :: fr32 :: fr33 :: fr34 :: fr35 :: fr36 :: fr37 :: fr38 :: fr39 :: fr40 :: fr41 :: fr42 :: fr43 :: fr44 :: fr45 :: fr46 :: fr47 :: fr48 :: fr49 :: fr50 :: fr51 :: fr52 :: fr53 :: fr54 :: fr55 :: fr56 :: fr57 :: fr58 :: fr59 :: fr60 :: fr61 :: fr62 :: fr63 :: fr64 :: fr65 :: fr66 :: fr67 :: fr68 :: fr69 :: fr70 :: fr71 :: fr72 :: fr73 :: fr74 :: fr75 :: fr76 :: fr77 :: fr78 :: fr79 :: fr80 :: fr81 :: fr82 :: fr83 :: fr84 :: fr85 :: fr86 :: fr87 :: fr88 :: fr89 :: fr90 :: fr91 :: fr92 :: fr93 :: fr94 :: fr95 :: fr96 :: fr97 :: fr98 :: fr99 :: fr100 :: fr101 :: fr102 :: fr103 :: fr104 :: fr105 :: fr106 :: fr107 :: fr108 :: fr109 :: fr110 :: fr111 :: fr112 :: fr113 :: fr114 :: fr115 :: fr116 :: fr117 :: fr118 :: fr119 :: fr120 :: fr121 :: fr122 :: fr123 :: fr124 :: fr125 :: fr126 :: fr127 :: fr128 :: fr129 :: fr130 :: fr131 :: fr132 :: fr133 :: fr134 :: fr135 :: fr136 :: fr137 :: fr138 :: fr139 :: fr140 :: fr141 :: fr142 :: fr143 :: fr144 :: fr145 :: fr146 :: fr147 :: fr148 :: fr149 :: fr150 :: fr151 :: fr152 :: fr153 :: fr154 :: fr155 :: fr156 :: fr157 :: fr158 :: fr159 :: fr160 :: fr161 :: fr162 :: fr163 :: fr164 :: fr165 :: fr166 :: fr167 :: fr168 :: fr169 :: fr170 :: fr171 :: fr172 :: fr173 :: fr174 :: fr175 :: fr176 :: fr177 :: fr178 :: fr179 :: fr180 :: fr181 :: fr182 :: fr183 :: fr184 :: fr185 :: fr186 :: fr187 :: fr188 :: fr189 :: fr190 :: fr191 :: fr192 :: fr193 :: fr194 :: fr195 :: fr196 :: fr197 :: fr198 :: [])), []⟩ w9 := by
  conv => arg 2; whnf
  have hzw := hst.size
  have hc93 := hS9.cell 3 (by omega)
  rw [hB03 3 (by omega), show (hd10 f)[3]?.getD 0 = f from rfl] at hc93
  have hg9 := World.block_lt_of_cell? w9 _ hc93
  have hT9l := lt_of_block hT9
  have HS9 := hide hS9
  have HT9 := hide hT9
  have HS9w := hide hst
  clear hS9 hT9 hst
  go_wp2_with fail
  go_cut [] (fun wd => ∃ f' : Nat, 32 ≤ f' ∧ f' < 256 ∧ Go.Bel.Src wd g7 0 (BB.set 3 f') ∧ Step (· = g7) w9 wd)
  case first =>
    obtain ⟨k3, hk3, hpk⟩ := pick_ex c 3 h1 h2 (by omega) (by omega)
    have HPK := hide hpk
    have HOR := hide (or_k f k3 hf hk3)
    clear hpk
    have hk64 : k3 < 64 := by omega
    go_region_with (go_at_call 19; refine (unhide HPK _).mono ?_; rintro e wq ⟨rfl, rfl⟩)
    all_goals go_wp2_with fail
    all_goals go_meet
    all_goals (first | rw [(unhide HOR).1] | rw [(unhide HOR).2.1])
    all_goals exact ⟨f + 32 * 2 ^ k3, (unhide HOR).2.2.2, (unhide HOR).2.2.1, (src_set (unhide HS9) (by omega) (unhide HOR).2.2.1).of_block rfl, (((Step.refl (· = g7) w9).setCell (p := ⟨g7, 3, none⟩) rfl _).drew)⟩
  case rest =>
    obtain ⟨f', hf1, hf2, hSd, hsd⟩ := hcut
    have hzd := hsd.size
    have hTd := hsd.at_ (unhide HT9) (by omega)
    have hBl' : (BB.set 3 f').length = bn := by rw [List.length_set, hBl]
    have hBall' : AllB (BB.set 3 f') := by
      intro y hy
      rcases List.mem_or_eq_of_mem_set hy with hy | rfl
      · exact hBall y hy
      · exact hf2
    have hgz : gzAll (BB.set 3 f') (asked ((sb.size : Nat) : Int)) 4 [] 0 [] := by
      refine nm_no (f' := f') (by omega) (fun i hi => ?_) (by rw [List.getElem?_set_self (by omega)]; rfl) hf1 hf2
      rw [List.getElem?_set_ne (by omega), hB03 i (by omega)]
      rcases i with _ | _ | _ | i
      · rfl
      · rfl
      · rfl
      · omega
    have hst9 : Step (fun _ => False) w wc := (unhide HS9w).trans' hsd (fun i hi y => by omega)
    have hU := unpackGz g7 0 c7 4 ((sb.size : Nat) : Int) (BB.set 3 f') [] 0 [] wc hSd (by omega) (hO.step hst9 (fun _ _ x => x)) (by omega) hBall' (by omega) hgz
    rw [hBl'] at hU
    have HU := hide hU
    have HST9 := hide hst9
    have HTD := hide hTd
    clear hU hgz hSd hsd hst9 hTd HS9 HT9
    go_wp2_with fail
    refine (unhide HU).mono ?_
    rintro r we ⟨ve, rfl, howne, hse⟩
    have hve : ve = .slice none 0 0 ∨ ∃ g c, ve = .slice (some ⟨g, 0, none⟩) 0 c := by
      rcases howne.2 with ⟨h8, _⟩ | ⟨g, cap, cur, hv, _⟩
      · exact .inl h8
      · exact .inr ⟨g, cap, hv⟩
    obtain ⟨ea, ec, hve2⟩ : ∃ a c, ve = .slice a 0 c := by
      rcases hve with h8 | ⟨g, c, h8⟩
      · exact ⟨_, _, h8⟩
      · exact ⟨_, _, h8⟩
    subst hve2
    have hTe := hse.at_ (unhide HTD) (fun x => x)
    have hTel := lt_of_block hTe
    have t0 := blk_cell hTe 0 _ rfl
    have t1 := blk_cell hTe 1 _ rfl
    have t2 := blk_cell hTe 2 _ rfl
    have t3 := blk_cell hTe 3 _ rfl
    have v0 := blk_free hTe 0
    have v1 := blk_free hTe 1
    have v2 := blk_free hTe 2
    have v3 := blk_free hTe 3
    have HF := hide ((unhide HST9).trans hse)
    clear hTe hse howne HU
    rw [baOf_nil]
    go_wp2_with fail
    go_ret
    exact ⟨rfl, ((((unhide HF).setNew (by simp; omega) _).setNew (by simp; omega) _).setNew (by simp; omega) _).setNew (by simp; omega) _⟩
end Go.Proofs.YtbpahojchgpdnaaGreatDoor

namespace Go.Proofs.YtbpahojchgpdnaaGreatDoor
open Go.RowKit Go.Bel Go.Maps

noncomputable def namedTail1 : Code := (Tryz.f10.body.bind (codeFrom 26)).getD .skip

set_option maxRecDepth 100000 in
set_option maxHeartbeats 4000000 in
theorem named_tail1 (c : Int) (se sn sr sb : ByteArray) (w w2 wc : World) (h1 : -9223372036854775808 ≤ c) (h2 : c ≤ 9223372036854775807) (hO : OrderAt w) (h4 : 4 ≤ w.heap.size) (hesz : se.size ≤ 65535) (hb : sb.size ≤ 1048576) (hb2 : sb.size ≤ 65535) (f g4 c4 : Nat) (WT : ByteArray) (A4 N Rm : List Nat) (hf : f < 32)
    (HS1 : Hid (Step (fun _ => False) w w2)) (HC4 : Hid (HdAt w2 wc (.slice (some ⟨g4, 0, none⟩) A4.length c4) A4)) (hA4l : A4.length ≤ 3145802 ∧ 10 ≤ A4.length) (hA4b : AllB A4) (HA4 : Hid (A4 = hdAll f (bytesOf se) N Rm)) (HN : Hid (N = (bytesOf sn).takeWhile (fun x => x != 0))) (HRm : Hid (Rm = (bytesOf sr).takeWhile (fun x => x != 0))) (HWT : Hid (WT = baOf (if f / 8 % 2 = 1 then latinB N else [])))
    (fr5 fr6 fr7 fr8 fr9 fr15 fr16 fr17 fr18 fr19 fr20 fr21 fr22 fr23 fr24 fr25 fr26 fr27 fr28 fr29 fr30 fr31 fr32 fr33 fr34 fr35 fr36 fr37 fr38 fr39 fr40 fr41 fr42 fr43 fr44 fr45 fr46 fr47 fr48 fr49 fr50 fr51 fr52 fr53 fr54 fr55 fr56 fr57 fr58 fr59 fr60 fr61 fr62 fr63 fr64 fr65 fr66 fr67 fr68 fr69 fr70 fr71 fr72 fr73 fr74 fr75 fr76 fr77 fr78 fr79 fr80 fr81 fr82 fr83 fr84 fr85 fr86 fr87 fr88 fr89 fr90 fr91 fr92 fr93 fr94 fr95 fr96 fr97 fr98 fr99 fr100 fr101 fr102 fr103 fr104 fr105 fr106 fr107 fr108 fr109 fr110 fr111 fr112 fr113 fr114 fr115 fr116 fr117 fr118 fr119 fr120 fr121 fr122 fr123 fr124 fr125 fr126 fr127 fr128 fr129 fr130 fr131 fr132 fr133 fr134 fr135 fr136 fr137 fr138 fr139 fr140 fr141 fr142 fr143 fr144 fr145 fr146 fr147 fr148 fr149 fr150 fr151 fr152 fr153 fr154 fr155 fr156 fr157 fr158 fr159 fr160 fr161 fr162 fr163 fr164 fr165 fr166 fr167 fr168 fr169 fr170 fr171 fr172 fr173 fr174 fr175 fr176 fr177 fr178 fr179 fr180 fr181 fr182 fr183 fr184 fr185 fr186 fr187 fr188 fr189 fr190 fr191 fr192 fr193 fr194 fr195 fr196 fr197 fr198 : Value) :
    namedTail1.wp Tryz.prog (bodyPost Tryz.prog Tryz.f10 (fun e w' => e = .returned (.bool true) ∧ Step (fun _ => False) w w')) ⟨(List.toArray ((.int .i64 c) :: (.string se) :: (.string sn) :: (.string sr) :: (.string sb) :: fr5 :: fr6 :: fr7 :: fr8 :: fr9 :: (.bool false) :: (.bool true) :: (.int .i64 (f : Nat)) :: (.slice (some ⟨g4, 0, none⟩) A4.length c4) :: (.string WT) :: fr15 :: fr16 :: fr17 :: fr18 :: fr19 :: fr20 :: fr21 :: fr22 :: fr23 :: fr24 :: fr25 :: fr26 :: fr27 :: fr28 :: fr29 :: fr30 :: fr31 :: fr32 :: fr33 :: fr34 :: fr35 :: fr36 :: fr37 :: fr38 :: fr39 :: fr40 :: fr41 :: fr42 :: fr43 :: fr44 :: fr45 :: fr46 :: fr47 :: fr48 :: fr49 :: fr50 :: fr51 :: fr52 :: fr53 :: fr54 :: fr55 :: fr56 :: fr57 :: fr58 :: fr59 :: fr60 :: fr61 :: fr62 :: fr63 :: fr64 :: fr65 :: fr66 :: fr67 :: fr68 :: fr69 :: fr70 :: fr71 :: fr72 :: fr73 :: fr74 :: fr75 :: fr76 :: fr77 :: fr78 :: fr79 :: fr80 :: fr81 :: fr82 :: fr83 :: fr84 :: fr85 :: fr86 :: fr87 :: fr88 :: fr89 :: fr90 :: fr91 :: fr92 :: fr93 :: fr94 :: fr95 :: fr96 :: fr97 :: fr98 :: fr99 :: fr100 :: fr101 :: fr102 :: fr103 :: fr104 :: fr105 :: fr106 :: fr107 :: fr108 :: fr109 :: fr110 :: fr111 :: fr112 :: fr113 :: fr114 :: fr115 :: fr116 :: fr117 :: fr118 :: fr119 :: fr120 :: fr121 :: fr122 :: fr123 :: fr124 :: fr125 :: fr126 :: fr127 :: fr128 :: fr129 :: fr130 :: fr131 :: fr132 :: fr133 :: fr134 :: fr135 :: fr136 :: fr137 :: fr138 :: fr139 :: fr140 :: fr141 :: fr142 :: fr143 :: fr144 :: fr145 :: fr146 :: fr147 :: fr148 :: fr149 :: fr150 :: fr151 :: fr152 :: fr153 :: fr154 :: fr155 :: fr156 :: fr157 :: fr158 :: fr159 :: fr160 :: fr161 :: fr162 :: fr163 :: fr164 :: fr165 :: fr166 :: fr167 :: fr168 :: fr169 :: fr170 :: fr171 :: fr172 :: fr173 :: fr174 :: fr175 :: fr176 :: fr177 :: fr178 :: fr179 :: fr180 :: fr181 :: fr182 :: fr183 :: fr184 :: fr185 :: fr186 :: fr187 :: fr188 :: fr189 :: fr190 :: fr191 :: fr192 :: fr193 :: fr194 :: fr195 :: fr196 :: fr197 :: fr198 :: [])), []⟩ wc := by
  conv => arg 2; whnf
  obtain ⟨i0, hi, hz0, hz1', hz2⟩ := info_parts Tryz.info5
  have hz1 := (unhide HS1).size
  have hO4 := hO.step ((unhide HS1).trans (unhide HC4).st) (fun _ _ x => x)
  have hzc := (unhide HC4).st.size
  have hconv := conv_str wc sb
  have hcap := grownCap_ge wc sb.size 0 5
  generalize grownCap wc sb.size 0 5 = kc at hconv hcap
  have hbi := str_bytes wc sb kc ((bytesRow sb kc).size, (bytesRow sb kc).size + 1) hcap hb
  have hst5 := str_step wc (.cells (bytesRow sb kc) 5 ((bytesRow sb kc).size, (bytesRow sb kc).size + 1))
  obtain ⟨w5, hw5⟩ : ∃ w5, w5 = wc.drew.alloc (.cells (bytesRow sb kc) 5 ((bytesRow sb kc).size, (bytesRow sb kc).size + 1)) := ⟨_, rfl⟩
  rw [← hw5] at hconv hbi hst5
  clear hw5
  have hz5 := hst5.size
  have HP5 := hide (pack_say 2 0 (by omega) (by omega) _ _ _ (packSaid_stored (bytesOf sb) (by rw [bytesOf_length]; exact hb)) w5 hbi (hO4.step hst5 (fun _ _ x => x)) (by omega))
  have HC5 := hide ((unhide HC4).step hst5)
  clear hbi hst5 HC4
  go_wp2_with fail
  refine (unhide HP5).mono ?_
  rintro r w6 ⟨v6, bits, P, rfl, hp⟩
  have hsl := stoR_len hp.pb
  have hsp := stoR_pos hp.pb
  rw [bytesOf_length] at hsl
  have hplen := hp.len
  have hR := sto_reads hp.pb (fun y hy => bytesOf_lt sb y hy) hp.bin hp.len
  have hPb : ∀ y ∈ P, y < 256 := fun y hy => by
    obtain ⟨i, hi, rfl⟩ := List.getElem_of_mem hy
    have := hp.bin.byte i
    rw [List.getElem?_eq_getElem hi] at this
    exact this
  have hQl : (aroundK 2 P (bytesOf sb)).length = P.length + 18 := by simp [aroundK, aroundG, le4]; try omega
  obtain ⟨gp, cp, hv6, hS6, hgp, _⟩ := src_own hp.row (around_byte 2 P _ hPb) (by omega) (by omega)
  rw [hQl] at hv6
  subst hv6
  have HC6 := hide ((unhide HC5).step hp.st)
  have hz6 := hp.st.size
  have hcp : P.length + 18 ≤ cp := by
    have h9 := hp.row
    rcases h9.2 with ⟨h8, _⟩ | ⟨g, cap, cur, hv, _, _, h8, _⟩
    · cases h8
    · rw [hQl] at h8
      simp only [Value.slice.injEq, Option.some.injEq, Addr.mk.injEq, and_true] at hv
      omega
  have hc6 : ∀ j u, (u8s ((aroundK 2 P (bytesOf sb)).drop 10))[j]? = some u → w6.cell? ((⟨gp, 10, none⟩ : Addr).add j) = some u := by
    intro j u hj
    have hjl : j < ((aroundK 2 P (bytesOf sb)).drop 10).length := by have := (List.getElem?_eq_some_iff.1 hj).1; simpa [u8s] using this
    have e : (⟨gp, 10, none⟩ : Addr).add j = ⟨gp, 0 + (10 + j), none⟩ := by unfold Addr.add; split <;> simp_all
    rw [u8s_get _ j hjl, List.getElem?_drop] at hj
    rw [List.length_drop] at hjl
    rw [e, hS6.cell (10 + j) (by omega)]
    exact hj
  have hdrop : (aroundK 2 P (bytesOf sb)).drop 10 = gzEnd P (bytesOf sb) [] := by simp [aroundK, aroundG, gzEnd]
  rw [hdrop] at hc6
  have hEl6 : (gzEnd P (bytesOf sb) []).length = P.length + 8 := by simp [gzEnd, le4]
  have hEb : AllB (gzEnd P (bytesOf sb) []) := by
    rw [← hdrop]
    exact fun y hy => around_byte 2 P _ hPb y (List.mem_of_mem_drop hy)
  have HST6 := hide hp.st
  have HR := hide hR
  obtain ⟨EE, hEE⟩ : ∃ EE, EE = gzEnd P (bytesOf sb) [] := ⟨_, rfl⟩
  rw [← hEE] at hc6 hEl6 hEb
  have HEE := hide hEE
  have HC6c := hide hc6
  clear hp hR hS6 hc6 hEE HP5 HC5 hdrop hconv
  have hpl9 : P.length ≤ 100000 := by omega
  obtain ⟨pn, hpn⟩ : ∃ pn, pn = P.length := ⟨_, rfl⟩
  rw [← hpn] at hEl6 hcp hpl9 ⊢
  have HPN := hide hpn
  clear hpn hplen hsl hsp hQl
  have k18 : ¬ ((pn : Int) + 18 < 18) := by omega
  have k10 : (10 : Int) ≤ (pn : Int) + 18 := by omega
  have k10c : (pn : Int) + 18 ≤ (cp : Int) := by omega
  go_wp2_with (first
    | (at_builtin; refine wpList_append_row _ rfl (.tmp 141) (.tmp 143) 31 rfl w2.heap.size 5 i0 (.int .u8 0) 1 1 Tryz.underlying31 hi hz0 hz1' hz2 rfl (by decide) _ A4.length (u8s A4) rfl (unhide HC6).row ⟨gp, 10, none⟩ (pn + 8) (cp - 10) (u8s EE) rfl ?a0 (unhide HC6c) ?a1 ?a5 ?a3 ?a4 ?a2 ?_))
  case a0 => rw [u8s_length, hEl6, Nat.mul_one]
  case a1 => intro u hu; simp [u8s] at hu; obtain ⟨x, _, rfl⟩ := hu; rfl
  case a2 => exact (unhide HC6).st.size
  case a3 => unfold maxLen; omega
  case a4 => omega
  case a5 => omega
  intro g7 c7 w7 hown7 hgr7 _
  have hH7 := (unhide HC6).grown (N := EE) (v' := .slice (some ⟨g7, 0, none⟩) (A4.length + (pn + 8)) c7) (Step.refl _ _) hgr7 (by rw [hEl6]; exact hown7)
  have HH7 := hide hH7
  clear hH7 hown7 hgr7 HC6c HC6
  go_wp2_with fail
  have hBall : AllB (A4 ++ EE) := by
    intro y hy
    rcases List.mem_append.1 hy with hy | hy
    · exact hA4b y hy
    · exact hEb y hy
  have hBl : (A4 ++ EE).length = A4.length + (pn + 8) := by rw [List.length_append, hEl6]
  obtain ⟨gq, cq, hvq, hS7, hg7, hg7b⟩ := src_own (unhide HH7).row hBall (by omega) (by omega)
  simp only [Value.slice.injEq, Option.some.injEq, Addr.mk.injEq, and_true] at hvq
  have hvg := hvq.1
  subst hvg
  have hz7 := (unhide HH7).st.size
  have hO7 := hO.step ((unhide HS1).trans (unhide HH7).st) (fun _ _ x => x)
  have hgz : gzAll (A4 ++ EE) (asked ((sb.size : Nat) : Int)) 0 (bytesOf sb) (A4 ++ EE).length (if f / 8 % 2 = 1 then latinB N else []) := by
    rw [asked_nat _ hb]
    have h9 := hBall
    rw [unhide HA4, unhide HEE] at h9 ⊢
    exact nm_read hf (by rw [bytesOf_length]; exact hesz) (by rw [unhide HN]; exact tw_nz _) (by rw [unhide HRm]; exact tw_nz _) (unhide HR) h9 (by rw [bytesOf_length]; omega) (by rw [bytesOf_length]; omega)
  have hU := unpackGz g7 0 c7 0 ((sb.size : Nat) : Int) (A4 ++ EE) (bytesOf sb) (A4 ++ EE).length _ w7 hS7 hg7 hO7 (by omega) hBall (by omega) hgz
  rw [← unhide HWT, hBl] at hU
  obtain ⟨bn, hbn⟩ : ∃ bn, bn = A4.length + (pn + 8) := ⟨_, rfl⟩
  rw [← hbn] at hU hBl ⊢
  have hbn1 : bn ≤ 4000000 ∧ 10 ≤ bn := by omega
  have HU := hide hU
  have HBN := hide hbn
  have HS7 := hide hS7
  have HO7 := hide hO7
  clear hU hgz hS7 hO7 hvq hbn
  refine (unhide HU).mono ?_
  rintro r w8 ⟨v8, rfl, hown8, hs8⟩
  have hz8 := hs8.size
  obtain ⟨xa, xc, hv8⟩ := own_slice hown8
  rw [bytesOf_length] at hv8
  have hcv := owned_string (W := w8.alloc (.cells #[.int .i64 0, v8, .int .i64 (bn : Nat), .string WT] 45)) hown8 (fun k hk => Below.heap_alloc _ _ _ (hown8.lt k hk).2)
  subst hv8
  have HS8 := hide hs8
  clear hown8 hs8 HU
  go_upto_if 171 with fail
  obtain ⟨w9, hw9⟩ : ∃ w9, w9 = w8.alloc (.cells #[.int .i64 0, .slice xa sb.size xc, .int .i64 (bn : Nat), .string WT] 45) := ⟨_, rfl⟩
  have hs79 : Step (fun _ => False) w7 w9 := by rw [hw9]; exact (unhide HS8).alloc _
  have hT9 : w9.heap[w8.heap.size]? = some (.cells #[.int .i64 0, .slice xa sb.size xc, .int .i64 (bn : Nat), .string WT] 45 (0, 0)) := by rw [hw9]; exact heap_alloc_new _ _
  have hS9 := (unhide HS7).step hs79 (fun x => x)
  obtain ⟨cs, hcs⟩ : ∃ cs, w7.heap[g7]? = some (.cells cs 5 (0, 0)) := by
    rcases (unhide HH7).row.2 with ⟨h8, _⟩ | ⟨g, cap, cur, hv, _, hh, _⟩
    · cases h8
    · simp only [Value.slice.injEq, Option.some.injEq, Addr.mk.injEq, and_true] at hv
      rw [hv.1]
      exact ⟨_, hh⟩
  have hb9 := hs79.at_ hcs (fun x => x)
  have hB03 : ∀ i, i < 4 → (A4 ++ EE)[i]?.getD 0 = (hd10 f)[i]?.getD 0 := by
    intro i hi
    rw [unhide HA4]
    unfold hdAll hdA
    simp only [List.append_assoc]
    rw [List.getElem?_append_left (by simp [hd10]; omega)]
  have hf93 := blk_free hb9 3
  have hT9l := lt_of_block hT9
  rw [← hw9]
  clear hw9
  go_cut [] (fun wd => wd = w9)
  case first =>
    go_wp2_with fail
    go_meet
    rfl
  case rest =>
    subst hcut
    rename_i K hK
    refine hK _ _ ?_
    exact named_tail2 c se sn sr sb w wc h1 h2 hO h4 f g7 c7 bn w8.heap.size WT (.slice xa sb.size xc) hf (A4 ++ EE) hBl hbn1 hBall hB03 hS9 hf93 hT9 (by omega) (by omega) (by omega) ((unhide HS1).trans ((unhide HH7).st.trans hs79)) _ _ _ _ _ _ _ _ _ _ _ _ _ _ _ _ _ _ _ _ _ _ _ _ _ _ _ _ _ _ _ _ _ _ _ _ _ _ _ _ _ _ _ _ _ _ _ _ _ _ _ _ _ _ _ _ _ _ _ _ _ _ _ _ _ _ _ _ _ _ _ _ _ _ _ _ _ _ _ _ _ _ _ _ _ _ _ _ _ _ _ _ _ _ _ _ _ _ _ _ _ _ _ _ _ _ _ _ _ _ _ _ _ _ _ _ _ _ _ _ _ _ _ _ _ _ _ _ _ _ _ _ _ _ _ _ _ _ _ _ _ _ _ _ _ _ _ _ _ _ _ _ _ _ _ _ _ _ _ _ _ _ _ _ _ _ _ _ _ _ _ _ _ _ _ _ _ _ _ _ _ _ _ _ _ _ _ _ _
end Go.Proofs.YtbpahojchgpdnaaGreatDoor
